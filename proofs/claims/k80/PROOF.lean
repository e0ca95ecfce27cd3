import PyProof.Rows.All
import Wide.All
import OpenK.AllK
import Wide.FinOn
import HandS.Zip
import HandS.Walk
import PyProof.EnumIter
import HandS.ForMost
import HandS.Wide
import HandS.Style
import HandS.Evl
import HandS.WideBits
import HandS.ClsMeth
import KE.KOpsOwn
import PyProof.TwoTypes
import PyProof.ListMulRoad
import PyProof.NeKinds
import HandS.IsInst
import KE.KEqDict
import HandS.RaiseMore
import HandS.HeadWalk
import HandS.TryMany
import HandS.TryOnly
import HandS.ExcInit
import HandS.ExcField
import HandS.HeadHook4
import HandS.Codes
import PyProof.ReprRoads
import OpenK.KOps
import PyProof.ReprReads
import HandS.FStr
import PyProof.ReprDict
import HandS.Lambda
import HandS.WordsExc
import HandS.Star
import HandS.IntHex
import HandS.RevRange
import PyProof.StrLawsRepr
import HandS.ExcIs
import KE.KExcIs
import PyProof.StrBlock2
import PyProof.FString3
import PyProof.Rows.StrIntSpec
import HandS.Gcd
import HandS.Property
import HandS.AnyAll
import HandS.TupAny
import PyProof.Rows.IntBool
import KE.KFmtOwn
import HandS.Small
import HandS.MakeKw
import HandS.CallLocal
import HandS.SortKw
import KE.KSortKey
import HandS.More
import HandS.Strs
import HandS.DictComp
import HandS.Comp
import HandS.Deep
import HandS.HeadHook3
import HandS.MakeKwOnly
import HandS.Head2
import HandS.HeadHook4
import PySem.Challenge.RW_twozeros_k80_what_rings_refuse
set_option Elab.async false
set_option linter.all false
set_option maxRecDepth 100000
set_option maxHeartbeats 4000000
/-! zip of a list and a tuple -/
namespace TzZip
open PySem
section
variable {prog : Program} {w : World} {A : Around} {E : Value → Shared → Prop} {s : Shared} {z TI TO i1 i2 l1 l2 : Addr} {k : Nat} {xs ys : Array Value} {a b : Value}
/-- the pair of iterators stands at k -/
structure Stand (h : Heap) (z TI TO i1 i2 l1 l2 : Addr) (k : Nat) (a b : Value) : Prop where
  zip : IsZip h z TI TO .none
  its : IsPair h TI (.ref i1) (.ref i2)
  out : IsPair h TO a b
  one : h.IsListIter i1 l1 k
  two : h.IsTupleIter i2 l2 k
/-- all but the four is kept -/
def Kept4 (z TO i1 i2 : Addr) (h h' : Heap) : Prop := ∀ c o, c ≠ z → c ≠ TO → c ≠ i1 → c ≠ i2 → h.get? c = some o → h'.get? c = some o
theorem item {x y : Value} {Q : Value → Shared → Prop} (D : ZipApart z TI TO i1 i2 l1 l2) (st : Stand s.heap z TI TO i1 i2 l1 l2 k a b) (L : s.heap.IsList l1 xs) (U : s.heap.IsTuple l2 ys) (ex : xs[k]? = some x) (ey : ys[k]? = some y)
    (go : ∀ h', IsZip h' z TI TO (rawInt s.heap.objs.size) → IsPair h' TO x y → h'.IsListIter i1 l1 (k + 1) → h'.IsTupleIter i2 l2 (k + 1) → IsPair h' s.heap.objs.size x y → h'.objs.size = s.heap.objs.size + 1 → Kept4 z TO i1 i2 s.heap h' →
      Q (.ref s.heap.objs.size) { s with heap := h' }) : wpAny (model prog w) A (Builtin.«zip.__next__» ⟨[.ref z], []⟩) (fun fin s' => ∃ v, fin = .done (.ret v) ∧ Q v s') E s := by
  obtain ⟨Z0, P0, O0, A0, B0⟩ := st
  show wpAny (model prog w) A (field (.ref z) 2 >>= _) _ E s
  refine wpAny_bind (wpAny_field Z0 rfl (x := Value.bool false) rfl ?_)
  show wpAny (model prog w) A (field (.ref z) 3 >>= _) _ E s
  refine wpAny_bind (wpAny_field Z0 rfl (x := Value.ref TI) rfl (wpAny_bind (wpAny_seqItems P0 rfl ?_)))
  show wpAny (model prog w) A (Builtin.SmallTypes.ownedTupleIsFree (.ref z) >>= _) _ E s
  refine wpAny_bind ?_
  (unfold Builtin.SmallTypes.ownedTupleIsFree; refine wpAny_bind (wpAny_field Z0 rfl (x := Value.none) rfl (wpAny_pure ?_)))
  (simp only [if_true]; refine wpAny_bind (wpAny_rule (wpAny_bind (wpAny_field Z0 rfl (x := Value.ref TO) rfl ?_))))
  refine wpAny_bind (wpAny_setField_rec Z0 (by simp) fun g1 Z1 s1 => wpAny_bind ?_)
  have Z1 : IsZip g1 z TI TO .ellipsis := Z1
  (simp only [List.zipIdx_cons, List.zipIdx_nil, List.forIn_cons, List.forIn_nil]; refine wpAny_bind (wpAny_bind (wpAny_onRaise ?_)))
  -- the list's item
  show wpAny (model prog w) A (Builtin.SmallTypes.nextOf (.ref i1) >>= _) _ _ _
  refine wpAny_bind (wpAny_nextOf_list_item (A0.extBut s1.extBut D.i1z) (L.extBut s1.extBut D.l1z) ex fun g2 A2 s2 => wpAny_pure ?_)
  have O2 : IsPair g2 TO a b := s2.extBut _ _ D.TOi1 (s1.extBut _ _ D.TOz O0)
  refine wpAny_bind (wpAny_seqItems O2 rfl (wpAny_bind (wpAny_updateSeq_pair O2 fun g3 O3 s3 => ?_)))
  have O3 : IsPair g3 TO x b := O3
  refine wpAny_bind (wpAny_letGo (wpAny_pure (wpAny_bind (wpAny_bind (wpAny_onRaise ?_)))))
  -- the tuple's item
  show wpAny (model prog w) A (Builtin.SmallTypes.nextOf (.ref i2) >>= _) _ _ _
  have B3 := ((B0.extBut s1.extBut D.i2z).extBut s2.extBut D.i12.symm).extBut s3.extBut D.TOi2.symm
  have U3 := ((U.extBut s1.extBut D.l2z).extBut s2.extBut D.l2i1).extBut s3.extBut D.l2TO
  refine wpAny_bind (RZ.nextOf_tuple_item B3 U3 ey fun g4 B4 s4 => wpAny_pure ?_)
  have O4 : IsPair g4 TO x b := s4.extBut _ _ D.TOi2 O3
  refine wpAny_bind (wpAny_seqItems O4 rfl (wpAny_bind (wpAny_updateSeq_pair O4 fun g5 O5 s5 => ?_)))
  have O5 : IsPair g5 TO x y := O5
  refine wpAny_bind (wpAny_letGo (wpAny_pure (wpAny_pure ?_)))
  -- the new pair
  refine wpAny_bind (wpAny_seqItems O5 rfl (wpAny_bind (wpAny_newTuple ?_)))
  have size5 : g5.objs.size = s.heap.objs.size := s5.1.trans (s4.1.trans (s3.1.trans (s2.1.trans s1.1)))
  have keep5 : Kept4 z TO i1 i2 s.heap g5 := fun c o n1 n2 n3 n4 e => s5.extBut _ _ n2 (s4.extBut _ _ n4 (s3.extBut _ _ n2 (s2.extBut _ _ n3 (s1.extBut _ _ n1 e))))
  have Z5 : IsZip g5 z TI TO .ellipsis := s5.extBut _ _ D.TOz.symm (s4.extBut _ _ D.i2z.symm (s3.extBut _ _ D.TOz.symm (s2.extBut _ _ D.i1z.symm Z1)))
  have A5 := ((A2.extBut s3.extBut D.TOi1.symm).extBut s4.extBut D.i12).extBut s5.extBut D.TOi1.symm
  have B5 := B4.extBut s5.extBut D.TOi2.symm
  have zlt : z < g5.objs.size := Heap.lt_size Z5
  show wpAny (model prog w) A (Builtin.SmallTypes.ownedTupleHandOut (.ref z) (.ref g5.objs.size) >>= _) _ _ _
  refine wpAny_bind ?_
  (unfold Builtin.SmallTypes.ownedTupleHandOut; skip)
  have Z6 : IsZip (g5.push { cls := Value.type "tuple", data := Data.seq #[x, y] }) z TI TO .ellipsis := Heap.get?_push_of_some _ Z5
  refine wpAny_bind (wpAny_setField_rec Z6 (by simp) fun g7 Z7 s7 => wpAny_setField_rec (show IsZip g7 z TI TO (rawInt g5.objs.size) from Z7) (by simp) fun g8 Z8 s8 => ?_)
  have Z8 : IsZip g8 z TI TO (rawInt g5.objs.size) := Z8
  have up : ∀ c o, c ≠ z → g5.get? c = some o → g8.get? c = some o := fun c o n e => s8.extBut _ _ n (s7.extBut _ _ n (Heap.get?_push_of_some _ e))
  have T8 : IsPair g8 g5.objs.size x y := s8.extBut _ _ (Nat.ne_of_gt zlt) (s7.extBut _ _ (Nat.ne_of_gt zlt) (Heap.get?_push_size _ rfl))
  have size8 : g8.objs.size = g5.objs.size + 1 := s8.1.trans (s7.1.trans (Heap.size_push ..))
  rw [size5] at Z8 T8 size8
  refine wpAny_pure ⟨_, rfl, ?_⟩
  rw [show (Value.ref g5.objs.size) = Value.ref s.heap.objs.size by rw [size5]]
  exact go g8 Z8 (up _ _ D.TOz O5) (A5.at fun o e => up _ o D.i1z e) (B5.at fun o e => up _ o D.i2z e) T8 size8 fun c o n1 n2 n3 n4 e => up c o n1 (keep5 c o n1 n2 n3 n4 e)
theorem stop {Q : Fin → Shared → Prop} (hh : A.handled = none) (D : ZipApart z TI TO i1 i2 l1 l2) (st : Stand s.heap z TI TO i1 i2 l1 l2 k a b) (L : s.heap.IsList l1 xs) (U : s.heap.IsTuple l2 ys) (out : xs[k]? = none ∨ ys[k]? = none)
    (go : ∀ h' e, Kept4 z TO i1 i2 s.heap h' → (∃ o, h'.get? e = some o ∧ o.cls = .type "StopIteration") → E (.ref e) { s with heap := h' }) : wpAny (model prog w) A (Builtin.«zip.__next__» ⟨[.ref z], []⟩) Q E s := by
  obtain ⟨Z0, P0, O0, A0, B0⟩ := st
  show wpAny (model prog w) A (field (.ref z) 2 >>= _) _ E s
  refine wpAny_bind (wpAny_field Z0 rfl (x := Value.bool false) rfl ?_)
  show wpAny (model prog w) A (field (.ref z) 3 >>= _) _ E s
  refine wpAny_bind (wpAny_field Z0 rfl (x := Value.ref TI) rfl (wpAny_bind (wpAny_seqItems P0 rfl ?_)))
  show wpAny (model prog w) A (Builtin.SmallTypes.ownedTupleIsFree (.ref z) >>= _) _ E s
  refine wpAny_bind ?_
  (unfold Builtin.SmallTypes.ownedTupleIsFree; refine wpAny_bind (wpAny_field Z0 rfl (x := Value.none) rfl (wpAny_pure ?_)))
  (simp only [if_true]; refine wpAny_bind (wpAny_rule (wpAny_bind (wpAny_field Z0 rfl (x := Value.ref TO) rfl ?_))))
  refine wpAny_bind (wpAny_setField_rec Z0 (by simp) fun g1 Z1 s1 => wpAny_bind ?_)
  have Z1 : IsZip g1 z TI TO .ellipsis := Z1
  (simp only [List.zipIdx_cons, List.zipIdx_nil, List.forIn_cons, List.forIn_nil]; refine wpAny_bind (wpAny_bind (wpAny_onRaise ?_)))
  show wpAny (model prog w) A (Builtin.SmallTypes.nextOf (.ref i1) >>= _) _ _ _
  have fly : ∀ (g : Heap) (e : Addr), IsZip g z TI TO .ellipsis → (∃ o, g.get? e = some o ∧ o.cls = Value.type "StopIteration") → e ≠ z := fun g e Z ⟨o, h1, h2⟩ q => by
    subst q
    cases Z.symm.trans h1
    simp at h2
  cases ex : xs[k]? with
  | none =>
    refine wpAny_bind (wpAny_nextOf_list_end hh (A0.extBut s1.extBut D.i1z) (L.extBut s1.extBut D.l1z) ex fun g2 e s2 he => ?_)
    have Z2 : IsZip g2 z TI TO .ellipsis := s2 _ _ D.i1z.symm Z1
    have ne := fly g2 e Z2 he
    obtain ⟨o, h1, h2⟩ := he
    exact wpAny_setField_rec Z2 (by simp) fun g3 _ s3 => go g3 e (fun c o n1 _ n3 _ q => s3.extBut _ _ n1 (s2 _ _ n3 (s1.extBut _ _ n1 q))) ⟨o, s3.extBut _ _ ne h1, h2⟩
  | some x =>
    have ey : ys[k]? = none := out.resolve_left (by rw [ex]; simp)
    refine wpAny_bind (wpAny_nextOf_list_item (A0.extBut s1.extBut D.i1z) (L.extBut s1.extBut D.l1z) ex fun g2 A2 s2 => wpAny_pure ?_)
    have O2 : IsPair g2 TO a b := s2.extBut _ _ D.TOi1 (s1.extBut _ _ D.TOz O0)
    refine wpAny_bind (wpAny_seqItems O2 rfl (wpAny_bind (wpAny_updateSeq_pair O2 fun g3 O3 s3 => ?_)))
    refine wpAny_bind (wpAny_letGo (wpAny_pure (wpAny_bind (wpAny_bind (wpAny_onRaise ?_)))))
    show wpAny (model prog w) A (Builtin.SmallTypes.nextOf (.ref i2) >>= _) _ _ _
    have B3 := ((B0.extBut s1.extBut D.i2z).extBut s2.extBut D.i12.symm).extBut s3.extBut D.TOi2.symm
    have U3 := ((U.extBut s1.extBut D.l2z).extBut s2.extBut D.l2i1).extBut s3.extBut D.l2TO
    refine wpAny_bind (RZ.nextOf_tuple_end hh B3 U3 ey fun g4 e s4 he => ?_)
    have Z4 : IsZip g4 z TI TO .ellipsis := s4 _ _ D.i2z.symm (s3.extBut _ _ D.TOz.symm (s2.extBut _ _ D.i1z.symm Z1))
    have ne := fly g4 e Z4 he
    obtain ⟨o, h1, h2⟩ := he
    exact wpAny_setField_rec Z4 (by simp) fun g5 _ s5 => go g5 e (fun c o n1 n2 n3 n4 q => s5.extBut _ _ n1 (s4 _ _ n4 (s3.extBut _ _ n2 (s2.extBut _ _ n3 (s1.extBut _ _ n1 q))))) ⟨o, s5.extBut _ _ ne h1, h2⟩
theorem next_item {x y : Value} {Q : Option Value → Shared → Prop} (D : ZipApart z TI TO i1 i2 l1 l2) (st : Stand s.heap z TI TO i1 i2 l1 l2 k a b) (L : s.heap.IsList l1 xs) (U : s.heap.IsTuple l2 ys) (ex : xs[k]? = some x) (ey : ys[k]? = some y)
    (go : ∀ h', IsZip h' z TI TO (rawInt s.heap.objs.size) → IsPair h' TO x y → h'.IsListIter i1 l1 (k + 1) → h'.IsTupleIter i2 l2 (k + 1) → IsPair h' s.heap.objs.size x y → h'.objs.size = s.heap.objs.size + 1 → Kept4 z TO i1 i2 s.heap h' →
      Q (some (.ref s.heap.objs.size)) { s with heap := h' }) : wpAny (model prog w) A (pyNext (.ref z)) Q E s := by
  have kind : s.TypeIs (.ref z) "zip" := ⟨_, st.zip, rfl⟩
  have inner := item (prog := prog) (w := w) (A := A.in1) (E := fun e s' => E e s') D st L U ex ey (Q := fun v s' => Q (some v) s') go
  unfold pyNext
  refine wpAny_bind (wpAny_attempt (wpAny_callSpecial?_slot (name := Str.ofString "__next__") kind F.slot_zip_next (wpAny_call_entry F.slot_zip_next kind F.entry_zip_next ?_ (F.args_zip_next_1 _))))
  exact item D st L U ex ey fun h' a1 a2 a3 a4 a5 a6 a7 => wpAny_pure (go h' a1 a2 a3 a4 a5 a6 a7)
theorem next_stop {Q : Option Value → Shared → Prop} (hh : A.handled = none) (D : ZipApart z TI TO i1 i2 l1 l2) (st : Stand s.heap z TI TO i1 i2 l1 l2 k a b) (L : s.heap.IsList l1 xs) (U : s.heap.IsTuple l2 ys) (out : xs[k]? = none ∨ ys[k]? = none)
    (go : ∀ h', Kept4 z TO i1 i2 s.heap h' → Q none { s with heap := h' }) : wpAny (model prog w) A (pyNext (.ref z)) Q E s := by
  have kind : s.TypeIs (.ref z) "zip" := ⟨_, st.zip, rfl⟩
  unfold pyNext
  refine wpAny_bind (wpAny_attempt (wpAny_callSpecial?_slot (name := Str.ofString "__next__") kind F.slot_zip_next (wpAny_call_entry F.slot_zip_next kind F.entry_zip_next ?_ (F.args_zip_next_1 _))))
  refine stop hh D st L U out fun h' e kept he => ?_
  obtain ⟨o, h1, h2⟩ := he
  exact wpAny_bind (wpAny_isInstance (T := "StopIteration") (b := true) ⟨o, h1, h2⟩ isSubtype_stop (wpAny_pure (go _ kept)))
end
/-! the new one -/
def h1 (h : Heap) (l1 : Addr) : Heap := h.push { cls := .type "list_iterator", data := .fields #[.ref l1, .int 0 0] }
def h2 (h : Heap) (l1 l2 : Addr) : Heap := (h1 h l1).push { cls := .type "tuple_iterator", data := .fields #[.ref l2, .int 0 0] }
def h3 (h : Heap) (l1 l2 : Addr) : Heap := (h2 h l1 l2).push { cls := .type "tuple", data := .seq #[.ref h.objs.size, .ref (h1 h l1).objs.size] }
def h4 (h : Heap) (l1 l2 : Addr) : Heap := (h3 h l1 l2).push { cls := .type "tuple", data := .seq #[.none, .none] }
def h5 (h : Heap) (l1 l2 : Addr) : Heap := (h4 h l1 l2).push { cls := .type "zip", data := .fields #[.none, .bool false, .bool false, .ref (h2 h l1 l2).objs.size, .ref (h3 h l1 l2).objs.size] }
theorem makes (l1 l2 : Addr) (xs ys : Array Value) : Meets (Builtin.«zip.__new__» ⟨[.type "zip", .ref l1, .ref l2], []⟩) (fun _ R s => s.heap.IsList l1 xs ∧ s.heap.IsTuple l2 ys ∧ R (.ok (.ret (.ref (h4 s.heap l1 l2).objs.size))) { s with heap := h5 s.heap l1 l2 }) :=
  .of_wp fun prog w A R s ok => by
    obtain ⟨hp, g, d, tk, os⟩ := s
    obtain ⟨L, U, ok⟩ := ok
    have isub := sub_zip
    have L1 : Heap.IsList (Shared.heap ⟨hp, g, d, tk, os⟩) l1 xs := L
    have U1 : Heap.IsTuple (Shared.heap ⟨h1 hp l1, g, d, tk, os⟩) l2 ys := Heap.IsTuple.push U _
    unfold h1 at U1
    wp_walk using wpAny_pyIter_list L1, wpAny_pyIter_tuple U1
    exact ⟨_, rfl, ok⟩
theorem call_zipM {prog : Program} {w : World} {A : Around} {E : Value → Shared → Prop} {s : Shared} {l1 l2 : Addr} {xs ys : Array Value} {Q : Value → Shared → Prop} (L : s.heap.IsList l1 xs) (U : s.heap.IsTuple l2 ys)
    (go : ∀ h', Stand h' (s.heap.objs.size + 4) (s.heap.objs.size + 2) (s.heap.objs.size + 3) s.heap.objs.size (s.heap.objs.size + 1) l1 l2 0 .none .none → (∀ c o, s.heap.get? c = some o → h'.get? c = some o) → Q (.ref (s.heap.objs.size + 4)) { s with heap := h' }) :
    wpAny (model prog w) A (call (.type "zip") [.ref l1, .ref l2]) Q E s := by
  refine callType_new F.called_zip (by decide) (F.typeCall_zip_2 _ _) (F.newCall_zip_2 _ _) (fun obj => F.args_object_init_3 obj _ _) F.entry_zip_new (makes l1 l2 xs ys) ⟨L, U, ?_⟩
  have e1 : (h1 s.heap l1).objs.size = s.heap.objs.size + 1 := Heap.size_push ..
  have e2 : (h2 s.heap l1 l2).objs.size = s.heap.objs.size + 2 := (Heap.size_push ..).trans (by rw [e1])
  have e3 : (h3 s.heap l1 l2).objs.size = s.heap.objs.size + 3 := (Heap.size_push ..).trans (by rw [e2])
  have e4 : (h4 s.heap l1 l2).objs.size = s.heap.objs.size + 4 := (Heap.size_push ..).trans (by rw [e3])
  have up3 : ∀ c o, (h3 s.heap l1 l2).get? c = some o → (h5 s.heap l1 l2).get? c = some o := fun c o q => Heap.get?_push_of_some _ (Heap.get?_push_of_some _ q)
  have up1 : ∀ c o, (h1 s.heap l1).get? c = some o → (h5 s.heap l1 l2).get? c = some o := fun c o q => up3 c o (Heap.get?_push_of_some _ (Heap.get?_push_of_some _ q))
  have g5 : (h5 s.heap l1 l2).get? (h4 s.heap l1 l2).objs.size = some { cls := .type "zip", data := .fields #[.none, .bool false, .bool false, .ref (h2 s.heap l1 l2).objs.size, .ref (h3 s.heap l1 l2).objs.size] } := Heap.get?_push_size _ rfl
  have g4 : (h5 s.heap l1 l2).get? (h3 s.heap l1 l2).objs.size = some { cls := .type "tuple", data := .seq #[.none, .none] } := Heap.get?_push_of_some _ (Heap.get?_push_size _ rfl)
  have g3 : (h5 s.heap l1 l2).get? (h2 s.heap l1 l2).objs.size = some { cls := .type "tuple", data := .seq #[.ref s.heap.objs.size, .ref (h1 s.heap l1).objs.size] } := up3 _ _ (Heap.get?_push_size _ rfl)
  have g2 : (h5 s.heap l1 l2).get? (h1 s.heap l1).objs.size = some { cls := .type "tuple_iterator", data := .fields #[.ref l2, .int 0 0] } := up3 _ _ (Heap.get?_push_of_some _ (Heap.get?_push_size _ rfl))
  have g1 : (h5 s.heap l1 l2).get? s.heap.objs.size = some { cls := .type "list_iterator", data := .fields #[.ref l1, .int 0 0] } := up1 _ _ (Heap.get?_push_size _ rfl)
  show _ ∧ _
  rw [e2, e3, e4] at g5
  rw [e1, e2] at g3
  rw [e3] at g4
  rw [e1] at g2
  rw [e4]
  exact ⟨⟨_, g5, rfl⟩, go _ ⟨g5, g3, g4, ⟨_, g1, rfl, rfl⟩, ⟨_, g2, rfl, rfl⟩⟩ fun c o q => up1 c o (Heap.get?_push_of_some _ q)⟩
end TzZip
namespace TzZip
open PySem PySem.Spec PyProof.Rows L2
/-- the list at a and the tuple at b, in new pairs -/
def ItM (K : PySem.W.Frag) (a b : Addr) : It :=
  ⟨fun i H => ∃ (xs ys : List V) (x y : V), SqL K H a xs ∧ SqT K H b ys ∧ xs[i]? = some x ∧ ys[i]? = some y,
    fun i H v H' => ∃ T x y, v = .ref T ∧ H T = none ∧ H' = upd H T (.tup [x, y]) ∧ (∀ xs, SqL K H a xs → xs[i]? = some x) ∧ ∀ ys, SqT K H b ys → ys[i]? = some y,
    fun i H => ∃ xs ys : List V, SqL K H a xs ∧ SqT K H b ys ∧ (xs.length ≤ i ∨ ys.length ≤ i)⟩
theorem five {z TI TO i1 i2 c : Addr} (h : c ∈ [z, TI, TO, i1, i2]) : c = z ∨ c = TI ∨ c = TO ∨ c = i1 ∨ c = i2 := by simpa using h
theorem turnM {P : Program} {w : World} {K : PySem.W.Frag} {elts : List Expr} {kk : Nat} {tpos : Pos} {a b z TI TO i1 i2 : Addr} (D : ZipApart z TI TO i1 i2 a b) :
    Turn P w K (.Tuple elts kk tpos) (ItM K a b) [z, TI, TO, i1, i2] z (fun i h => ∃ x y, Stand h z TI TO i1 i2 a b i x y) where
  mem := List.mem_cons_self
  obj := fun i h ⟨x, y, st⟩ c hc => by
    obtain ⟨o1, q1, _, d1⟩ := id st.one
    obtain ⟨o2, q2, _, d2⟩ := id st.two
    rcases five hc with rfl | rfl | rfl | rfl | rfl
    · exact ⟨_, st.zip, fun v q => nomatch q⟩
    · exact ⟨_, st.its, fun v q => nomatch q⟩
    · exact ⟨_, st.out, fun v q => nomatch q⟩
    · exact ⟨o1, q1, fun v q => by cases d1.symm.trans q⟩
    · exact ⟨o2, q2, fun v q => by cases d2.symm.trans q⟩
  keep := fun i h h' ⟨x, y, st⟩ k => ⟨x, y, k z (by simp) _ st.zip, k TI (by simp) _ st.its, k TO (by simp) _ st.out, st.one.at fun o q => k i1 (by simp) o q, st.two.at fun o q => k i2 (by simp) o q⟩
  item := by
    intro X eP ew eK calm i pins s σ H E I apart st turn
    subst eP ew eK
    obtain ⟨x0, y0, st⟩ := st
    obtain ⟨xs, ys, x, y, sx, sy, gx, gy⟩ := turn
    obtain ⟨us, rx, px, _⟩ := I.list sx
    obtain ⟨vs, ry, py, _⟩ := I.tuple sy
    obtain ⟨u, gu, ru⟩ := rx.get gx
    obtain ⟨v, gv, rv⟩ := ry.get gy
    have zlt : z < s.heap.objs.size := Heap.lt_size st.zip
    refine next_item D st px.isList py (x := u) (y := v) (by simpa using gu) (by simpa using gv) fun g1 Z1 O1 A1 B1 T1 size1 kept1 => ⟨_, rfl, ?_⟩
    refine wpAny_letOwnedTupleGo_zip (s := { s with heap := g1 }) Z1 fun g2 Z2 same => ?_
    have T2 : g2.get? s.heap.objs.size = some { cls := .type "tuple", data := .seq #[u, v] } := (same.2 _ (Nat.ne_of_gt zlt)).trans T1
    have made : ObjOk X.prog X.w (upd H s.heap.objs.size (.tup [x, y])) g2 s.heap.objs.size (.tup [x, y]) := ⟨by show 2 ≤ sizeLine; decide, [u, v], .cons ru (.cons rv .nil), ⟨_, T2, rfl, _, rfl⟩⟩
    have keeps : ∀ c o, c ∉ [z, TI, TO, i1, i2] → s.heap.get? c = some o → g2.get? c = some o := fun c o n q => by
      have n : c ≠ z ∧ c ≠ TI ∧ c ≠ TO ∧ c ≠ i1 ∧ c ≠ i2 := by simpa using n
      exact (same.2 c n.1).trans (kept1 c o n.1 n.2.2.1 n.2.2.2.1 n.2.2.2.2 q)
    have I2 : Inv X pins σ (upd H s.heap.objs.size (.tup [x, y])) { s with heap := g2 } := I.turnedNew (t' := s.toks) (ch := [z, TI, TO, i1, i2]) keeps apart (Nat.le_refl _) made
    refine ⟨.ref s.heap.objs.size, _, I2, rfl, ⟨_, x, y, rfl, I.hok.fresh (Nat.le_refl _), rfl, fun l q => by rw [I.list_inj q sx]; exact gx, fun l q => by rw [I.tuple_inj q sy]; exact gy⟩,
      ⟨u, v, Z2, (same.2 _ D.TIz).trans (kept1 _ _ D.TIz D.TITO D.TIi1 D.TIi2 st.its), (same.2 _ D.TOz).trans O1, A1.at fun o q => (same.2 _ D.i1z).trans q, B1.at fun o q => (same.2 _ D.i2z).trans q⟩, fun c m => ?_⟩
    have lt : c < s.heap.objs.size := by
      obtain ⟨o1, q1, _⟩ := id st.one
      obtain ⟨o2, q2, _⟩ := id st.two
      rcases five m with rfl | rfl | rfl | rfl | rfl
      · exact zlt
      · exact Heap.lt_size st.its
      · exact Heap.lt_size st.out
      · exact Heap.lt_size q1
      · exact Heap.lt_size q2
    rw [upd_ne (Nat.ne_of_lt lt)]
    exact (apart c m).1
  done := by
    intro X eP ew eK calm i pins s σ H E I apart st turn
    subst eP ew eK
    obtain ⟨x0, y0, st⟩ := st
    obtain ⟨xs, ys, sx, sy, ends⟩ := turn
    obtain ⟨us, rx, px, _⟩ := I.list sx
    obtain ⟨vs, ry, py, _⟩ := I.tuple sy
    have n1 := rx.length
    have n2 := ry.length
    have out : us.toArray[i]? = none ∨ vs.toArray[i]? = none := ends.elim (fun q => .inl (by simp; omega)) fun q => .inr (by simp; omega)
    refine next_stop (I.ok.hd calm) D st px.isList py out fun g kept => ⟨rfl, I.turnedL (t' := s.toks) (ch := [z, TI, TO, i1, i2]) (fun c o n q => ?_) apart⟩
    have n : c ≠ z ∧ c ≠ TI ∧ c ≠ TO ∧ c ≠ i1 ∧ c ≠ i2 := by simpa using n
    exact kept c o n.1 n.2.2.1 n.2.2.2.1 n.2.2.2.2 q
  self := fun A i s Q E ⟨x, y, st⟩ q => wpAny_pyIter_zip st.zip q
def iZipM (K : PySem.W.Frag) (ta : TA) : TI := fun σ H R => ta σ H fun vs H1 => ∃ a b xs ys, vs = [.ref a, .ref b] ∧ SqL K H1 a xs ∧ SqT K H1 b ys ∧ R (ItM K a b) H1
theorem pi_zipM {X : Cx} {e e2 : Expr} {ta : TA} {p pos tpos : Pos} {elts : List Expr} {kk : Nat} (hg : Gl X "zip") (hm : X.mg "zip" = none) (ha : PA X [e, e2] ta)
    (hs : starEach [e, e2] X.env = (false, eval e X.env) :: starEach [e2] X.env := by rfl) (hpl : (backTo pos (starEach [e2] X.env)).any (·.1) = false := by rfl) :
    PI X (.Tuple elts kk tpos) (.Call (.Name "zip" p) [e, e2] [] pos) (iZipM X.K ta) := by
  refine ⟨fun pins s σ H R I h => Call_ (ld_blt I hg hm PyProof.Rows.boot_zip (PyProof.Rows.callWith_type1 (thn (ha.run pos pins s σ H _ I h) fun us s1 ⟨vs, H1, I1, r1, got⟩ => ?_) hs hpl))⟩
  obtain ⟨a, b, xs, ys, rfl, sx, sy, q⟩ := got
  cases r1 with
  | cons ra rr =>
  cases rr with
  | cons rb rr =>
    cases rr
    cases ra
    cases rb
    obtain ⟨us, rx, px, _⟩ := I1.list sx
    obtain ⟨vs, ry, py, _⟩ := I1.tuple sy
    have la : a < s1.heap.objs.size := px.lt
    have lb : b < s1.heap.objs.size := by
      obtain ⟨o, q, _⟩ := id py
      exact Heap.lt_size q
    refine call_zipM px.isList (show s1.heap.IsTuple b vs.toArray from py) fun g st kept => wpAny_pyIter_zip st.zip ?_
    have apart := PySem.W.ktu_apart s1.heap.objs.size a b la lb
    have fresh : ∀ c, s1.heap.objs.size ≤ c → FpOk X pins H1 c := fun c le => I1.fpOk le (I1.hok.fresh le)
    have I2 : Inv X pins σ H1 { s1 with heap := g } := I1.kept (t' := s1.toks) kept
    obtain ⟨N, eN⟩ : ∃ N, N = s1.heap.objs.size := ⟨_, rfl⟩
    rw [← eN] at st apart fresh ⊢
    have fr : ∀ c, c ∈ [N + 4, N + 2, N + 3, N, N + 1] → FpOk X pins H1 c := fun c m => by
      rcases five m with e | e | e | e | e
      · exact fresh c (e ▸ Nat.le_add_right _ 4)
      · exact fresh c (e ▸ Nat.le_add_right _ 2)
      · exact fresh c (e ▸ Nat.le_add_right _ 3)
      · exact fresh c (Nat.le_of_eq e.symm)
      · exact fresh c (e ▸ Nat.le_add_right _ 1)
    exact ⟨N + 4, [N + 4, N + 2, N + 3, N, N + 1], (fun i h => ∃ x y, Stand h (N + 4) (N + 2) (N + 3) N (N + 1) a b i x y), ItM X.K a b, H1, rfl, I2, turnM apart, ⟨_, _, st⟩, fr, q⟩
theorem walkM {K : PySem.W.Frag} {a b : Addr} {xs ys : List V} {n : Nat} (hn : n = min xs.length ys.length) : Walk (ItM K a b) n (fun H => SqL K H a xs ∧ SqT K H b ys) (YPair (fun i => xs[i]?) (fun i => ys[i]?)) := by
  subst hn
  refine ⟨fun i _ hi q => ?_, fun _ q => ⟨xs, ys, q.1, q.2, by omega⟩, fun i H v H' _ q y => ?_⟩
  · exact ⟨xs, ys, xs[i]'(by omega), ys[i]'(by omega), q.1, q.2, by simp [show i < xs.length by omega], by simp [show i < ys.length by omega]⟩
  · obtain ⟨T, x, z, e1, e2, e3, e4, e5⟩ := y
    exact ⟨T, x, z, e1, e2, e3, e4 xs q.1, e5 ys q.2⟩
end TzZip
/-! enumerate of a tuple -/
namespace TzEnum
open PySem
section
variable {prog : Program} {w : World} {A : Around} {E : Value → Shared → Prop} {s : Shared} {e it l : Addr} {i : Nat} {xs : Array Value} {old : Value}
/-- all but the two is kept -/
def Kept2 (e it : Addr) (h h' : Heap) : Prop := ∀ b o, b ≠ e → b ≠ it → h.get? b = some o → h'.get? b = some o
theorem item {x : Value} {Q : Value → Shared → Prop} (en : IsEnum s.heap e it i old) (at_ : s.heap.IsTupleIter it l i) (U : s.heap.IsTuple l xs) (ex : xs[i]? = some x) (ne : e ≠ it)
    (go : ∀ h', IsEnumOut h' e it ((i : Int) + 1) x s.heap.objs.size → h'.IsTupleIter it l (i + 1) → h'.get? s.heap.objs.size = some { cls := Value.type "tuple", data := Data.seq #[Value.int i s.toks, x] } → h'.objs.size = s.heap.objs.size + 1 → Kept2 e it s.heap h' →
      Q (.ref s.heap.objs.size) { s with heap := h', toks := s.toks + 1 }) : wpAny (model prog w) A (Builtin.«enumerate.__next__» ⟨[.ref e], []⟩) (fun fin s' => ∃ v, fin = .done (.ret v) ∧ Q v s') E s := by
  obtain ⟨g0, gs, dr, tk, os⟩ := s
  show wpAny (model prog w) A (field (.ref e) 2 >>= _) _ E _
  refine wpAny_bind (wpAny_field en rfl (x := Value.ref it) rfl (wpAny_bind (RZ.nextOf_tuple_item at_ U ex fun g1 at1 s1 => ?_)))
  have s1 : Heap.SameBut it g0 g1 := s1
  have en1 : IsEnum g1 e it i old := (s1.2 e ne).trans en
  show wpAny (model prog w) A (field (.ref e) 3 >>= _) _ E _
  refine wpAny_bind (wpAny_field en1 rfl (x := rawInt i) rfl ?_)
  show wpAny (model prog w) A (field (.ref e) 4 >>= _) _ E _
  refine wpAny_bind (wpAny_field en1 rfl (x := Value.none) rfl ?_)
  show wpAny (model prog w) A (mkInt i >>= _) _ E _
  refine wpAny_bind (wpAny_mkInt ?_)
  show wpAny (model prog w) A (setField (.ref e) 3 (rawInt ((i : Int) + 1)) >>= _) _ E _
  refine wpAny_bind (wpAny_setField_rec en1 (by simp) fun g2 en2 s2 => ?_)
  have en2 : IsEnum g2 e it ((i : Int) + 1) old := en2
  show wpAny (model prog w) A (setField (.ref e) 4 .none >>= _) _ E _
  refine wpAny_bind (wpAny_setField_rec en2 (by simp) fun g3 en3 s3 => ?_)
  have en3 : IsEnum g3 e it ((i : Int) + 1) old := en3
  show wpAny (model prog w) A (newTuple [.int i tk, x] >>= _) _ E _
  refine wpAny_bind (wpAny_newTuple ?_)
  have size3 : g3.objs.size = g0.objs.size := s3.1.trans (s2.1.trans s1.1)
  obtain ⟨g4, e4⟩ : ∃ g4, g4 = g3.push { cls := Value.type "tuple", data := Data.seq #[Value.int i tk, x] } := ⟨_, rfl⟩
  rw [← e4, size3]
  have en4 : IsEnum g4 e it ((i : Int) + 1) old := by
    rw [e4]
    exact Heap.get?_push_of_some _ en3
  have T4 : g4.get? g0.objs.size = some { cls := Value.type "tuple", data := Data.seq #[Value.int i tk, x] } := by
    rw [e4, ← size3]
    exact Heap.get?_push_size _ rfl
  have size4 : g4.objs.size = g0.objs.size + 1 := by rw [e4, Heap.size_push, size3]
  have keep4 : Kept2 e it g0 g4 := fun b o n1 n2 q => by
    rw [e4]
    exact Heap.get?_push_of_some _ (s3.extBut b o n1 (s2.extBut b o n1 (s1.extBut b o n2 q)))
  have at4 : g4.IsTupleIter it l (i + 1) := by
    rw [e4]
    exact ((at1.extBut s2.extBut ne.symm).extBut s3.extBut ne.symm).at fun o q => Heap.get?_push_of_some _ q
  have lt : e < g0.objs.size := Heap.lt_size en
  show wpAny (model prog w) A (Builtin.SmallTypes.ownedTupleIsFree (.ref e) >>= _) _ E _
  refine wpAny_bind ?_
  (unfold Builtin.SmallTypes.ownedTupleIsFree; refine wpAny_bind (wpAny_field en4 rfl (x := Value.none) rfl (wpAny_pure ?_)))
  (simp only [if_true]; refine wpAny_bind (wpAny_rule (wpAny_bind (wpAny_field en4 rfl (x := old) rfl ?_))))
  refine wpAny_bind (wpAny_setField_rec en4 (by simp) fun g5 en5 s5 => ?_)
  have en5 : IsEnum g5 e it ((i : Int) + 1) x := en5
  show wpAny (model prog w) A (Builtin.SmallTypes.ownedTupleHandOut (.ref e) (.ref g0.objs.size) >>= _) _ E _
  refine wpAny_bind ?_
  (unfold Builtin.SmallTypes.ownedTupleHandOut; skip)
  refine wpAny_bind (wpAny_setField_rec en5 (by simp) fun g6 en6 s6 => wpAny_setField_rec (show IsEnumOut g6 e it ((i : Int) + 1) x g0.objs.size from en6) (by simp) fun g7 en7 s7 => ?_)
  have en7 : IsEnumOut g7 e it ((i : Int) + 1) x g0.objs.size := en7
  have up : ∀ b o, b ≠ e → g4.get? b = some o → g7.get? b = some o := fun b o n q => s7.extBut b o n (s6.extBut b o n (s5.extBut b o n q))
  refine wpAny_bind (wpAny_letGo (wpAny_pure ⟨_, rfl, go g7 en7 (at4.at fun o q => up _ o ne.symm q) (up _ _ (Nat.ne_of_gt lt) T4) ?_ fun b o n1 n2 q => up b o n1 (keep4 b o n1 n2 q)⟩))
  exact s7.1.trans (s6.1.trans (s5.1.trans size4))
theorem next_item {x : Value} {Q : Option Value → Shared → Prop} (en : IsEnum s.heap e it i old) (at_ : s.heap.IsTupleIter it l i) (U : s.heap.IsTuple l xs) (ex : xs[i]? = some x) (ne : e ≠ it)
    (go : ∀ h', IsEnumOut h' e it ((i : Int) + 1) x s.heap.objs.size → h'.IsTupleIter it l (i + 1) → h'.get? s.heap.objs.size = some { cls := Value.type "tuple", data := Data.seq #[Value.int i s.toks, x] } → h'.objs.size = s.heap.objs.size + 1 → Kept2 e it s.heap h' →
      Q (some (.ref s.heap.objs.size)) { s with heap := h', toks := s.toks + 1 }) : wpAny (model prog w) A (pyNext (.ref e)) Q E s := by
  have kind : s.TypeIs (.ref e) "enumerate" := ⟨_, en, rfl⟩
  unfold pyNext
  refine wpAny_bind (wpAny_attempt (wpAny_callSpecial?_slot (name := Str.ofString "__next__") kind F.slot_enumerate_next (wpAny_call_entry F.slot_enumerate_next kind F.entry_enumerate_next ?_ (F.args_enumerate_next_1 _))))
  exact item en at_ U ex ne fun h' a1 a2 a3 a4 a5 => wpAny_pure (go h' a1 a2 a3 a4 a5)
theorem next_stop {Q : Option Value → Shared → Prop} (hh : A.handled = none) (en : IsEnum s.heap e it i old) (at_ : s.heap.IsTupleIter it l i) (U : s.heap.IsTuple l xs) (ex : xs[i]? = none) (go : ∀ h', Heap.ExtBut it s.heap h' → Q none { s with heap := h' }) :
    wpAny (model prog w) A (pyNext (.ref e)) Q E s := by
  have kind : s.TypeIs (.ref e) "enumerate" := ⟨_, en, rfl⟩
  unfold pyNext
  refine wpAny_bind (wpAny_attempt (wpAny_callSpecial?_slot (name := Str.ofString "__next__") kind F.slot_enumerate_next (wpAny_call_entry F.slot_enumerate_next kind F.entry_enumerate_next ?_ (F.args_enumerate_next_1 _))))
  show wpAny _ _ (field (.ref e) 2 >>= _) _ _ s
  refine wpAny_bind (wpAny_field en rfl (x := Value.ref it) rfl (wpAny_bind (RZ.nextOf_tuple_end hh at_ U ex fun g x ext hx => ?_)))
  obtain ⟨o, q1, q2⟩ := hx
  exact wpAny_bind (wpAny_isInstance (T := "StopIteration") (b := true) ⟨o, q1, q2⟩ isSubtype_stop (wpAny_pure (go _ ext)))
end
theorem makes (l : Addr) (xs : Array Value) : Meets (Builtin.«enumerate.__new__» ⟨[.type "enumerate", .ref l], []⟩) (fun _ R s => s.heap.IsTuple l xs ∧
      R (.ok (.ret (.ref (s.heap.push { cls := Value.type "tuple_iterator", data := Data.fields #[Value.ref l, Value.int 0 0] }).objs.size)))
        { s with heap := (s.heap.push { cls := Value.type "tuple_iterator", data := Data.fields #[Value.ref l, Value.int 0 0] }).push { cls := Value.type "enumerate", data := Data.fields #[Value.none, Value.bool false, Value.ref s.heap.objs.size, rawInt 0, Value.none, Value.none] } }) :=
  .of_wp fun prog w A R s ok => by
    obtain ⟨hp, g, d, tk, os⟩ := s
    obtain ⟨U, ok⟩ := ok
    have isub := sub_enumerate
    have U1 : Heap.IsTuple (Shared.heap ⟨hp, g, d, tk, os⟩) l xs := U
    obtain ⟨o, ho, _⟩ := id U1
    wp_walk using AutoSeq1.wpAny_loadPart' ho
    refine wpAny_stack_any fun st => wpAny_pure ?_
    split
    · rename_i c _ _ _ _ _
      cases (c == Value.type "enumerate") <;> (wp_walk using AutoSeq1.wpAny_loadPart' ho, wpAny_pyIter_tuple U1; exact ⟨_, rfl, ok⟩)
    · wp_walk using AutoSeq1.wpAny_loadPart' ho, wpAny_pyIter_tuple U1
      exact ⟨_, rfl, ok⟩
theorem call_enumT {prog : Program} {w : World} {A : Around} {E : Value → Shared → Prop} {s : Shared} {l : Addr} {xs : Array Value} {Q : Value → Shared → Prop} (U : s.heap.IsTuple l xs)
    (go : ∀ h', IsEnum h' (s.heap.objs.size + 1) s.heap.objs.size 0 .none → h'.IsTupleIter s.heap.objs.size l 0 → (∀ b o, s.heap.get? b = some o → h'.get? b = some o) → Q (.ref (s.heap.objs.size + 1)) { s with heap := h' }) :
    wpAny (model prog w) A (call (.type "enumerate") [.ref l]) Q E s := by
  refine callType_new F.called_enumerate (by decide) (F.typeCall_enumerate_1 _) (F.newCall_enumerate_1 _) (fun obj => F.args_object_init_2 obj _) F.entry_enumerate_new (makes l xs) ⟨U, ?_⟩
  obtain ⟨g1, e1⟩ : ∃ g1, g1 = s.heap.push { cls := Value.type "tuple_iterator", data := Data.fields #[Value.ref l, Value.int 0 0] } := ⟨_, rfl⟩
  have z1 : g1.objs.size = s.heap.objs.size + 1 := by
    rw [e1]
    exact Heap.size_push ..
  have q1 : g1.get? s.heap.objs.size = some { cls := Value.type "tuple_iterator", data := Data.fields #[Value.ref l, Value.int 0 0] } := by
    rw [e1]
    exact Heap.get?_push_size _ rfl
  have k1 : ∀ b o, s.heap.get? b = some o → g1.get? b = some o := fun b o q => by
    rw [e1]
    exact Heap.get?_push_of_some _ q
  show _ ∧ _
  rw [← e1]
  have q2 : (g1.push { cls := Value.type "enumerate", data := Data.fields #[Value.none, Value.bool false, Value.ref s.heap.objs.size, rawInt 0, Value.none, Value.none] }).get? g1.objs.size = some { cls := Value.type "enumerate", data := Data.fields #[Value.none, Value.bool false, Value.ref s.heap.objs.size, rawInt 0, Value.none, Value.none] } := Heap.get?_push_size _ rfl
  rw [z1] at q2 ⊢
  exact ⟨⟨_, q2, rfl⟩, go _ q2 ⟨_, Heap.get?_push_of_some _ q1, rfl, rfl⟩ fun b o q => Heap.get?_push_of_some _ (k1 b o q)⟩
end TzEnum
namespace TzEnum
open PySem PySem.Spec PyProof.Rows L2
/-- the tuple at a, each item in a new pair behind its place -/
def ItT (K : PySem.W.Frag) (a : Addr) : It :=
  ⟨fun i H => ∃ (xs : List V) (x : V), SqT K H a xs ∧ xs[i]? = some x, fun i H v H' => ∃ T x, v = .ref T ∧ H T = none ∧ H' = upd H T (.tup [.int (i : Nat), x]) ∧ ∀ xs, SqT K H a xs → xs[i]? = some x, fun i H => ∃ xs : List V, SqT K H a xs ∧ xs.length ≤ i⟩
theorem turnT {P : Program} {w : World} {K : PySem.W.Frag} {elts : List Expr} {kk : Nat} {tpos : Pos} (a e it : Addr) :
    Turn P w K (.Tuple elts kk tpos) (ItT K a) [e, it] e (fun i h => (∃ old, IsEnum h e it ((i : Nat) : Int) old) ∧ h.IsTupleIter it a i ∧ e ≠ it) where
  mem := List.mem_cons_self
  obj := fun i h ⟨⟨old, en⟩, at_, ne⟩ b m => by
    obtain ⟨o, q, _, d⟩ := id at_
    rcases (show b = e ∨ b = it by simpa using m) with rfl | rfl
    · exact ⟨_, en, fun v z => nomatch z⟩
    · exact ⟨o, q, fun v z => by cases d.symm.trans z⟩
  keep := fun i h h' ⟨⟨old, en⟩, at_, ne⟩ k => ⟨⟨old, k e (by simp) _ en⟩, at_.at fun o q => k it (by simp) o q, ne⟩
  item := by
    intro X eP ew eK calm i pins s σ H E I apart st turn
    subst eP ew eK
    obtain ⟨⟨old, en⟩, at_, ne⟩ := st
    obtain ⟨xs, x, sx, gx⟩ := turn
    obtain ⟨us, rx, px, _⟩ := I.tuple sx
    obtain ⟨u, gu, ru⟩ := rx.get gx
    have lt : e < s.heap.objs.size := Heap.lt_size en
    have lt2 : it < s.heap.objs.size := by
      obtain ⟨_, q, _⟩ := id at_
      exact Heap.lt_size q
    refine next_item en at_ px (x := u) (by simpa using gu) ne fun g1 en1 at1 T1 _ kept => ⟨_, rfl, ?_⟩
    refine wpAny_letOwnedTupleGo_enum (s := { s with heap := g1, toks := s.toks + 1 }) en1 fun g2 en2 same => ?_
    have T2 : g2.get? s.heap.objs.size = some { cls := Value.type "tuple", data := Data.seq #[Value.int i s.toks, u] } := (same.2 _ (Nat.ne_of_gt lt)).trans T1
    have made : ObjOk X.prog X.w (upd H s.heap.objs.size (.tup [.int (i : Nat), x])) g2 s.heap.objs.size (.tup [.int (i : Nat), x]) := ⟨by show 2 ≤ sizeLine; decide, [Value.int i s.toks, u], .cons ⟨_, rfl⟩ (.cons ru .nil), ⟨_, T2, rfl, _, rfl⟩⟩
    have keeps : ∀ b o, b ∉ [e, it] → s.heap.get? b = some o → g2.get? b = some o := fun b o n q => by
      have n : b ≠ e ∧ b ≠ it := by simpa using n
      exact (same.2 b n.1).trans (kept b o n.1 n.2 q)
    have I2 : Inv X pins σ (upd H s.heap.objs.size (.tup [.int (i : Nat), x])) { s with heap := g2, toks := s.toks + 1 } := I.turnedNew (ch := [e, it]) keeps apart (Nat.le_refl _) made
    refine ⟨.ref s.heap.objs.size, _, I2, rfl, ⟨_, x, rfl, I.hok.fresh (Nat.le_refl _), rfl, fun l q => by rw [I.tuple_inj q sx]; exact gx⟩, ⟨⟨u, ?_⟩, at1.at fun o q => (same.2 it ne.symm).trans q, ne⟩, fun b m => ?_⟩
    · rw [show ((i + 1 : Nat) : Int) = (i : Int) + 1 by omega]
      exact en2
    · have lt : b < s.heap.objs.size := by
        rcases (show b = e ∨ b = it by simpa using m) with rfl | rfl
        · exact lt
        · exact lt2
      rw [upd_ne (Nat.ne_of_lt lt)]
      exact (apart b m).1
  done := by
    intro X eP ew eK calm i pins s σ H E I apart st turn
    subst eP ew eK
    obtain ⟨⟨old, en⟩, at_, ne⟩ := st
    obtain ⟨xs, sx, ends⟩ := turn
    obtain ⟨us, rx, px, _⟩ := I.tuple sx
    obtain ⟨f0, f1, f2, f3, f4, f5⟩ := apart it (by simp)
    have n1 := rx.length
    exact next_stop (I.ok.hd calm) en at_ px (by simp; omega) fun g ext => ⟨rfl, I.turned (t' := s.toks) (fun b o n q => ext b o n q) f0 f1 f3 f4 f5⟩
  self := fun A i s Q E ⟨⟨_, en⟩, _⟩ q => wpAny_pyIter_enum en q
def iEnumT (K : PySem.W.Frag) (ta : TA) : TI := fun σ H R => ta σ H fun vs H1 => ∃ a xs, vs = [.ref a] ∧ SqT K H1 a xs ∧ R (ItT K a) H1
theorem pi_enumT {X : Cx} {e : Expr} {ta : TA} {p pos tpos : Pos} {elts : List Expr} {kk : Nat} (hg : Gl X "enumerate") (hm : X.mg "enumerate" = none) (ha : PA X [e] ta) (hs : starEach [e] X.env = [(false, eval e X.env)] := by rfl) :
    PI X (.Tuple elts kk tpos) (.Call (.Name "enumerate" p) [e] [] pos) (iEnumT X.K ta) := by
  refine ⟨fun pins s σ H R I h => Call_ (ld_blt I hg hm boot_enumerate (PyProof.Rows.callWith_type1 (thn (ha.run pos pins s σ H _ I h) fun us s1 ⟨vs, H1, I1, r1, got⟩ => ?_) hs rfl))⟩
  obtain ⟨a, xs, rfl, sx, q⟩ := got
  cases r1 with
  | cons ra rr =>
    cases rr
    cases ra
    obtain ⟨us, rx, px, _⟩ := I1.tuple sx
    refine call_enumT (show s1.heap.IsTuple a us.toArray from px) fun g en at_ kept => wpAny_pyIter_enum en ?_
    have fresh : ∀ c, s1.heap.objs.size ≤ c → FpOk X pins H1 c := fun c le => I1.fpOk le (I1.hok.fresh le)
    have I2 : Inv X pins σ H1 { s1 with heap := g } := I1.kept (t' := s1.toks) kept
    obtain ⟨N, eN⟩ : ∃ N, N = s1.heap.objs.size := ⟨_, rfl⟩
    rw [← eN] at en at_ fresh ⊢
    have fr : ∀ c, c ∈ [N + 1, N] → FpOk X pins H1 c := fun c m => by
      rcases (show c = N + 1 ∨ c = N by simpa using m) with z | z
      · exact fresh c (z ▸ Nat.le_add_right _ 1)
      · exact fresh c (Nat.le_of_eq z.symm)
    exact ⟨N + 1, [N + 1, N], (fun i h => (∃ old, IsEnum h (N + 1) N ((i : Nat) : Int) old) ∧ h.IsTupleIter N a i ∧ N + 1 ≠ N), ItT X.K a, H1, rfl, I2, turnT a (N + 1) N, ⟨⟨_, en⟩, at_, Nat.succ_ne_self _⟩, fr, q⟩
theorem walkT {K : PySem.W.Frag} {a : Addr} {xs : List V} : Walk (ItT K a) xs.length (fun H => SqT K H a xs) (YPair (fun i => some (.int (i : Nat))) (fun i => xs[i]?)) := by
  refine ⟨fun i _ hi q => ⟨xs, xs[i], q, by simp [hi]⟩, fun _ q => ⟨xs, q, Nat.le_refl _⟩, fun i H v H' _ q y => ?_⟩
  obtain ⟨T, x, e1, e2, e3, e4⟩ := y
  exact ⟨T, .int (i : Nat), x, e1, e2, e3, rfl, e4 xs q⟩
end TzEnum
/-! matrices of integers, by their places -/
namespace Mx
def sg : Nat → (Nat → Int) → Int
  | 0, _ => 0
  | n + 1, f => sg n f + f n
theorem sg_congr : ∀ {n : Nat} {f g : Nat → Int}, (∀ k, k < n → f k = g k) → sg n f = sg n g
  | 0, _, _, _ => rfl
  | n + 1, f, g, h => by
    show sg n f + f n = sg n g + g n
    rw [sg_congr fun k hk => h k (Nat.lt_succ_of_lt hk), h n (Nat.lt_succ_self n)]
theorem sg_zero : ∀ (n : Nat), sg n (fun _ => 0) = 0
  | 0 => rfl
  | n + 1 => by
    show sg n (fun _ => 0) + 0 = 0
    rw [sg_zero n]
    rfl
theorem sg_add : ∀ (n : Nat) (f g : Nat → Int), sg n (fun k => f k + g k) = sg n f + sg n g
  | 0, _, _ => rfl
  | n + 1, f, g => by
    show sg n (fun k => f k + g k) + (f n + g n) = (sg n f + f n) + (sg n g + g n)
    rw [sg_add n f g]
    omega
theorem sg_mul : ∀ (n : Nat) (c : Int) (f : Nat → Int), sg n (fun k => c * f k) = c * sg n f
  | 0, c, _ => (Int.mul_zero c).symm
  | n + 1, c, f => by
    show sg n (fun k => c * f k) + c * f n = c * (sg n f + f n)
    rw [sg_mul n c f, Int.mul_add]
theorem sg_mulR (n : Nat) (c : Int) (f : Nat → Int) : sg n (fun k => f k * c) = sg n f * c := by
  rw [Int.mul_comm, ← sg_mul]
  exact sg_congr fun k _ => Int.mul_comm _ _
theorem sg_delta : ∀ {n a : Nat} (f : Nat → Int), a < n → sg n (fun k => if k = a then f k else 0) = f a
  | 0, _, _, h => absurd h (Nat.not_lt_zero _)
  | n + 1, a, f, h => by
    show sg n (fun k => if k = a then f k else 0) + (if n = a then f n else 0) = f a
    by_cases e : n = a
    · subst e
      rw [if_pos rfl, sg_congr (g := fun _ => 0) fun k hk => if_neg (by omega), sg_zero, Int.zero_add]
    · rw [if_neg e, sg_delta f (show a < n by omega), Int.add_zero]
theorem sg_none {n a : Nat} (f : Nat → Int) (h : ¬ a < n) : sg n (fun k => if k = a then f k else 0) = 0 := by
  rw [sg_congr (g := fun _ => 0) fun k hk => if_neg (by omega), sg_zero]
theorem sg_comm (n : Nat) : ∀ (m : Nat) (f : Nat → Nat → Int), sg n (fun i => sg m (fun j => f i j)) = sg m (fun j => sg n (fun i => f i j))
  | 0, f => sg_zero n
  | m + 1, f => by
    show sg n (fun i => sg m (fun j => f i j) + f i m) = sg m (fun j => sg n (fun i => f i j)) + sg n (fun i => f i m)
    rw [sg_add, sg_comm n m f]
theorem sg_some : ∀ {n : Nat} {f : Nat → Int}, sg n f ≠ 0 → ∃ k, k < n ∧ f k ≠ 0
  | 0, _, h => absurd rfl h
  | n + 1, f, h => by
    by_cases e : f n = 0
    · have h : sg n f + f n ≠ 0 := h
      rw [e, Int.add_zero] at h
      obtain ⟨k, hk, q⟩ := sg_some h
      exact ⟨k, Nat.lt_succ_of_lt hk, q⟩
    · exact ⟨n, Nat.lt_succ_self n, e⟩
theorem sum_app (a b : List Int) : (a ++ b).sum = a.sum + b.sum := by
  induction a with
  | nil => rw [List.nil_append]; exact (Int.zero_add _).symm
  | cons x a ih => rw [List.cons_append, List.sum_cons, List.sum_cons, ih]; omega
theorem sum_range : ∀ (n : Nat) (f : Nat → Int), ((List.range n).map f).sum = sg n f
  | 0, _ => rfl
  | n + 1, f => by
    rw [List.range_succ, List.map_append, sum_app, sum_range n f]
    show sg n f + (f n + 0) = sg n f + f n
    omega
/-! ### products -/
abbrev Fn2 := Nat → Nat → Int
def ml (n : Nat) (A B : Fn2) : Fn2 := fun i j => sg n fun k => A i k * B k j
def dl (i j : Nat) : Int := if i = j then 1 else 0
theorem ml_assoc (n m : Nat) (A B C : Fn2) (i j : Nat) : ml n A (ml m B C) i j = ml m (ml n A B) C i j := by
  show sg n (fun k => A i k * sg m fun l => B k l * C l j) = sg m fun l => (sg n fun k => A i k * B k l) * C l j
  rw [sg_congr (g := fun k => sg m fun l => A i k * B k l * C l j) fun k _ => by
    rw [← sg_mul]
    exact sg_congr fun l _ => (Int.mul_assoc _ _ _).symm]
  rw [sg_comm]
  exact sg_congr fun l _ => sg_mulR n (C l j) fun k => A i k * B k l
theorem ml_congr {n : Nat} {A A' B B' : Fn2} {i j : Nat} (h1 : ∀ k, k < n → A i k = A' i k) (h2 : ∀ k, k < n → B k j = B' k j) : ml n A B i j = ml n A' B' i j := sg_congr fun k hk => by rw [h1 k hk, h2 k hk]
theorem ml_oneL {n : Nat} {A B : Fn2} {i j : Nat} (hi : i < n) (h : ∀ k, k < n → A i k = dl i k) : ml n A B i j = B i j := by
  show sg n (fun k => A i k * B k j) = B i j
  rw [sg_congr (g := fun k => if k = i then B k j else 0) fun k hk => ?_, sg_delta (fun k => B k j) hi]
  rw [h k hk]
  unfold dl
  by_cases e : i = k
  · rw [if_pos e, if_pos e.symm, Int.one_mul]
  · rw [if_neg e, if_neg (fun q => e q.symm), Int.zero_mul]
theorem ml_oneR {n : Nat} {A B : Fn2} {i j : Nat} (hj : j < n) (h : ∀ k, k < n → B k j = dl k j) : ml n A B i j = A i j := by
  show sg n (fun k => A i k * B k j) = A i j
  rw [sg_congr (g := fun k => if k = j then A i k else 0) fun k hk => ?_, sg_delta (fun k => A i k) hj]
  rw [h k hk]
  unfold dl
  by_cases e : k = j
  · rw [if_pos e, if_pos e, Int.mul_one]
  · rw [if_neg e, if_neg e, Int.mul_zero]
/-! ### a matrix and the one that leads back -/
structure Pair (n : Nat) (A B : Fn2) : Prop where
  l : ∀ i j, i < n → j < n → ml n A B i j = dl i j
  r : ∀ i j, i < n → j < n → ml n B A i j = dl i j
theorem Pair.congr {n : Nat} {A B A' B' : Fn2} (p : Pair n A B) (h1 : ∀ i j, i < n → j < n → A' i j = A i j) (h2 : ∀ i j, i < n → j < n → B' i j = B i j) : Pair n A' B' :=
  ⟨fun i j hi hj => (ml_congr (fun k hk => h1 i k hi hk) (fun k hk => h2 k j hk hj)).trans (p.l i j hi hj), fun i j hi hj => (ml_congr (fun k hk => h2 i k hi hk) (fun k hk => h1 k j hk hj)).trans (p.r i j hi hj)⟩
theorem Pair.swap {n : Nat} {A B : Fn2} (p : Pair n A B) : Pair n B A := ⟨p.r, p.l⟩
theorem pair_one (n : Nat) : Pair n dl dl := ⟨fun i j hi _ => ml_oneL hi fun _ _ => rfl, fun i j hi _ => ml_oneL hi fun _ _ => rfl⟩
/-- the row at a negated, the column at a negated -/
theorem Pair.neg {n a : Nat} {A B : Fn2} (p : Pair n A B) : Pair n (fun i j => if i = a then -A i j else A i j) (fun i j => if j = a then -B i j else B i j) := by
  refine ⟨fun i j hi hj => ?_, fun i j hi hj => ?_⟩
  · have e : ml n (fun i j => if i = a then -A i j else A i j) (fun i j => if j = a then -B i j else B i j) i j = (if i = a then -1 else 1) * ((if j = a then -1 else 1) * ml n A B i j) := by
      show sg n _ = _ * (_ * sg n _)
      rw [← sg_mul, ← sg_mul]
      refine sg_congr fun k _ => ?_
      show (if i = a then -A i k else A i k) * (if j = a then -B k j else B k j) = _
      split <;> split <;> simp [Int.neg_mul, Int.mul_neg]
    rw [e, p.l i j hi hj]
    unfold dl
    by_cases q : i = j
    · subst q
      split <;> simp
    · rw [if_neg q]
      simp
  · have e : ml n (fun i j => if j = a then -B i j else B i j) (fun i j => if i = a then -A i j else A i j) i j = ml n B A i j := by
      refine sg_congr fun k _ => ?_
      show (if k = a then -B i k else B i k) * (if k = a then -A k j else A k j) = B i k * A k j
      split
      · rw [Int.neg_mul_neg]
      · rfl
    rw [e, p.r i j hi hj]
def sw (a b k : Nat) : Nat := if k = a then b else if k = b then a else k
theorem sg_sw {n a b : Nat} (ha : a < n) (hb : b < n) (f : Nat → Int) : sg n (fun k => f (sw a b k)) = sg n f := by
  by_cases q : a = b
  · subst q
    refine sg_congr fun k _ => ?_
    unfold sw
    split
    · rename_i e
      rw [e]
    · rfl
  · have e : sg n (fun k => f (sw a b k)) = sg n (fun k => f k + ((if k = a then f b - f k else 0) + (if k = b then f a - f k else 0))) := by
      refine sg_congr fun k _ => ?_
      unfold sw
      by_cases e1 : k = a
      · rw [if_pos e1, if_pos e1, if_neg (show ¬ k = b by omega)]
        omega
      · by_cases e2 : k = b
        · rw [if_neg e1, if_pos e2, if_neg e1, if_pos e2]
          omega
        · rw [if_neg e1, if_neg e2, if_neg e1, if_neg e2]
          omega
    rw [e, sg_add, sg_add, sg_delta (fun k => f b - f k) ha, sg_delta (fun k => f a - f k) hb]
    omega
theorem sw_sw {a b k : Nat} : sw a b (sw a b k) = k := by
  unfold sw
  by_cases e1 : k = a
  · rw [if_pos e1]
    by_cases q : b = a
    · rw [if_pos q]
      omega
    · rw [if_neg q, if_pos rfl]
      exact e1.symm
  · rw [if_neg e1]
    by_cases e2 : k = b
    · rw [if_pos e2, if_pos rfl]
      exact e2.symm
    · rw [if_neg e2, if_neg e1, if_neg e2]
theorem sw_lt {a b k n : Nat} (ha : a < n) (hb : b < n) (hk : k < n) : sw a b k < n := by
  unfold sw
  split
  · exact hb
  split
  · exact ha
  · exact hk
theorem Pair.swp {n a b : Nat} {A B : Fn2} (ha : a < n) (hb : b < n) (p : Pair n A B) : Pair n (fun i j => A (sw a b i) j) (fun i j => B i (sw a b j)) := by
  refine ⟨fun i j hi hj => ?_, fun i j hi hj => ?_⟩
  · show ml n A B (sw a b i) (sw a b j) = _
    rw [p.l _ _ (sw_lt ha hb hi) (sw_lt ha hb hj)]
    unfold dl
    by_cases q : i = j
    · rw [if_pos q, if_pos (congrArg _ q)]
    · rw [if_neg q, if_neg fun z => q (by
        have := congrArg (sw a b) z
        rwa [sw_sw, sw_sw] at this)]
  · show sg n (fun k => B i (sw a b k) * A (sw a b k) j) = _
    rw [sg_sw ha hb fun k => B i k * A k j]
    exact p.r i j hi hj
/-- the row at a more t times that at b; the column at b less t times that at a -/
theorem Pair.add {n a b : Nat} {t : Int} {A B : Fn2} (ha : a < n) (hb : b < n) (ab : a ≠ b) (p : Pair n A B) : Pair n (fun i j => if i = a then A i j + t * A b j else A i j) (fun i j => if j = b then B i j - t * B i a else B i j) := by
  refine ⟨fun i j hi hj => ?_, fun i j hi hj => ?_⟩
  · have e : ml n (fun i j => if i = a then A i j + t * A b j else A i j) (fun i j => if j = b then B i j - t * B i a else B i j) i j =
        (ml n A B i j + (if i = a then t else 0) * ml n A B b j) - ((if j = b then t else 0) * ml n A B i a + (if i = a then t else 0) * ((if j = b then t else 0) * ml n A B b a)) := by
      show sg n _ = (sg n _ + _ * sg n _) - (_ * sg n _ + _ * (_ * sg n _))
      rw [← sg_mul, ← sg_mul, ← sg_mul, ← sg_mul]
      have sub : ∀ x y : Int, x - y = x + (-1) * y := fun x y => by omega
      rw [sub, ← sg_add, ← sg_add, ← sg_mul, ← sg_add]
      refine sg_congr fun k _ => ?_
      show (if i = a then A i k + t * A b k else A i k) * (if j = b then B k j - t * B k a else B k j) = _
      by_cases e1 : i = a <;> by_cases e2 : j = b <;> simp only [e1, e2, if_true, if_false] <;> simp only [Int.add_mul, Int.mul_add, Int.mul_sub, Int.neg_mul, Int.one_mul, Int.zero_mul, Int.mul_zero, Int.add_zero, Int.mul_assoc]
      all_goals
        try (have q1 : A a k * (t * B k a) = t * (A a k * B k a) := by rw [Int.mul_left_comm])
        try (have q2 : A b k * (t * B k a) = t * (A b k * B k a) := by rw [Int.mul_left_comm])
        try (have q3 : A i k * (t * B k a) = t * (A i k * B k a) := by rw [Int.mul_left_comm])
        try rw [q1]
        try rw [q2]
        try rw [q3]
        try omega
    rw [e, p.l i j hi hj, p.l b j hb hj, p.l i a hi ha, p.l b a hb ha]
    have z : dl b a = 0 := if_neg fun q => ab q.symm
    rw [z]
    by_cases e1 : i = a
    · by_cases e2 : j = b
      · subst e1 e2
        have h1 : dl j j = 1 := if_pos rfl
        have h2 : dl i i = 1 := if_pos rfl
        rw [if_pos rfl, if_pos rfl, h1, h2]
        omega
      · have h1 : dl b j = 0 := if_neg fun q => e2 q.symm
        rw [if_neg e2, h1]
        simp
    · have h1 : dl i a = 0 := if_neg e1
      rw [if_neg e1, h1]
      simp
  · have e : ml n (fun i j => if j = b then B i j - t * B i a else B i j) (fun i j => if i = a then A i j + t * A b j else A i j) i j = ml n B A i j + (sg n (fun k => if k = a then t * (B i a * A b j) else 0) - sg n (fun k => if k = b then t * (B i a * A b j) else 0)) := by
      have sub : ∀ x y : Int, x - y = x + (-1) * y := fun x y => by omega
      show sg n _ = sg n _ + _
      rw [sub, ← sg_mul, ← sg_add, ← sg_add]
      refine sg_congr fun k _ => ?_
      show (if k = b then B i k - t * B i a else B i k) * (if k = a then A k j + t * A b j else A k j) = _
      by_cases e1 : k = a
      · subst e1
        rw [if_neg ab, if_pos rfl, if_pos rfl, if_neg ab, Int.mul_add]
        have q1 : B i k * (t * A b j) = t * (B i k * A b j) := by rw [Int.mul_left_comm]
        rw [q1]
        omega
      · by_cases e2 : k = b
        · subst e2
          rw [if_pos rfl, if_neg e1, if_neg e1, if_pos rfl, Int.sub_mul, Int.mul_assoc]
          omega
        · rw [if_neg e2, if_neg e1, if_neg e1, if_neg e2]
          omega
    rw [e, sg_delta (fun _ => t * (B i a * A b j)) ha, sg_delta (fun _ => t * (B i a * A b j)) hb, p.r i j hi hj]
    omega
/-- no row, no column is all 0 -/
theorem Pair.rowB {n a : Nat} {A B : Fn2} (p : Pair n A B) (ha : a < n) : ∃ j, j < n ∧ B a j ≠ 0 := by
  obtain ⟨k, hk, q⟩ := sg_some (n := n) (f := fun k => B a k * A k a) (by
    have := p.r a a ha ha
    have e : sg n (fun k => B a k * A k a) = 1 := this.trans (if_pos rfl)
    rw [e]
    decide)
  exact ⟨k, hk, fun z => q (by show B a k * A k a = 0; rw [z, Int.zero_mul])⟩
theorem Pair.colB {n a : Nat} {A B : Fn2} (p : Pair n A B) (ha : a < n) : ∃ i, i < n ∧ B i a ≠ 0 := by
  obtain ⟨k, hk, q⟩ := sg_some (n := n) (f := fun k => A a k * B k a) (by
    have := p.l a a ha ha
    have e : sg n (fun k => A a k * B k a) = 1 := this.trans (if_pos rfl)
    rw [e]
    decide)
  exact ⟨k, hk, fun z => q (by show A a k * B k a = 0; rw [z, Int.mul_zero])⟩
/-- one place of the left one put otherwise -/
def put (A : Fn2) (a b : Nat) (d : Int) : Fn2 := fun i j => if i = a ∧ j = b then A i j + d else A i j
theorem ml_putL {n a b : Nat} {A B : Fn2} {d : Int} (hb : b < n) (j : Nat) : ml n (put A a b d) B a j = ml n A B a j + d * B b j := by
  have e : ml n (put A a b d) B a j = sg n (fun k => A a k * B k j + if k = b then d * B k j else 0) := by
    refine sg_congr fun k _ => ?_
    show (if a = a ∧ k = b then A a k + d else A a k) * B k j = _
    by_cases q : k = b
    · rw [if_pos ⟨rfl, q⟩, if_pos q, Int.add_mul]
    · rw [if_neg (fun z => q z.2), if_neg q, Int.add_zero]
  rw [e, sg_add, sg_delta (fun k => d * B k j) hb]
  rfl
theorem ml_putR {n a b : Nat} {A B : Fn2} {d : Int} (ha : a < n) (i : Nat) : ml n A (put B a b d) i b = ml n A B i b + A i a * d := by
  have e : ml n A (put B a b d) i b = sg n (fun k => A i k * B k b + if k = a then A i k * d else 0) := by
    refine sg_congr fun k _ => ?_
    show A i k * (if k = a ∧ b = b then B k b + d else B k b) = _
    by_cases q : k = a
    · rw [if_pos ⟨q, rfl⟩, if_pos q, Int.mul_add]
    · rw [if_neg (fun z => q z.1), if_neg q, Int.add_zero]
  rw [e, sg_add, sg_delta (fun k => A i k * d) ha]
  rfl
end Mx
namespace Mx
/-! ### matrices as lists of lists -/
abbrev LL := List (List Int)
def at2 (M : LL) : Fn2 := fun i j => (M.getD i []).getD j 0
structure Mat (n m : Nat) (M : LL) : Prop where
  len : M.length = n
  row : ∀ (i : Nat) (r : List Int), M[i]? = some r → r.length = m
def mk (n m : Nat) (f : Fn2) : LL := (List.range n).map fun i => (List.range m).map fun j => f i j
theorem mk_get {n m : Nat} {f : Fn2} {i : Nat} (hi : i < n) : (mk n m f)[i]? = some ((List.range m).map fun j => f i j) := by
  unfold mk
  rw [List.getElem?_map, List.getElem?_range hi]
  rfl
theorem mk_len (n m : Nat) (f : Fn2) : (mk n m f).length = n := by
  unfold mk
  rw [List.length_map, List.length_range]
theorem mk_mat (n m : Nat) (f : Fn2) : Mat n m (mk n m f) := ⟨mk_len n m f, fun i r h => by
  have hi : i < n := by
    have := (List.getElem?_eq_some_iff.mp h).1
    rwa [mk_len] at this
  rw [mk_get hi] at h
  cases h
  rw [List.length_map, List.length_range]⟩
theorem range_getD {m : Nat} {f : Nat → Int} {j : Nat} (hj : j < m) : ((List.range m).map f).getD j 0 = f j := by
  rw [List.getD_eq_getElem?_getD, List.getElem?_map, List.getElem?_range hj]
  rfl
theorem at_mk {n m : Nat} {f : Fn2} {i j : Nat} (hi : i < n) (hj : j < m) : at2 (mk n m f) i j = f i j := by
  have e : (mk n m f).getD i [] = (List.range m).map fun j => f i j := by
    rw [List.getD_eq_getElem?_getD, mk_get hi]
    rfl
  unfold at2
  rw [e]
  exact range_getD hj
theorem mk_congr {n m : Nat} {f g : Fn2} (h : ∀ i j, i < n → j < m → f i j = g i j) : mk n m f = mk n m g := by
  unfold mk
  refine List.map_congr_left fun i hi => List.map_congr_left fun j hj => h i j (List.mem_range.mp hi) (List.mem_range.mp hj)
theorem mk_ne {n m : Nat} {f g : Fn2} {i j : Nat} (hi : i < n) (hj : j < m) (h : f i j ≠ g i j) : mk n m f ≠ mk n m g := fun e => by
  have := congrArg (fun M => at2 M i j) e
  simp only [at_mk hi hj] at this
  exact h this
theorem row_eq (r : List Int) : r = (List.range r.length).map fun j => r.getD j 0 := by
    refine List.ext_getElem? fun j => ?_
    rw [List.getElem?_map]
    by_cases h : j < r.length
    · rw [List.getElem?_range h, List.getElem?_eq_getElem h]
      show some r[j] = some (r.getD j 0)
      rw [List.getD_eq_getElem?_getD, List.getElem?_eq_getElem h]
      rfl
    · rw [List.getElem?_eq_none (by omega), List.getElem?_eq_none (by rw [List.length_range]; omega)]
      rfl
theorem mat_eq {n m : Nat} {M : LL} (h : Mat n m M) : M = mk n m (at2 M) := by
  refine List.ext_getElem? fun i => ?_
  by_cases hi : i < n
  · rw [mk_get hi]
    have hl : i < M.length := by rw [h.len]; exact hi
    rw [List.getElem?_eq_getElem hl]
    have e := h.row i M[i] (List.getElem?_eq_getElem hl)
    have q : at2 M i = fun j => M[i].getD j 0 := by
      funext j
      unfold at2
      rw [List.getD_eq_getElem?_getD (l := M), List.getElem?_eq_getElem hl]
      rfl
    rw [q]
    have := row_eq M[i]
    rw [e] at this
    rw [← this]
  · rw [List.getElem?_eq_none (by rw [h.len]; omega), List.getElem?_eq_none (by rw [mk_len]; omega)]
end Mx
namespace Tz
open PySem L2
/-! ### heaps -/
/-- all but z is as it was -/
def Fw (z : Addr) (H H' : Hp) : Prop := ∀ a o, a ≠ z → H a = some o → H' a = some o
theorem Fw.refl (z : Addr) (H : Hp) : Fw z H H := fun _ _ _ h => h
theorem Fw.trans {z : Addr} {H H1 H2 : Hp} (a : Fw z H H1) (b : Fw z H1 H2) : Fw z H H2 := fun x o n h => b x o n (a x o n h)
theorem Fw.new {z : Addr} {H : Hp} {p : Addr} {o : HO} (h : H p = none) : Fw z H (upd H p o) := fun a u _ e => by
  rw [upd_ne (ne_of_none e h)]
  exact e
theorem Fw.at {z : Addr} {H : Hp} {o : HO} : Fw z H (upd H z o) := fun a u n e => by
  rw [upd_ne n]
  exact e
/-- all is as it was -/
def Ex (H H' : Hp) : Prop := ∀ a o, H a = some o → H' a = some o
theorem Ex.refl (H : Hp) : Ex H H := fun _ _ h => h
theorem Ex.trans {H H1 H2 : Hp} (a : Ex H H1) (b : Ex H1 H2) : Ex H H2 := fun x o h => b x o (a x o h)
theorem Ex.fw {z : Addr} {H H' : Hp} (e : Ex H H') : Fw z H H' := fun a o _ h => e a o h
theorem Ex.new {H : Hp} {p : Addr} {o : HO} (h : H p = none) : Ex H (upd H p o) := fun a u e => by
  rw [upd_ne (ne_of_none e h)]
  exact e
/-- a new object, told without its heap -/
theorem anew {H : Hp} {o : HO} {Q : V → Hp → Prop} (k : ∀ p H', H p = none → H' p = some o → Ex H H' → Q (.ref p) H') : ∀ p, H p = none → Q (.ref p) (upd H p o) := fun p hp => k p _ hp upd_same (Ex.new hp)
theorem sq {K : PySem.W.Frag} {H : Hp} {a : Addr} {xs : List V} (h : H a = some (.lst xs)) : SqL K H a xs := Or.inl (Or.inl h)
theorem sqt {K : PySem.W.Frag} {H : Hp} {a : Addr} {xs : List V} (h : H a = some (.tup xs)) : SqT K H a xs := Or.inl (Or.inl h)
theorem szl {n : Nat} (h : n ≤ 10000) : n ≤ sizeLine := Nat.le_trans h (by decide)
theorem gat {H H1 : Hp} {p : Addr} {o : HO} (g : upd H p o = H1) : H1 p = some o := by rw [← g]; exact upd_same
theorem gex {H H1 : Hp} {p : Addr} {o : HO} (g : upd H p o = H1) (h : H p = none) : Ex H H1 := by rw [← g]; exact Ex.new h
theorem gfw {H H1 : Hp} {p : Addr} {o : HO} (g : upd H p o = H1) : Fw p H H1 := by rw [← g]; exact Fw.at
/-! ### the pen -/
structure PenAt (H : Hp) (z c : Addr) (cells : List Int) (t : Nat) : Prop where
  pen : ∃ ix left : Int, H z = some (.lst [.ref c, .int ix, .int left]) ∧ 0 ≤ ix ∧ ix ≤ t ∧ 0 ≤ left
  cs : H c = some (.lst (cells.map V.int))
  ne : c ≠ z
  few : cells.length ≤ 63
theorem PenAt.ex {H H' : Hp} {z c : Addr} {cells : List Int} {t : Nat} (h : PenAt H z c cells t) (e : Ex H H') : PenAt H' z c cells t := by
  obtain ⟨⟨i, l, h1, h2⟩, h3, h4, h5⟩ := h
  exact ⟨⟨i, l, e _ _ h1, h2⟩, e _ _ h3, h4, h5⟩
theorem PenAt.mono {H : Hp} {z c : Addr} {cells : List Int} {t u : Nat} (h : PenAt H z c cells t) (e : t ≤ u) : PenAt H z c cells u := by
  obtain ⟨⟨i, l, h1, h2, h3, h6⟩, h4, h5, h7⟩ := h
  exact ⟨⟨i, l, h1, h2, by omega, h6⟩, h4, h5, h7⟩
theorem cell_get {cells : List Int} {j : Nat} (h : j < cells.length) : ∃ v : Int, (cells.map V.int)[j]? = some (.int v) := by
  refine ⟨cells[j], ?_⟩
  rw [List.getElem?_map, List.getElem?_eq_getElem h] <;> rfl
/-- one draw: what it asks, what it gives -/
def spDraw : Sp := fun vs H Q _ => ∃ z c cells t many, vs = [.ref z, .int many] ∧ PenAt H z c cells t ∧ t ≤ 100000 ∧ 0 < many ∧ many ≤ 100000 ∧
  ∀ n H', 0 ≤ n → n < many → PenAt H' z c cells (t + 1) → Fw z H H' → Q (.int n) H'
def spPen (K : PySem.W.Frag) : Sp := fun vs H Q _ => ∃ (a : Addr) (ns : List Int), vs = [.ref a] ∧ SqL K H a (ns.map V.int) ∧ ns.length ≤ 63 ∧
  ∀ z c H', PenAt H' z c ns 0 → Ex H H' → H z = none → H c = none → Q (.ref z) H'
def spWidth : Sp := fun vs H Q _ => ∃ z c cells t, vs = [.ref z] ∧ PenAt H z c cells t ∧ t ≤ 90000 ∧
  ∀ n H', 1 ≤ n → n ≤ 64 → PenAt H' z c cells (t + 2) → Fw z H H' → Q (.int n) H'
def spValue : Sp := fun vs H Q _ => ∃ z c cells t, ∃ w : Nat, vs = [.ref z, .int w] ∧ PenAt H z c cells t ∧ t ≤ 90000 ∧ 1 ≤ w ∧ w ≤ 64 ∧
  ∀ n H', 0 ≤ n → n < 2 ^ w → PenAt H' z c cells (t + 3) → Fw z H H' → Q (.int n) H'
/-! ### mathematics -/
theorem emod_bd {a m : Int} (h : 0 < m) : 0 ≤ a % m ∧ a % m < m := ⟨Int.emod_nonneg _ (by omega), Int.emod_lt_of_pos _ h⟩
theorem sq_le {i : Int} (h0 : 0 ≤ i) (h1 : i ≤ 100000) : 0 ≤ i * i ∧ i * i ≤ 10000000000 := by
  refine ⟨Int.mul_nonneg h0 h0, ?_⟩
  have := Int.mul_le_mul h1 h1 h0 (by decide : (0 : Int) ≤ 100000)
  omega
theorem mul_bd {a b A B : Int} (a0 : 0 ≤ a) (a1 : a ≤ A) (b0 : 0 ≤ b) (b1 : b ≤ B) : 0 ≤ a * b ∧ a * b ≤ A * B :=
  ⟨Int.mul_nonneg a0 b0, Int.mul_le_mul a1 b1 b0 (by omega)⟩
theorem cpow_of {i j : Int} (h0 : 0 ≤ i) (h1 : i < 18446744073709551616) (h2 : 0 ≤ j) (h3 : j ≤ 1000000) : CPow i j := ⟨h2, h3, by omega⟩
theorem draw_pw5 {cell ix a b : Int} (h0 : 0 ≤ ix) (h1 : ix ≤ 100000) (ha : 0 ≤ a) (ha2 : a ≤ 1000000) (hb : 0 ≤ b) (hb2 : b ≤ 1000000) : CPow (cell % 2147483563 + a * ix + b) 5 := by
  have h := emod_bd (a := cell) (m := 2147483563) (by decide)
  have m := mul_bd ha ha2 h0 h1
  exact cpow_of (by omega) (by omega) (by decide) (by decide)
theorem draw_pw3 {m ix c d e : Int} (h0 : 0 ≤ ix) (h1 : ix ≤ 100000) (m0 : 0 ≤ m) (m1 : m < 2147483629) (hc : 0 ≤ c) (hc2 : c ≤ 1000000) (hd : 0 ≤ d) (hd2 : d ≤ 1000000) (he : 0 ≤ e) (he2 : e ≤ 1000000) :
    CPow (m * (2 * ix + c) + d * ix * ix + e) 3 := by
  have a := mul_bd m0 (A := 2147483629) (by omega) (b := 2 * ix + c) (by omega) (B := 1200000) (by omega)
  have b := mul_bd hd hd2 h0 h1
  have g := mul_bd b.1 b.2 h0 h1
  exact cpow_of (by omega) (by omega) (by decide) (by decide)
theorem pow18 : (10 : Int) ^ (18 : Int).toNat = 1000000000000000000 := by decide
theorem pow_gt {n : Nat} (h : 1 ≤ n) : (1 : Int) < 2 ^ n := by
  obtain ⟨m, rfl⟩ : ∃ m, n = m + 1 := ⟨n - 1, by omega⟩
  have := Int.pow_pos (n := (2 : Int)) (m := m) (by decide)
  rw [Int.pow_succ]
  omega
theorem pow_le64 {n : Nat} (h : n ≤ 64) : (2 : Int) ^ n ≤ 18446744073709551616 := by
  have h1 : (2 : Nat) ^ n ≤ 2 ^ 64 := Nat.pow_le_pow_right (by decide) h
  have h2 : ((2 ^ n : Nat) : Int) = 2 ^ n := by rw [Int.natCast_pow] <;> rfl
  have h3 : (2 : Nat) ^ 64 = 18446744073709551616 := by decide
  omega
theorem and_top {wd : Nat} {x : Int} (hx : 0 ≤ x) : 0 ≤ Builtin.bitAnd x (2 ^ wd - 1) ∧ Builtin.bitAnd x (2 ^ wd - 1) < 2 ^ wd := by
  have e : Builtin.bitAnd x (2 ^ wd - 1) = x % 2 ^ wd := PySem.W.kbt_mask x wd
  rw [e]
  exact emod_bd (Int.pow_pos (by decide))
theorem back {H H' : Hp} {p : Addr} (e : Ex H H') (h : H' p = none) : H p = none := by
  cases q : H p with
  | none => rfl
  | some o =>
    rw [e _ _ q] at h
    cases h
theorem cut63 (n : Nat) : HT.sIx n n (some 63) = min 63 n := by
  show HT.sIx n n (some (63 : Int)) = min 63 n
  simp [HT.sIx]
  all_goals omega
theorem dp_ints {K : PySem.W.Frag} {H : Hp} : ∀ cells : List Int, DpAll K H (cells.map V.int) (cells.map PyData.int)
  | [] => DpAll.nil
  | c :: r => DpAll.cons (Dp.int c) (dp_ints r)
theorem lay_ints : ∀ cells : List Int, PyData.canLayAll0 (cells.map PyData.int) = true
  | [] => by rw [List.map_nil, PyData.canLayAll0]
  | c :: r => by rw [List.map_cons, PyData.canLayAll0, PyData.canLay0, lay_ints r] <;> rfl
theorem deep_ints : ∀ cells : List Int, PyData.depthAll (cells.map PyData.int) = 0
  | [] => by rw [List.map_nil, PyData.depthAll]
  | c :: r => by rw [List.map_cons, PyData.depthAll, PyData.depth, deep_ints r] <;> rfl
theorem shaped_ints (cells : List Int) : SeqAt.shaped (.list (cells.map PyData.int)) = true := by
  unfold SeqAt.shaped
  rw [PyData.canLay0, lay_ints, PyData.depth, deep_ints] <;> decide
end Tz
namespace TzOwn
open PySem L2 ClX
section
variable {X : Cx} {CX : CXT} {k : Nat} {f C g p : Addr} {fd : FuncData} {ps : List Str} {sp : Sp} {E : XK} {pins : List (Addr × Obj)} {σ : L2.St} {H : Hp} {s : Shared} {mc : Value} {m : Str} {o e : Expr} {es : List Expr} {apos pos : Pos} {ta : TE} {t : TA} {pl : Sem Bool}
theorem back_cmp {Q : VK} {u : Value} {s' : Shared} (h : EP X pins σ Q u s') : PySem.W.CmpBack (EP X pins σ Q) u s' := by
  obtain ⟨v, H', I, r, q⟩ := id h
  cases v with
  | non => cases (show u = Value.none from r); exact h
  | bl b => cases (show u = Value.bool b from r); exact h
  | int i => obtain ⟨t, e⟩ := (show ∃ t, u = Value.int i t from r); subst e; exact h
  | str i => obtain ⟨t, e⟩ := (show ∃ t, u = Value.str i t from r); subst e; exact h
  | byt i => obtain ⟨t, e⟩ := (show ∃ t, u = Value.bytes i t from r); subst e; exact h
  | flt i => obtain ⟨t, e⟩ := (show ∃ t, u = Value.float i t from r); subst e; exact h
  | ref a => cases (show u = Value.ref a from r); exact h
  | ty a => cases (show u = Value.type a from r); exact h
theorem inst_at (I : Inv X pins σ H s) {a dx : Addr} {fs : List (Str × V)} (h : H a = some (.ins C dx fs)) : ∃ od, PySem.W.InstAt s.heap a (PySem.W.instObj C dx) C (some od) := by
  obtain ⟨mA, J, _⟩ := ins_get I.hok h
  obtain ⟨od, J, _⟩ := J.look
  exact ⟨od, J⟩
/-- a, b instances of the class at C: its own method, by its promise -/
def rOwn (C : Addr) (sp : Sp) (E : XK) : R2 := fun x y H Q => ∃ a b dx dy fs gs, x = .ref a ∧ y = .ref b ∧ H a = some (.ins C dx fs) ∧ H b = some (.ins C dy gs) ∧ sp [.ref a, .ref b] H Q E
/-- a an instance, b an int -/
def rOwnI (C : Addr) (sp : Sp) (E : XK) : R2 := fun x y H Q => ∃ a n dx fs, x = .ref a ∧ y = .int n ∧ H a = some (.ins C dx fs) ∧ sp [.ref a, .int n] H Q E
def rIOwn (C : Addr) (sp : Sp) (E : XK) : R2 := fun x y H Q => ∃ a n dx fs, x = .int n ∧ y = .ref a ∧ H a = some (.ins C dx fs) ∧ sp [.ref a, .int n] H Q E
def rOwn1 (C : Addr) (sp : Sp) (E : XK) : V → Hp → VK → Prop := fun x H Q => ∃ a dx fs, x = .ref a ∧ H a = some (.ins C dx fs) ∧ sp [.ref a] H Q E
theorem op_own {op : Operator} {nm : Str} (F : FnOk X.prog X.w X.K X.mg X.base CX k f fd ps sp) (hr : Room k X.A) (M : Meth X.K C nm f) (hn : PySem.dunder op.info.2 = nm) (sf : PySem.W.selfFirst X.K C = true) (hb : Binds X.K fd ps []) (hx : Passes CX X E) :
    OpR X (binaryOp op) (rOwn C sp E) := by
  intro pins s σ H x y v u Q I rx ry h
  obtain ⟨a, b, dx, dy, fs, gs, rfl, rfl, ha, hb', q⟩ := h
  cases rx
  cases ry
  obtain ⟨od, J⟩ := inst_at I ha
  obtain ⟨od', J'⟩ := inst_at I hb'
  obtain ⟨m, hF⟩ := I.fr
  refine PySem.W.binop_K hF I.ok.mod.kin J J'.type sf (hn ▸ M.at_) M.fn ?_
  exact thn (run_fn (us := [.ref a, .ref b]) (vs := [.ref a, .ref b]) F hr hb .nil hx I (.cons rfl (.cons rfl .nil)) q) fun _ _ z => back_cmp z
theorem op_ownI {op : Operator} {nm nr : Str} {fo ro rc : Option Value} (F : FnOk X.prog X.w X.K X.mg X.base CX k f fd ps sp) (hr : Room k X.A) (M : Meth X.K C nm f) (hn : PySem.dunder op.info.2 = nm) (sf : PySem.W.selfFirst X.K C = true) (hb : Binds X.K fd ps []) (hx : Passes CX X E)
    (hnr : dunderR op.info.2 = nr) (hc : PySem.W.findIn X.K (.ref C) nr = some rc) (hp : rc = none ∨ ∃ g : Addr, rc = some (.ref g)) (h1 : PySem.W.findIn X.K (.type "int") nm = some fo) (h2 : PySem.W.findIn X.K (.type "int") nr = some ro)
    (hsub : PySem.W.subIn X.K (.type "int") (.ref C) = some false) :
    OpR X (binaryOp op) (rOwnI C sp E) := by
  intro pins s σ H x y v u Q I rx ry h
  obtain ⟨a, n, dx, fs, rfl, rfl, ha, q⟩ := h
  cases rx
  obtain ⟨t, rfl⟩ := ry
  obtain ⟨od, J⟩ := inst_at I ha
  obtain ⟨m, hF⟩ := I.fr
  refine PySem.W.ksp_binT (T := "int") hF I.ok.mod.kin J rfl sf (hn ▸ M.at_) M.fn (hnr ▸ hc) hp (hn ▸ h1) (hnr ▸ h2) hsub ?_
  exact thn (run_fn (us := [.ref a, .int n t]) (vs := [.ref a, .int n]) F hr hb .nil hx I (.cons rfl (.cons ⟨_, rfl⟩ .nil)) q) fun _ _ z => back_cmp z
theorem un_inv_own {nm : Str} (F : FnOk X.prog X.w X.K X.mg X.base CX k f fd ps sp) (hr : Room k X.A) (M : Meth X.K C nm f) (hn : "__invert__" = nm) (hb : Binds X.K fd ps []) (hx : Passes CX X E) : UnR X (unaryOp .Invert) (rOwn1 C sp E) := by
  intro pins s σ H x v Q I rx h
  obtain ⟨a, dx, fs, rfl, ha, q⟩ := h
  cases rx
  obtain ⟨od, J⟩ := inst_at I ha
  obtain ⟨m, hF⟩ := I.fr
  refine PySem.W.ksp_inv hF I.ok.mod.kin J (hn ▸ M.at_) M.fn ?_
  exact run_fn (us := [.ref a]) (vs := [.ref a]) F hr hb .nil hx I (.cons rfl .nil) q
theorem cmp_own {op : CmpOp} {nm : Str} (F : FnOk X.prog X.w X.K X.mg X.base CX k f fd ps sp) (hr : Room k X.A) (M : Meth X.K C nm f) (hn : (cmpInfo op).2.1 = nm) (ho : compareOp op = richCompare op) (hb : Binds X.K fd ps []) (hx : Passes CX X E) : OpR X (compareOp op) (rOwn C sp E) := by
  intro pins s σ H x y v u Q I rx ry h
  obtain ⟨a, b, dx, dy, fs, gs, rfl, rfl, ha, hb', q⟩ := h
  cases rx
  cases ry
  obtain ⟨od, J⟩ := inst_at I ha
  obtain ⟨od', J'⟩ := inst_at I hb'
  obtain ⟨m, hF⟩ := I.fr
  rw [ho]
  refine PySem.W.cmp_K (op := op) (tb := .ref C) hr.units0 hF I.ok.mod.kin J J'.type (by simp [PySem.W.notFirst]) (hn ▸ M.at_) M.fn ?_
  exact thn (run_fn (us := [.ref a, .ref b]) (vs := [.ref a, .ref b]) F hr hb .nil hx I (.cons rfl (.cons rfl .nil)) q) fun _ _ z => back_cmp z
theorem int_mul_ins (n : Int) (t : Tok) (x C dx : Addr) : Meets (Builtin.«int.__mul__» ⟨[.int n t, .ref x], []⟩) (fun _ R s => s.heap.get? x = some (PySem.W.instObj C dx) ∧ R (.ok (.ret Value.notImplemented)) s) :=
  .of_wp fun prog w A R s h => by obtain ⟨hp, g, d, tk, os⟩ := s; obtain ⟨hl, h⟩ := h; wp_walk; exact ⟨_, rfl, h⟩
theorem int_add_ins (n : Int) (t : Tok) (x C dx : Addr) : Meets (Builtin.«int.__add__» ⟨[.int n t, .ref x], []⟩) (fun _ R s => s.heap.get? x = some (PySem.W.instObj C dx) ∧ R (.ok (.ret Value.notImplemented)) s) :=
  .of_wp fun prog w A R s h => by obtain ⟨hp, g, d, tk, os⟩ := s; obtain ⟨hl, h⟩ := h; wp_walk; exact ⟨_, rfl, h⟩
theorem int_sub_ins (n : Int) (t : Tok) (x C dx : Addr) : Meets (Builtin.«int.__sub__» ⟨[.int n t, .ref x], []⟩) (fun _ R s => s.heap.get? x = some (PySem.W.instObj C dx) ∧ R (.ok (.ret Value.notImplemented)) s) :=
  .of_wp fun prog w A R s h => by obtain ⟨hp, g, d, tk, os⟩ := s; obtain ⟨hl, h⟩ := h; wp_walk; exact ⟨_, rfl, h⟩
theorem int_xor_ins (n : Int) (t : Tok) (x C dx : Addr) : Meets (Builtin.«int.__xor__» ⟨[.int n t, .ref x], []⟩) (fun _ R s => s.heap.get? x = some (PySem.W.instObj C dx) ∧ R (.ok (.ret Value.notImplemented)) s) :=
  .of_wp fun prog w A R s h => by obtain ⟨hp, g, d, tk, os⟩ := s; obtain ⟨hl, h⟩ := h; wp_walk; exact ⟨_, rfl, h⟩
/-- int op instance: the left one declines, the class's reflected method answers -/
theorem op_iown {op : Operator} {nm nl : Str} {fl : Addr} {idl : String} {B : Builtin} (F : FnOk X.prog X.w X.K X.mg X.base CX k f fd ps sp) (hr : Room k X.A) (M : Meth X.K C nm f) (hn : dunderR op.info.2 = nm) (ML : Meth X.K C nl fl) (hnl : PySem.dunder op.info.2 = nl) (sf : PySem.W.selfFirst X.K C = true)
    (hb : Binds X.K fd ps []) (hx : Passes CX X E) (hsub : PySem.W.subIn X.K (.ref C) (.type "int") = some false)
    (fills : fillsNumberSlot (.type "int") op.info.2 = pure true) (slot : Slot "int" (PySem.dunder op.info.2) idl) (entry : entryFor table idl = some B) (args : ∀ n t a, argsOk idl ⟨[.int n t, .ref a], []⟩)
    (meets : ∀ n t x dx, Meets (B ⟨[.int n t, .ref x], []⟩) (fun _ R s => s.heap.get? x = some (PySem.W.instObj C dx) ∧ R (.ok (.ret Value.notImplemented)) s)) :
    OpR X (binaryOp op) (rIOwn C sp E) := by
  intro pins s σ H x y v u Q I rx ry h
  obtain ⟨a, n, dx, fs, rfl, rfl, ha, q⟩ := h
  cases ry
  obtain ⟨t, rfl⟩ := rx
  obtain ⟨mA, J0, _⟩ := ins_get I.hok ha
  obtain ⟨od, J, _⟩ := J0.look
  have Xk := I.kIn
  obtain ⟨cd, rest, hcd, hm⟩ := PySem.W.ksp_first sf
  rcases hi : op.info with ⟨sym, nm'⟩
  rw [hi] at hn hnl fills slot
  dsimp only at hn hnl fills slot
  have L3 : PySem.W.Looks (model X.prog X.w) s.heap (fillsNumberSlot (.ref C) nm') true := PySem.W.fills_K Xk hcd hm (hnl ▸ ML.at_)
  have L5 : PySem.W.Looks (model X.prog X.w) s.heap (isSubtype (.ref C) (.type "int")) false := PySem.W.looks_subIn Xk hsub
  have hne : (Value.type "int" == Value.ref C) = false := Bool.eq_false_iff.mpr fun q => by cases beq_iff_eq.mp q
  have L0 : typeOf (.int n t) = pure (.type "int") := rfl
  simp only [binaryOp, hi]
  refine wpAny_holding (wpAny_bind ?_)
  unfold binaryOp1
  refine wpAny_bind (wpAny_of_eq L0 (wpAny_bind (J.type.here (wpAny_bind (wpAny_of_eq fills ?_)))))
  simp only [hne, Bool.false_eq_true, if_false]
  refine wpAny_bind (L3.here ?_)
  simp only [Bool.and_self, if_true]
  refine wpAny_bind (L5.here ?_)
  have hpy : numberSlotInPython (.type "int") nm' = pure false := rfl
  simp only [Bool.false_eq_true, if_false, pure_bind, Bool.not_false, Bool.and_self, if_true, hpy]
  refine wpAny_bind (wpAny_tryMethod_declines (T := "int") rfl slot (call_meets slot rfl entry (args n t a) (meets n t a dx) ⟨J0.obj, rfl, ?_⟩))
  refine wpAny_bind ?_
  have z := PySem.W.ksp_try (Q := EP X pins σ Q) Xk J (hn ▸ M.at_) M.fn (thn (run_fn (us := [.ref a, .int n t]) (vs := [.ref a, .int n]) F hr hb .nil hx I (.cons rfl (.cons ⟨_, rfl⟩ .nil)) q) fun _ _ z => back_cmp z)
  refine wpAny_mono z (fun r s' hr' => ?_) fun _ _ e => e
  obtain ⟨v, rfl, hq⟩ := hr'
  exact wpAny_bind (wpAny_rule (wpAny_pure (wpAny_pure hq)))
/-- C.m is a staticmethod: its record at p, its def at g -/
structure SMet (K : PySem.W.Frag) (C : Addr) (mc : Value) (m : Str) (p g : Addr) : Prop where
  at_ : PySem.W.findCls K (.ref C) mc m = some (.get (.builtin "staticmethod.__get__") (.ref p) .none (.ref C))
  rc : ∃ rest, PySem.W.recIn K p "staticmethod" = some (.ref g :: rest)
  kp : PySem.W.keepIn K (.ref g) = true
theorem getsmet_ok {b : Bool} {A : Around} {E : Value → Shared → Prop} {Q : Value → Shared → Prop} (I : Inv X pins σ H s) (r : CRead X.K C mc) (c : SMet X.K C mc m p g)
    (h : ∀ s', Inv X pins σ H s' → Q (.ref g) s') : wpAny (model X.prog X.w) A (getAttr (.ref C) m b) Q E s := by
  obtain ⟨rest, hp⟩ := c.rc
  refine PySem.W.cls_bind I.kIn r.rd c.at_ ?_
  exact wpAny_call (PySem.W.sm_get (s := { s with toks := s.toks + 1 }) I.kIn hp (PySem.W.handed_on rfl (h _ (I.tok _))))
def tSMeth (C : Addr) (sp : Sp) (E : XK) (ta : TE) (t : TA) : TE := fun σ H Q => ta σ H fun x H1 => x = .ref C ∧ t σ H1 fun vs H2 => sp vs H2 Q E
theorem pe_smeth (he : PE X o ta) (r : CRead X.K C mc) (c : SMet X.K C mc m p g) (F : FnOk X.prog X.w X.K X.mg X.base CX k g fd ps sp) (hr : Room k X.A) (hb : Binds X.K fd ps []) (hx : Passes CX X E) (ha : PA X (e :: es) t)
    (hst : starEach (e :: es) X.env = (false, eval e X.env) :: starEach es X.env := by rfl) (hpl : (backTo pos (starEach es X.env)).any (·.1) = false := by rfl)
    (ht : eval (.Call (.Attribute o m apos) (e :: es) [] pos) X.env = (do
      let ov ← eval o X.env
      standAt apos.atName
      let (f, first) ← holding [ov] (getMethod ov m pl)
      callWith pos f first (backTo pos (starEach (e :: es) X.env)) (backToKw pos (keywordEach [] X.env))) := by rfl) :
    PE X (.Call (.Attribute o m apos) (e :: es) [] pos) (tSMeth C sp E ta t) := by
  refine ⟨fun pins s σ H Q I h => ?_⟩
  refine PySem.W.methodCall_KW (pl := pl) (thn (he.run pins s σ H _ I h) fun u s1 ⟨x, H1, I1, rx, ex, q⟩ => ?_) ht
  subst ex
  obtain rfl : u = Value.ref C := rx
  refine PySem.W.method_cls I1.kIn r.ga (getsmet_ok I1 r c fun s2 I2 => ?_)
  refine PySem.W.callWith_K (first := []) (h₀ := X.base) I.ok.mod.kin c.kp (thn (ha.run pos _ s2 σ H1 _ I2 q) fun us s3 ⟨vs, H2, I3, rv, q2⟩ => ⟨I3.kIn, ?_⟩) hst hpl
  exact run_fn (us := us) (vs := vs) F hr hb .nil hx I3 rv (by rw [List.append_nil]; exact q2)
end
end TzOwn
namespace TzOwn
open PySem L2 SeqAt
section
variable {X : Cx}
/-- xs != [], xs == [], whatever the items are: the second list is empty -/
def rNeNil : R2 := fun x y H Q => ∃ a b xs, x = .ref a ∧ y = .ref b ∧ H a = some (.lst xs) ∧ H b = some (.lst []) ∧ Q (.bl (!xs.isEmpty)) H
def rEqNil : R2 := fun x y H Q => ∃ a b xs, x = .ref a ∧ y = .ref b ∧ H a = some (.lst xs) ∧ H b = some (.lst []) ∧ Q (.bl xs.isEmpty) H
theorem op_neNil (hu : X.A.units < cLine) : OpR X (compareOp .NotEq) rNeNil := by
  intro pins s σ H x y v u Q I rx ry h
  obtain ⟨a, b, xs, rfl, rfl, ha, hb, q⟩ := h
  cases rx
  cases ry
  obtain ⟨_, its, n, r, e⟩ := I.hok a _ ha
  obtain ⟨_, its2, n2, r2, e2⟩ := I.hok b _ hb
  have l2 : its2 = [] := List.length_eq_zero_iff.mp r2.length.symm
  subst l2
  show wpAny (model X.prog X.w) X.A (richCompare .NotEq (.ref a) (.ref b)) (EP X pins σ Q) X.xe s
  cases xs with
  | nil =>
    have l1 : its = [] := List.length_eq_zero_iff.mp r.length.symm
    subst l1
    exact RcNeAt.lists (e := fun _ => true) ⟨_, e, rfl, n, rfl⟩ ⟨_, e2, rfl, n2, rfl⟩ rfl hu (fun i h1 => absurd h1 (Nat.not_lt_zero _)) _ _ _ _ ⟨.bl false, H, I, rfl, q⟩
  | cons y ys =>
    have l1 : its.length = ys.length + 1 := r.length.symm
    exact RcNeAt.lists_lengths ⟨_, e, rfl, n, rfl⟩ ⟨_, e2, rfl, n2, rfl⟩ (by simp [l1]) hu _ _ _ _ ⟨.bl true, H, I, rfl, q⟩
end
end TzOwn
namespace Tz
open PySem L2
/-! ### mathematics of carried sums -/
/-- the greatest value -/
def mw (w : Nat) : Int := 2 ^ w - 1
theorem mw_pos {w : Nat} (h : 1 ≤ w) : 1 ≤ mw w := by
  have := pow_gt h
  unfold mw
  omega
theorem mw_64 {w : Nat} (h : w ≤ 64) : mw w < 18446744073709551616 := by
  have := pow_le64 h
  unfold mw
  omega
theorem mw_lt {w : Nat} {v : Int} : v < 2 ^ w ↔ v ≤ mw w := by
  unfold mw
  omega
/-- the value of a sum of words whose plain sum is n -/
def cr (w : Nat) (n : Int) : Int := if 0 < n then (n - 1) % mw w + 1 else 0
theorem cr_bd {w : Nat} (h : 1 ≤ w) (n : Int) : 0 ≤ cr w n ∧ cr w n ≤ mw w := by
  have hm := mw_pos h
  unfold cr
  split
  · have := emod_bd (a := n - 1) (m := mw w) (by omega)
    omega
  · omega
theorem cr_pos {w : Nat} (h : 1 ≤ w) {n : Int} (hn : 0 < n) : 1 ≤ cr w n := by
  have hm := mw_pos h
  unfold cr
  rw [if_pos hn]
  have := emod_bd (a := n - 1) (m := mw w) (by omega)
  omega
theorem cr_zero (w : Nat) : cr w 0 = 0 := rfl
theorem cr_non {w : Nat} {n : Int} (h : ¬ 0 < n) : cr w n = 0 := if_neg h
/-- the one word from 1 to M with the rest of n -/
theorem cr_eq {w : Nat} {n r q : Int} (hn : 0 < n) (h1 : 1 ≤ r) (h2 : r ≤ mw w) (e : n = r + mw w * q) : cr w n = r := by
  unfold cr
  rw [if_pos hn, show n - 1 = (r - 1) + mw w * q by omega, Int.add_mul_emod_self_left, Int.emod_eq_of_lt (by omega) (by omega)]
  omega
theorem cr_ex {w : Nat} (n : Int) (hn : 0 < n) : ∃ q, n = cr w n + mw w * q := by
  refine ⟨(n - 1) / mw w, ?_⟩
  unfold cr
  rw [if_pos hn]
  have := Int.emod_add_mul_ediv (n - 1) (mw w)
  omega
theorem cr_self {w : Nat} {x : Int} (h0 : 0 ≤ x) (h1 : x ≤ mw w) : cr w x = x := by
  by_cases h : 0 < x
  · exact cr_eq (q := 0) h (by omega) h1 (by omega)
  · rw [cr_non h]
    omega
/-- the carry may be done ahead -/
theorem cr_add {w : Nat} (h : 1 ≤ w) {a b : Int} (ha : 0 ≤ a) (hb : 0 ≤ b) : cr w (cr w a + b) = cr w (a + b) := by
  by_cases h0 : 0 < a
  · obtain ⟨q, e⟩ := cr_ex (w := w) a h0
    have p1 := cr_pos h h0
    have p2 := cr_bd h (a + b)
    have p3 := cr_pos h (n := a + b) (by omega)
    obtain ⟨r, e2⟩ := cr_ex (w := w) (a + b) (by omega)
    refine cr_eq (q := r - q) (by omega) p3 p2.2 ?_
    rw [Int.mul_sub]
    omega
  · rw [cr_non h0, show a = 0 by omega]
theorem cr_add2 {w : Nat} (h : 1 ≤ w) {a b : Int} (ha : 0 ≤ a) (hb : 0 ≤ b) : cr w (cr w a + cr w b) = cr w (a + b) := by
  rw [cr_add h ha (cr_bd h b).1, Int.add_comm, cr_add h hb ha, Int.add_comm]
theorem cr_mul {w : Nat} (h : 1 ≤ w) {k a : Int} (hk : 0 ≤ k) (ha : 0 ≤ a) : cr w (k * cr w a) = cr w (k * a) := by
  by_cases h0 : 0 < a
  · by_cases k0 : 0 < k
    · obtain ⟨q, e⟩ := cr_ex (w := w) a h0
      have p1 := cr_pos h h0
      have hka := Int.mul_pos k0 h0
      have hkc := Int.mul_pos k0 (show 0 < cr w a by omega)
      have p2 := cr_bd h (k * a)
      have p3 := cr_pos h hka
      obtain ⟨r, e2⟩ := cr_ex (w := w) (k * a) hka
      refine cr_eq (q := r - k * q) hkc p3 p2.2 ?_
      have e3 : k * a = k * cr w a + mw w * (k * q) := by
        conv => lhs; rw [e]
        rw [Int.mul_add, Int.mul_left_comm]
      rw [Int.mul_sub]
      omega
    · rw [show k = 0 by omega, Int.zero_mul, Int.zero_mul]
  · rw [cr_non h0, show a = 0 by omega]
/-! ### what a word is -/
/-- its attributes, in the order in which __init__ stores them -/
def wf (w : Nat) (v : Int) : List (Str × V) :=
  putF "is_full" (.bl (v == mw w)) (putF "is_empty" (.bl (v == 0)) (putF "rest" (.int (v % mw w)) (putF "value" (.int v) (putF "width" (.int w) []))))
theorem sne : (¬ (("width" : Str) = "value")) ∧ (¬ (("width" : Str) = "rest")) ∧ (¬ (("width" : Str) = "is_empty")) ∧ (¬ (("width" : Str) = "is_full")) ∧ (¬ (("value" : Str) = "rest")) ∧ (¬ (("value" : Str) = "is_empty")) ∧ (¬ (("value" : Str) = "is_full")) ∧
    (¬ (("rest" : Str) = "is_empty")) ∧ (¬ (("rest" : Str) = "is_full")) ∧ (¬ (("is_empty" : Str) = "is_full")) := by decide +kernel
theorem wf_width (w : Nat) (v : Int) : (wf w v).lookup ("width" : Str) = some (.int w) := by
  unfold wf
  rw [lookup_putF, if_neg sne.2.2.2.1, lookup_putF, if_neg sne.2.2.1, lookup_putF, if_neg sne.2.1, lookup_putF, if_neg sne.1, lookup_putF, if_pos rfl]
theorem wf_value (w : Nat) (v : Int) : (wf w v).lookup ("value" : Str) = some (.int v) := by
  unfold wf
  rw [lookup_putF, if_neg sne.2.2.2.2.2.2.1, lookup_putF, if_neg sne.2.2.2.2.2.1, lookup_putF, if_neg sne.2.2.2.2.1, lookup_putF, if_pos rfl]
theorem wf_rest (w : Nat) (v : Int) : (wf w v).lookup ("rest" : Str) = some (.int (v % mw w)) := by
  unfold wf
  rw [lookup_putF, if_neg sne.2.2.2.2.2.2.2.2.1, lookup_putF, if_neg sne.2.2.2.2.2.2.2.1, lookup_putF, if_pos rfl]
theorem wf_is_empty (w : Nat) (v : Int) : (wf w v).lookup ("is_empty" : Str) = some (.bl (v == 0)) := by
  unfold wf
  rw [lookup_putF, if_neg sne.2.2.2.2.2.2.2.2.2, lookup_putF, if_pos rfl]
theorem wf_is_full (w : Nat) (v : Int) : (wf w v).lookup ("is_full" : Str) = some (.bl (v == mw w)) := by
  unfold wf
  rw [lookup_putF, if_pos rfl]
theorem wf_no (w : Nat) (v : Int) {m : Str} (h1 : ¬ m = "width") (h2 : ¬ m = "value") (h3 : ¬ m = "rest") (h4 : ¬ m = "is_empty") (h5 : ¬ m = "is_full") : (wf w v).lookup m = none := by
  unfold wf
  rw [lookup_putF, if_neg h5, lookup_putF, if_neg h4, lookup_putF, if_neg h3, lookup_putF, if_neg h2, lookup_putF, if_neg h1]
  all_goals rfl
structure WordAt (C : Addr) (H : Hp) (x : Addr) (w : Nat) (v : Int) : Prop where
  ob : ∃ dx, H x = some (.ins C dx (wf w v))
  w1 : 1 ≤ w
  w64 : w ≤ 64
  v0 : 0 ≤ v
  vm : v ≤ mw w
theorem WordAt.ex {C : Addr} {H H' : Hp} {x : Addr} {w : Nat} {v : Int} (h : WordAt C H x w v) (e : Ex H H') : WordAt C H' x w v := by
  obtain ⟨⟨dx, h1⟩, h2, h3, h4, h5⟩ := h
  exact ⟨⟨dx, e _ _ h1⟩, h2, h3, h4, h5⟩
theorem WordAt.fw {C : Addr} {H H' : Hp} {x z : Addr} {w : Nat} {v : Int} (h : WordAt C H x w v) (e : Fw z H H') (n : x ≠ z) : WordAt C H' x w v := by
  obtain ⟨⟨dx, h1⟩, h2, h3, h4, h5⟩ := h
  exact ⟨⟨dx, e _ _ n h1⟩, h2, h3, h4, h5⟩
theorem WordAt.ne_pen {C : Addr} {H : Hp} {x z c : Addr} {w t : Nat} {v : Int} {cells : List Int} (h : WordAt C H x w v) (p : PenAt H z c cells t) : x ≠ z := by
  obtain ⟨⟨dx, h1⟩, _⟩ := h
  obtain ⟨⟨i, l, h2, _⟩, _⟩ := p
  exact ne_of h1 h2 (by intro q; cases q)
/-! ### promises -/
def spIsFromI : Sp := fun vs H Q _ => ∃ v lo hi : Int, vs = [.int v, .int lo, .int hi] ∧ ∀ b : Bool, (b = true ↔ lo ≤ v ∧ v ≤ hi) → Q (.bl b) H
def spMost : Sp := fun vs H Q _ => ∃ w : Nat, vs = [.int w] ∧ 1 ≤ w ∧ w ≤ 64 ∧ Q (.int (mw w)) H
def spCheckedWidth : Sp := fun vs H Q _ => ∃ w : Nat, vs = [.int w] ∧ 1 ≤ w ∧ w ≤ 64 ∧ Q (.int w) H
def spWordInit (C : Addr) : Sp := fun vs H Q _ => ∃ p dx, ∃ w : Nat, ∃ v : Int, vs = [.ref p, .int w, .int v] ∧ H p = some (.ins C dx []) ∧ 1 ≤ w ∧ w ≤ 64 ∧ 0 ≤ v ∧ v ≤ mw w ∧
  ∀ H', H' p = some (.ins C dx (wf w v)) → (∀ b o, H b = some o → b ≠ p → H' b = some o) → Q .non H'
def spCarried : Sp := fun vs H Q _ => ∃ w : Nat, ∃ n : Int, vs = [.int w, .int n] ∧ 1 ≤ w ∧ w ≤ 64 ∧ Q (.int (cr w n)) H
/-- a new word -/
def NewW (C : Addr) (w : Nat) (v : Int) (H : Hp) (Q : VK) : Prop := ∀ p H', H p = none → Ex H H' → WordAt C H' p w v → Q (.ref p) H'
theorem NewW.go {C : Addr} {w : Nat} {v : Int} {H H1 H2 : Hp} {Q : VK} {p : Addr} (k : NewW C w v H Q) (e : Ex H H1) (n : H1 p = none) (e2 : Ex H1 H2) (W : WordAt C H2 p w v) : Q (.ref p) H2 := k p H2 (back e n) (e.trans e2) W
def spSumWord (C : Addr) : Sp := fun vs H Q _ => ∃ w : Nat, ∃ a b : Int, vs = [.int w, .int a, .int b] ∧ 1 ≤ w ∧ w ≤ 64 ∧ NewW C w (cr w (a + b)) H Q
def spDiffWord (C : Addr) : Sp := fun vs H Q _ => ∃ w : Nat, ∃ a b : Int, vs = [.int w, .int a, .int b] ∧ 1 ≤ w ∧ w ≤ 64 ∧ NewW C w (cr w (a + (mw w - b))) H Q
def spTimes : Sp := fun vs H Q _ => ∃ k : Int, vs = [.int k] ∧ 0 ≤ k ∧ k ≤ 1000000000000000000000000000000 ∧ Q (.int k) H
def spTurned (C : Addr) : Sp := fun vs H Q _ => ∃ x, ∃ w : Nat, ∃ v k : Int, vs = [.ref x, .int k] ∧ WordAt C H x w v ∧ NewW C w (cr w (v * 2 ^ (k % w).toNat)) H Q
def spOperand (C : Addr) : Sp := fun vs H Q _ => ∃ x y, ∃ w : Nat, ∃ u v : Int, vs = [.ref x, .ref y] ∧ WordAt C H x w u ∧ WordAt C H y w v ∧ Q (.int v) H
def spAdd (C : Addr) : Sp := fun vs H Q _ => ∃ x y, ∃ w : Nat, ∃ u v : Int, vs = [.ref x, .ref y] ∧ WordAt C H x w u ∧ WordAt C H y w v ∧ NewW C w (cr w (u + v)) H Q
def spSub (C : Addr) : Sp := fun vs H Q _ => ∃ x y, ∃ w : Nat, ∃ u v : Int, vs = [.ref x, .ref y] ∧ WordAt C H x w u ∧ WordAt C H y w v ∧ NewW C w (cr w (u + (mw w - v))) H Q
def spEq (C : Addr) : Sp := fun vs H Q _ => ∃ x y, ∃ w1 w2 : Nat, ∃ u v : Int, vs = [.ref x, .ref y] ∧ WordAt C H x w1 u ∧ WordAt C H y w2 v ∧ Q (.bl (decide (w1 = w2) && decide (u = v))) H
def spLike (C : Addr) : Sp := fun vs H Q _ => ∃ x y, ∃ w : Nat, ∃ u v : Int, vs = [.ref x, .ref y] ∧ WordAt C H x w u ∧ WordAt C H y w v ∧ Q (.bl (decide (u % mw w = v % mw w))) H
def spMulI (C : Addr) : Sp := fun vs H Q _ => ∃ x, ∃ w : Nat, ∃ u k : Int, vs = [.ref x, .int k] ∧ WordAt C H x w u ∧ 0 ≤ k ∧ k ≤ 1000000000000000000000000000000 ∧ NewW C w (cr w (k * u)) H Q
def spShlI (C : Addr) : Sp := fun vs H Q _ => ∃ x, ∃ w : Nat, ∃ u k : Int, vs = [.ref x, .int k] ∧ WordAt C H x w u ∧ 0 ≤ k ∧ k ≤ 1000000000000000000000000000000 ∧ NewW C w (cr w (u * 2 ^ (k % w).toNat)) H Q
def spInv (C : Addr) : Sp := fun vs H Q _ => ∃ x, ∃ w : Nat, ∃ u : Int, vs = [.ref x] ∧ WordAt C H x w u ∧ NewW C w (mw w - u) H Q
def spConst (C : Addr) (f : Nat → Int) : Sp := fun vs H Q _ => ∃ w : Nat, vs = [.int w] ∧ 1 ≤ w ∧ w ≤ 64 ∧ NewW C w (f w) H Q
/-- a new instance and its __init__ -/
theorem mk_word {C : Addr} {w : Nat} {v : Int} {H : Hp} {Q : VK} {E : XK} (w1 : 1 ≤ w) (w64 : w ≤ 64) (v0 : 0 ≤ v) (vm : v ≤ mw w) (k : NewW C w v H Q) :
    ∀ x dx, H x = none → H dx = none → dx ≠ x → spWordInit C [.ref x, .int w, .int v] (upd (upd H dx (.own x)) x (.ins C dx [])) (fun u H2 => u = .non ∧ Q (.ref x) H2) E := fun x dx nx ndx _ =>
  ⟨x, dx, w, v, rfl, upd_same, w1, w64, v0, vm, fun H' hx hk => ⟨rfl, k x H' nx (fun b o e => hk b o (by rw [upd_ne (ne_of_none e nx), upd_ne (ne_of_none e ndx)]; exact e) (ne_of_none e nx)) ⟨⟨dx, hx⟩, w1, w64, v0, vm⟩⟩⟩
theorem kit_self {K : PySem.W.Frag} {v : Value} : PySem.W.kitOne K v v = some true := by
  unfold PySem.W.kitOne
  rw [if_pos (beq_self_eq_true v)]
/-! ### rows of words -/
inductive Ws (C : Addr) (H : Hp) (w : Nat) : List Addr → List Int → Prop where
  | nil : Ws C H w [] []
  | cons {x : Addr} {v : Int} {xs : List Addr} {vs : List Int} (h : WordAt C H x w v) (t : Ws C H w xs vs) : Ws C H w (x :: xs) (v :: vs)
theorem Ws.len {C : Addr} {H : Hp} {w : Nat} {xs : List Addr} {vs : List Int} (h : Ws C H w xs vs) : xs.length = vs.length := by
  induction h with
  | nil => rfl
  | cons _ _ ih => rw [List.length_cons, List.length_cons, ih]
theorem Ws.get {C : Addr} {H : Hp} {w : Nat} {xs : List Addr} {vs : List Int} (h : Ws C H w xs vs) : ∀ {i : Nat}, i < xs.length → ∃ x v, xs[i]? = some x ∧ vs[i]? = some v ∧ WordAt C H x w v := by
  induction h with
  | nil => intro i hi; exact absurd hi (Nat.not_lt_zero _)
  | @cons x v xs vs h t ih =>
    intro i hi
    cases i with
    | zero => exact ⟨x, v, rfl, rfl, h⟩
    | succ i => exact ih (by simpa using hi)
theorem Ws.fw {C : Addr} {H H' : Hp} {w : Nat} {xs : List Addr} {vs : List Int} (h : Ws C H w xs vs) (k : ∀ x v, WordAt C H x w v → WordAt C H' x w v) : Ws C H' w xs vs := by
  induction h with
  | nil => exact .nil
  | cons h _ ih => exact .cons (k _ _ h) ih
theorem Ws.app {C : Addr} {H : Hp} {w : Nat} {xs ys : List Addr} {vs us : List Int} (h : Ws C H w xs vs) (g : Ws C H w ys us) : Ws C H w (xs ++ ys) (vs ++ us) := by
  induction h with
  | nil => exact g
  | cons h _ ih => exact .cons h ih
theorem Ws.take {C : Addr} {H : Hp} {w : Nat} {xs : List Addr} {vs : List Int} (h : Ws C H w xs vs) : ∀ n, Ws C H w (xs.take n) (vs.take n) := by
  induction h with
  | nil => intro n; rw [List.take_nil, List.take_nil]; exact .nil
  | cons h _ ih =>
    intro n
    cases n with
    | zero => exact .nil
    | succ n => exact .cons h (ih n)
theorem Ws.drop {C : Addr} {H : Hp} {w : Nat} {xs : List Addr} {vs : List Int} (h : Ws C H w xs vs) : ∀ n, Ws C H w (xs.drop n) (vs.drop n) := by
  induction h with
  | nil => intro n; rw [List.drop_nil, List.drop_nil]; exact .nil
  | @cons x v xs vs h t ih =>
    intro n
    cases n with
    | zero => exact .cons h t
    | succ n => exact ih n
theorem Ws.erase {C : Addr} {H : Hp} {w : Nat} {xs : List Addr} {vs : List Int} (h : Ws C H w xs vs) : ∀ n, Ws C H w (xs.eraseIdx n) (vs.eraseIdx n) := by
  induction h with
  | nil => intro n; exact .nil
  | @cons x v xs vs h t ih =>
    intro n
    cases n with
    | zero => exact t
    | succ n => exact .cons h (ih n)
theorem Ws.nonneg {C : Addr} {H : Hp} {w : Nat} {xs : List Addr} {vs : List Int} (h : Ws C H w xs vs) : 0 ≤ vs.sum := by
  induction h with
  | nil => exact Int.le_refl 0
  | cons h _ ih =>
    have := h.v0
    rw [List.sum_cons]
    omega
theorem sum_erase : ∀ {vs : List Int} {i : Nat} {v : Int}, vs[i]? = some v → vs.sum = v + (vs.eraseIdx i).sum
  | [], i, v, h => by simp at h
  | a :: r, 0, v, h => by
    have e : a = v := Option.some.inj h
    subst e
    rw [List.sum_cons, List.eraseIdx_cons_zero]
  | a :: r, i + 1, v, h => by
    have ih := sum_erase (vs := r) (i := i) (v := v) h
    rw [List.sum_cons, ih, List.eraseIdx_cons_succ, List.sum_cons]
    omega
theorem sum_mid : ∀ {vs : List Int} {i : Nat} {a b : Int}, vs[i]? = some a → vs[i + 1]? = some b → vs.sum = (vs.take i).sum + (a + b) + (vs.drop (i + 2)).sum
  | [], i, a, b, h, _ => by simp at h
  | [c], i, a, b, _, h => by simp at h
  | c :: d :: r, 0, a, b, h, h' => by
    have e : c = a := Option.some.inj h
    have e' : d = b := Option.some.inj h'
    subst e e'
    show (c :: d :: r).sum = 0 + (c + d) + r.sum
    rw [List.sum_cons, List.sum_cons]
    omega
  | c :: d :: r, i + 1, a, b, h, h' => by
    have ih := sum_mid (vs := d :: r) (i := i) (a := a) (b := b) h h'
    rw [List.sum_cons, ih, List.take_succ_cons, List.sum_cons]
    show c + ((List.take i (d :: r)).sum + (a + b) + (List.drop (i + 2) (d :: r)).sum) = c + (List.take i (d :: r)).sum + (a + b) + (List.drop (i + 2) (d :: r)).sum
    omega
/-! ### one operation, told by words -/
section
variable {C : Addr} {E : XK} {H : Hp} {Q : VK} {a b : Addr} {w w' : Nat} {u v k : Int}
theorem g_add (Wa : WordAt C H a w u) (Wb : WordAt C H b w v) (q : NewW C w (cr w (u + v)) H Q) : TzOwn.rOwn C (spAdd C) E (.ref a) (.ref b) H Q := by
  obtain ⟨da, ha⟩ := Wa.ob
  obtain ⟨db, hb⟩ := Wb.ob
  exact ⟨a, b, da, db, _, _, rfl, rfl, ha, hb, a, b, w, u, v, rfl, Wa, Wb, q⟩
theorem g_sub (Wa : WordAt C H a w u) (Wb : WordAt C H b w v) (q : NewW C w (cr w (u + (mw w - v))) H Q) : TzOwn.rOwn C (spSub C) E (.ref a) (.ref b) H Q := by
  obtain ⟨da, ha⟩ := Wa.ob
  obtain ⟨db, hb⟩ := Wb.ob
  exact ⟨a, b, da, db, _, _, rfl, rfl, ha, hb, a, b, w, u, v, rfl, Wa, Wb, q⟩
theorem g_eq (Wa : WordAt C H a w u) (Wb : WordAt C H b w v) (q : Q (.bl (decide (u = v))) H) : TzOwn.rOwn C (spEq C) E (.ref a) (.ref b) H Q := by
  obtain ⟨da, ha⟩ := Wa.ob
  obtain ⟨db, hb⟩ := Wb.ob
  refine ⟨a, b, da, db, _, _, rfl, rfl, ha, hb, a, b, w, w, u, v, rfl, Wa, Wb, ?_⟩
  rw [decide_eq_true (rfl : w = w), Bool.true_and]
  exact q
/-- .. two that are equal -/
theorem g_eqT (Wa : WordAt C H a w u) (Wb : WordAt C H b w v) (e : u = v) (q : Q (.bl true) H) : TzOwn.rOwn C (spEq C) E (.ref a) (.ref b) H Q := g_eq Wa Wb (by rw [decide_eq_true e]; exact q)
theorem g_rmul (Wa : WordAt C H a w u) (k0 : 0 ≤ k) (k1 : k ≤ 1000000000000000000000000000000) (q : NewW C w (cr w (k * u)) H Q) : TzOwn.rIOwn C (spMulI C) E (.int k) (.ref a) H Q := by
  obtain ⟨da, ha⟩ := Wa.ob
  exact ⟨a, k, da, _, rfl, rfl, ha, a, w, u, k, rfl, Wa, k0, k1, q⟩
theorem g_mul (Wa : WordAt C H a w u) (k0 : 0 ≤ k) (k1 : k ≤ 1000000000000000000000000000000) (q : NewW C w (cr w (k * u)) H Q) : TzOwn.rOwnI C (spMulI C) E (.ref a) (.int k) H Q := by
  obtain ⟨da, ha⟩ := Wa.ob
  exact ⟨a, k, da, _, rfl, rfl, ha, a, w, u, k, rfl, Wa, k0, k1, q⟩
theorem g_shl (Wa : WordAt C H a w u) (k0 : 0 ≤ k) (k1 : k ≤ 1000000000000000000000000000000) (q : NewW C w (cr w (u * 2 ^ (k % w).toNat)) H Q) : TzOwn.rOwnI C (spShlI C) E (.ref a) (.int k) H Q := by
  obtain ⟨da, ha⟩ := Wa.ob
  exact ⟨a, k, da, _, rfl, rfl, ha, a, w, u, k, rfl, Wa, k0, k1, q⟩
theorem g_inv (Wa : WordAt C H a w u) (q : NewW C w (mw w - u) H Q) : TzOwn.rOwn1 C (spInv C) E (.ref a) H Q := by
  obtain ⟨da, ha⟩ := Wa.ob
  exact ⟨a, da, _, rfl, ha, a, w, u, rfl, Wa, q⟩
end
theorem Fw.mut {z p : Addr} {H H' : Hp} {o : HO} (e : Fw z H H') (h : H p = none) : Fw z H (upd H' p o) := fun a u n ha => by
  rw [upd_ne (ne_of_none ha h)]
  exact e a u n ha
theorem PenAt.upd {H : Hp} {z c b : Addr} {cells : List Int} {t : Nat} {o : HO} (h : PenAt H z c cells t) (bz : b ≠ z) (bc : b ≠ c) : PenAt (upd H b o) z c cells t := by
  obtain ⟨⟨i, l, h1, h2⟩, h3, h4, h5⟩ := h
  exact ⟨⟨i, l, by rw [upd_ne bz.symm]; exact h1, h2⟩, by rw [upd_ne bc.symm]; exact h3, h4, h5⟩
theorem PenAt.off {H : Hp} {z c b : Addr} {cells : List Int} {t : Nat} (h : PenAt H z c cells t) (n : H b = none) : b ≠ z ∧ b ≠ c := by
  obtain ⟨⟨i, l, h1, _⟩, h3, _⟩ := h
  exact ⟨(ne_of_none h1 n).symm, (ne_of_none h3 n).symm⟩
theorem seqIx {i n : Nat} (h : i < n) : seqIndex? (i : Int) n = some i := by
  have e : ixN n (i : Int) = some i := by
    unfold ixN
    rw [if_pos (by omega), if_pos (by omega), Int.toNat_natCast]
  exact (ixN_seq e).1
theorem erase_map {α β : Type} (f : α → β) : ∀ (xs : List α) (i : Nat), (xs.map f).eraseIdx i = (xs.eraseIdx i).map f
  | [], _ => rfl
  | _ :: _, 0 => rfl
  | x :: r, i + 1 => by
    rw [List.map_cons, List.eraseIdx_cons_succ, List.eraseIdx_cons_succ, List.map_cons, erase_map f r i]
theorem eqv_ints (ns ms : List Int) : PyData.eqv (.list (ns.map PyData.int)) (.list (ms.map PyData.int)) = decide (ns = ms) := by
  rw [← SeqAt.same_eq_eqv _ _ (by simp only [SeqAt.noMix]; exact PySem.W.noMix_ints ns ms)]
  simp only [PySem.Spec.same]
  exact PySem.W.same_ints ns ms
theorem WordAt.off {C : Addr} {H : Hp} {x b : Addr} {w : Nat} {v : Int} {ys : List V} {o : HO} (h : WordAt C H x w v) (hb : H b = some (.lst ys)) : WordAt C (upd H b o) x w v := by
  obtain ⟨⟨dx, h1⟩, h2, h3, h4, h5⟩ := h
  exact ⟨⟨dx, by rw [upd_ne (ne_of h1 hb (by intro q; cases q))]; exact h1⟩, h2, h3, h4, h5⟩
theorem atI_neg1 {α : Type} {xs : List α} {v : α} {n : Nat} (hn : xs.length = n + 1) (h : xs[n]? = some v) : atI xs (-1) = some v := by
  unfold atI ixN
  rw [if_neg (by decide), if_pos (by omega), hn]
  show xs[((-1 : Int) + ((n + 1 : Nat) : Int)).toNat]? = some v
  rw [show ((-1 : Int) + ((n + 1 : Nat) : Int)).toNat = n by omega]
  exact h
theorem sum_zero : ∀ {vs : List Int}, (∀ v ∈ vs, 0 ≤ v) → (vs.sum = 0 ↔ vs = List.replicate vs.length 0)
  | [], _ => ⟨fun _ => rfl, fun _ => rfl⟩
  | a :: r, h => by
    have ih := sum_zero (vs := r) fun v hv => h v (List.mem_cons_of_mem _ hv)
    have a0 := h a List.mem_cons_self
    have r0 : 0 ≤ r.sum := by
      have : ∀ l : List Int, (∀ v ∈ l, 0 ≤ v) → 0 ≤ l.sum := by
        intro l
        induction l with
        | nil => intro _; exact Int.le_refl 0
        | cons x t iht =>
          intro hx
          have := hx x List.mem_cons_self
          have := iht fun v hv => hx v (List.mem_cons_of_mem _ hv)
          rw [List.sum_cons]
          omega
      exact this r fun v hv => h v (List.mem_cons_of_mem _ hv)
    rw [List.sum_cons, List.length_cons, List.replicate_succ]
    constructor
    · intro e
      rw [show a = 0 by omega, ← ih.mp (by omega)]
    · intro e
      injection e with e1 e2
      rw [e1, ih.mpr e2]
      all_goals rfl
theorem rep_flat (v : Int) : ∀ n : Nat, (List.replicate n [V.int v]).flatten = (List.replicate n v).map V.int
  | 0 => rfl
  | n + 1 => by
    rw [List.replicate_succ, List.flatten_cons, rep_flat v n, List.replicate_succ, List.map_cons]
    all_goals rfl
theorem yes_go {σ : L2.St} {H : Hp} {A B : Hp → Prop} (h : A H) : tYes σ H fun b H3 => if b = true then A H3 else B H3 := by
  show (if true = true then A H else B H)
  rw [if_pos rfl]
  exact h
theorem mk_word1 {C x dx : Addr} {w : Nat} {v : Int} {H : Hp} {Q : VK} {E : XK} (w1 : 1 ≤ w) (w64 : w ≤ 64) (v0 : 0 ≤ v) (vm : v ≤ mw w) (nx : H x = none) (ndx : H dx = none) (k : ∀ H', Ex H H' → WordAt C H' x w v → Q .non H') :
    spWordInit C [.ref x, .int w, .int v] (upd (upd H dx (.own x)) x (.ins C dx [])) Q E :=
  ⟨x, dx, w, v, rfl, upd_same, w1, w64, v0, vm, fun H' hx hk => k H' (fun b o e => hk b o (by rw [upd_ne (ne_of_none e nx), upd_ne (ne_of_none e ndx)]; exact e) (ne_of_none e nx)) ⟨⟨dx, hx⟩, w1, w64, v0, vm⟩⟩
end Tz
namespace Tz
open PySem PySem.Spec PyProof.Rows L2
/-! ### promises that hold where no repr is under way -/
structure FnQ (P : Program) (w : World) (K : PySem.W.Frag) (mg : Str → Option Value) (base : Heap) (k : Nat) (f : Addr) (fd : FuncData) (ps : List Str) (sp : Sp) : Prop where
  len : ∀ vs H Q E, sp vs H Q E → vs.length = ps.length
  run : ∀ (A : Around) (out : List Env) (s : Shared) (H : Hp) (args : Args) (us : List Value) (vs : List V) (Q : VK), A.guards = some [] → Room k A → Env0 P w K mg base A out s H → BindsTo s fd args (ps.zip us) → Vals vs us →
    sp vs H Q E0 → codeAny (model P w) A (.call (.ref f) args) (CR CX0 out P w H s Q E0) s
section
variable {P : Program} {w : World} {K : PySem.W.Frag} {mg : Str → Option Value} {base : Heap} {k : Nat} {f : Addr} {fd : FuncData} {ps N : List Str} {sp : Sp}
theorem FnQ.of_ok (F : FnOk P w K mg base CX0 k f fd ps sp) : FnQ P w K mg base k f fd ps sp :=
  ⟨F.len, fun A out s H args us vs Q _ hr e0 hb r h => F.run A out s H args us vs Q E0 hr e0 hb r h⟩
/-- a def by its body, nothing under way -/
theorem fnq {x qual : Str} {st : Stmt} (F : Fun K x qual st f fd) (S : FnScope N ps (defScope st)) (len : ∀ vs H Q E, sp vs H Q E → vs.length = ps.length)
    (body : ∀ (cdv : Value) (A : Around) (out : List Env) (s : Shared) (H : Hp) (vs : List V) (Q : VK), A.guards = some [] → Room k (A.deeper (envOfC qual (defScope st) s.heap.objs.size f cdv)) → sp vs H Q E0 →
      ∃ t, PSs (cxOf CX0 P w K mg base N qual (defScope st) f cdv A out s H E0).nox (defBody st) t ∧ t { nx := fun _ J => Q .non J, rt := Q } (start N vs) H) : FnQ P w K mg base (k + 1) f fd ps sp := by
  obtain ⟨oc, od, kV, doc, pm, an, cdv, ct, osl, rfl, lk, code⟩ := F.ex
  refine ⟨len, fun A out s H args us vs Q gd rm en bn rel want => ?_⟩
  have width := len _ _ _ _ want
  have inK : K.In s.heap := en.mod.kin.keeps fun b o q => (en.bs b o q).1
  have free : s.heap.NoLimit := en.mod.nolimit.keeps fun b o q => (en.bs b o q).1
  refine codeAny_call_function rm.depth (inK _ _ lk) rfl S.co S.gen rfl (PySem.W.codeRec_of inK code) (bn _ _ _ _ ?_)
  refine wpAny_newFunctionEnv_cells S.kind (fun ⟨n, v⟩ hy => (S.par n (List.of_mem_zip hy).1).elim .inl fun q => .inr ⟨q, PySem.W.cellsFrom_some _ _ _ (.inl q)⟩) fun env he s1 x => ?_
  subst he
  obtain ⟨t, ht, q⟩ := body cdv A out s H vs Q gd (rm.deeper _) want
  have J := inv_start (CX := CX0) (E := E0) S rm.hd en width rel x
  refine ⟨free.keeps x.toInCall.keep, codeAny_func (wpAny_mono (ht.nox.run [] s1 (start N vs) H _ J q) (fun fl s2 z => ?_) fun e s2 z => z)⟩
  have done : ∀ {σ : L2.St} {H2 : Hp} {v : V} {u : Value}, L2.Inv (cxOf CX0 P w K mg base N qual (defScope st) f cdv A out s H E0) [] σ H2 s2 → RelV v u → Q v H2 → CE out P w H s Q u s2 :=
    fun {σ H2 v u} I2 rv hv => ⟨v, H2, I2.os, I2.bare, I2.base, I2.hok, rv, hv⟩
  cases fl with
  | ret u =>
    obtain ⟨v, σ, H2, I2, rv, hv⟩ := z
    exact done I2 rv hv
  | next =>
    obtain ⟨σ, H2, I2, hv⟩ := z
    exact done (v := .non) I2 rfl hv
  | brk =>
    obtain ⟨_, _, _, no⟩ := z
    exact no.elim
  | cont =>
    obtain ⟨_, _, _, no⟩ := z
    exact no.elim
end
section
variable {X : Cx} {k : Nat} {f : Addr} {fd : FuncData} {ps : List Str} {sp : Sp} {x : Str} {p pos : Pos} {e : Expr} {es : List Expr} {t : TA}
theorem run_q {pins : List (Addr × Obj)} {σ : L2.St} {H : Hp} {s : Shared} {Q : VK} {us : List Value} {vs : List V} (F : FnQ X.prog X.w X.K X.mg X.base k f fd ps sp) (hg : X.A.guards = some []) (hr : Room k X.A) (hb : Binds X.K fd ps [])
    (I : L2.Inv X pins σ H s) (r : Vals vs us) (h : sp vs H Q E0) : wpAny (model X.prog X.w) X.A (call (.ref f) us) (EP X pins σ Q) X.xe s := by
  have ln : us.length = ps.length := r.length.symm.trans (F.len _ _ _ _ h)
  have bd := hb s us I.kIn (by rw [List.append_nil]; exact ln)
  rw [List.append_nil] at bd
  refine wpAny_call (codeAny_mono (F.run X.A X.stack s H ⟨us, []⟩ us vs Q hg hr I.env0 bd r h) fun res s' q => ?_)
  cases res with
  | error e => exact (show False from q).elim
  | ok fl =>
    cases fl with
    | ret u => exact I.after q
    | next => exact (show False from q).elim
    | brk => exact (show False from q).elim
    | cont => exact (show False from q).elim
/-- f(e, ..) -/
theorem pe_callQ (F : FnQ X.prog X.w X.K X.mg X.base k f fd ps sp) (hg : X.A.guards = some []) (hr : Room k X.A) (gl : Gl X x) (hm : X.mg x = some (.ref f)) (hk : PySem.W.keepIn X.K (.ref f) = true) (hb : Binds X.K fd ps []) (ha : PA X (e :: es) t)
    (hst : starEach (e :: es) X.env = (false, eval e X.env) :: starEach es X.env := by rfl) (hpl : (backTo pos (starEach es X.env)).any (·.1) = false := by rfl)
    (hdb : (x == ("__debug__" : Str)) = false := by decide) : PE X (.Call (.Name x p) (e :: es) [] pos) (tCall sp [] E0 t) :=
  ⟨fun pins s σ H Q I h => wpAny_Call_Name_kw (ld_glob I gl hm (PySem.W.callWith_K (h₀ := X.base) I.ok.mod.kin hk (thn (ha.run pos pins s σ H _ I h) fun us s1 ⟨vs, H1, I1, r, q⟩ =>
    ⟨I1.kIn, run_q (us := us) (vs := vs) F hg hr hb I1 r ((List.append_nil vs) ▸ (show sp (vs ++ []) H1 Q E0 from q))⟩) hst hpl) hdb)⟩
end
/-! ### a law, where no repr is under way -/
section
variable {P : Program} {w : World} {K : PySem.W.Frag} {mg mb : Str → Option Value} {k : Nat} {fa a : Addr} {fd : FuncData} {x : Str} {sp : Sp} {s : Shared} {vs : List Value} {ns : List Int}
theorem law_q (KX : K.In s.heap) (hns : s.heap.Ns mainGlobals mg) (hb : s.heap.Ns builtinsNs mb) (hbb : ∀ x : Str, x ≠ "__name__" → mb x = bootBuiltins x) (hlim : s.heap.NoLimit) (hg : s.gens = #[])
    (ha : s.heap.get? a = some { cls := .type "list", data := .seq vs.toArray }) (hi : IntsAre vs ns) (hl : ns.length ≤ sizeLine) (hr : Room k callerA)
    (F : ∀ base : Heap, K.In base → base.Ns mainGlobals mg → FnQ P w K mg base k fa fd [x] sp) (bind : ∀ (s : Shared) (u : Value), BindsTo s fd ⟨[u], []⟩ [(x, u)])
    (want : ∀ H : Hp, SqL K H a (ns.map V.int) → sp [.ref a] H (fun v _ => v = .bl true) E0) :
    codeAny (model P w) callerA (.call (.ref fa) ⟨[.ref a], []⟩) (fun r s' => r = .ok (.ret (.bool true)) ∧ OldK s.heap s'.heap ∧ s'.os = s.os ∧ AllBare s'.gens) s := by
  -- the script alone is told, and only where the module does not hold it
  obtain ⟨H, told, seq, atA, apart⟩ : ∃ H : Hp, (∀ b u, H b = some u → b = a ∧ u = .frz { cls := .type "list", data := .seq vs.toArray } (.lst (ns.map V.int))) ∧ SqL K H a (ns.map V.int) ∧ HOk P w H s.heap ∧ (H a ≠ none → K.lookup a = none) := by
    cases lk : K.lookup a with
    | some o =>
      have q := KX a o lk
      rw [ha] at q
      cases q
      refine ⟨fun _ => none, fun b u z => ?_, .inr ⟨_, vs.toArray, _, lk, rfl, rfl, rfl, by rw [List.size_toArray, hi.length]; exact hl, by simpa using vals_ints hi⟩, fun b u z => ?_, fun z => absurd rfl z⟩
      · have z' : (none : Option HO) = some u := z
        cases z'
      · have z' : (none : Option HO) = some u := z
        cases z'
    | none =>
      refine ⟨upd (fun _ => none) a (.frz { cls := .type "list", data := .seq vs.toArray } (.lst (ns.map V.int))), fun b u z => ?_, .inl (.inr ⟨_, upd_same⟩), fun b u z => ?_, fun _ => rfl⟩
      · by_cases q : b = a
        · subst q
          rw [upd_same] at z
          exact ⟨rfl, (Option.some.inj z).symm⟩
        · rw [upd_ne q] at z
          cases z
      · by_cases q : b = a
        · subst q
          rw [upd_same] at z
          cases z
          exact ⟨ha, by rw [List.length_map]; exact hl, vs, _, vals_ints hi, ha⟩
        · rw [upd_ne q] at z
          cases z
  have un0 : ∀ {b : Addr}, b ≠ a → H b = none := fun {b} n => by
    cases q : H b with
    | none => rfl
    | some u => exact absurd (told b u q).1 n
  have ns0 : ∀ {b : Addr} {m : Str → Option Value}, s.heap.Ns b m → (hidT s.heap H).Ns b m := fun {b m} ⟨o, es, ep, e, d, r⟩ => ⟨o, es, ep, hidT_get e (un0 fun q => by
    subst q
    rw [ha] at e
    cases e
    cases d), d, r⟩
  have k0 : K.In (hidT s.heap H) := fun b o e => hidT_get (KX b o e) (by
    by_cases q : b = a
    · subst q
      cases z : H b with
      | none => rfl
      | some u =>
        have n := apart (by rw [z]; exact fun q => nomatch q)
        rw [e] at n
        cases n
    · exact un0 q)
  have md : Mod K mg (hidT s.heap H) := ⟨k0, ns0 hns, ⟨mb, ns0 hb, hbb⟩, hlim.elim fun mc z => ⟨mc, ns0 z.1, z.2⟩⟩
  have en : Env0 P w K mg (hidT s.heap H) callerA [] s H := ⟨rfl, md, fun _ _ e => of_hidT e, Nat.le_of_eq (hidT_size _ _), trivial, fun b z => absurd (show b ∈ ([] : List Addr) from z) List.not_mem_nil, atA, .of_eq hg⟩
  refine codeAny_mono ((F _ k0 (ns0 hns)).run callerA [] s H ⟨[.ref a], []⟩ [.ref a] [.ref a] _ rfl hr en (bind s (.ref a)) (.cons rfl .nil) (want H seq)) fun r s2 z => ?_
  cases r with
  | error e => exact (show False from z).elim
  | ok fl =>
    cases fl with
    | next => exact (show False from z).elim
    | brk => exact (show False from z).elim
    | cont => exact (show False from z).elim
    | ret u =>
      obtain ⟨v, H2, os, bare, un, ok2, rv, q⟩ := z
      subst q
      cases (show u = Value.bool true from rv)
      refine ⟨rfl, OldK.of_keep fun b o e => ?_, os, bare⟩
      cases q : H b with
      | none => exact un.keep b o e q (fun z => absurd (show b ∈ ([] : List Addr) from z) List.not_mem_nil) List.not_mem_nil
      | some u =>
        obtain ⟨rfl, rfl⟩ := told b u q
        rw [ha] at e
        cases e
        exact (ok2 _ _ (un.frzs _ _ _ q)).1
theorem walk_q {l : PySem.W.OpenLaw} {n k : Nat} {q : Program} {loose : List Str} {XP : (Str → Option Value) → Heap → Prop} {YP : World → Heap → Prop} {d : DefRec} {K : Params → PySem.W.Frag} {sp : PySem.W.Frag → Sp} {x : Str}
    (hn : l.most = some n) (hn2 : n ≤ sizeLine) (hdf : d.params.defaults = []) (hr : Room k callerA) (hY : ∀ (w : World) (h : Heap), YP w h → (K w.params).In h)
    (F : ∀ (w : World) (mg : Str → Option Value) (fa : Addr) (h : Heap), (K w.params).In h → h.Ns mainGlobals mg → mg d.name = some (.ref fa) →
      ∃ fd : FuncData, (∀ (s : Shared) (u : Value), BindsTo s fd ⟨[u], []⟩ [(x, u)]) ∧ ∀ base : Heap, (K w.params).In base → base.Ns mainGlobals mg → FnQ l.prog w (K w.params) mg base k fa fd [x] (sp (K w.params)))
    (want : ∀ (K : PySem.W.Frag) (H : Hp) (a : Addr) (ns : List Int), ns.length ≤ n → SqL K H a (ns.map V.int) → sp K [.ref a] H (fun v _ => v = .bl true) E0) :
    PySem.W.WalkO q loose XP YP l.row.toRowW d [] (fun f vs => PySem.call f vs) := by
  refine Att.attach_call hn hdf fun w s0 s1 mg mb fa o pm cd doc a vs ns G Y ho hd hcd hmg obj isI len gens => ?_
  obtain ⟨fd, bd, FQ⟩ := F w mg fa _ (hY w _ Y) G.T.g hmg
  exact law_q (hY w _ Y) G.T.g G.T.b G.T.builtins G.T.nolimit gens obj isI (Nat.le_trans len hn2) hr FQ bd fun H seq => want _ H a ns len seq
end
end Tz
namespace Tz
open PySem PySem.Spec PyProof.Rows L2
/-! a law with lambdas: tables of code objects, empty at the start; no repr is under way -/
abbrev noCode : Obj := { cls := .none, data := .fields #[] }
section
variable {P : Program} {w : World} {K : PySem.W.Frag} {mg mb : Str → Option Value} {k : Nat} {fa a : Addr} {fd : FuncData} {x : Str} {sp : Sp} {s : Shared} {vs : List Value} {ns : List Int} {cs : List (Addr × Addr)}
theorem law_qt (KX : K.In s.heap) (top : s.heap.Ns mainGlobals mg) (bl : s.heap.Ns builtinsNs mb) (boot : ∀ y : Str, y ≠ "__name__" → mb y = bootBuiltins y) (lim : s.heap.NoLimit) (gens : s.gens = #[])
    (empty : ∀ p ∈ cs, s.heap.get? p.2 = some noCode) (outside : ∀ p ∈ cs, K.lookup p.2 = none) (heads : ∀ p ∈ cs, PySem.W.CodeHd s.heap p.1 p.2)
    (bmod : ∃ (m : Addr) (o : Obj), mg "__builtins__" = some (.ref m) ∧ m ≠ builtinsNs ∧ s.heap.get? m = some o ∧ o.cls = .type "module" ∧ o.dict = some builtinsNs ∧ o.data = .plain)
    (script : s.heap.get? a = some { cls := .type "list", data := .seq vs.toArray }) (isI : IntsAre vs ns) (len : ns.length ≤ sizeLine) (rm : Room k callerA)
    (F : ∀ base : Heap, K.In base → base.Ns mainGlobals mg → (∀ p ∈ cs, LamX.TabB base mg p.1 p.2) → FnQ P w K mg base k fa fd [x] sp) (bind : ∀ (s : Shared) (u : Value), BindsTo s fd ⟨[u], []⟩ [(x, u)])
    (want : ∀ H : Hp, (∀ p ∈ cs, H p.2 = some (.tbl #[])) → SqL K H a (ns.map V.int) → sp [.ref a] H (fun v _ => v = .bl true) E0) :
    codeAny (model P w) callerA (.call (.ref fa) ⟨[.ref a], []⟩) (fun r s' => r = .ok (.ret (.bool true)) ∧ OldK s.heap s'.heap ∧ s'.os = s.os ∧ AllBare s'.gens) s := by
  have tabAt : ∀ b : Addr, b ∈ cs.map (·.2) → s.heap.get? b = some noCode := fun b hb => by
    obtain ⟨p, hp, rfl⟩ := List.mem_map.mp hb
    exact empty p hp
  have notTab : a ∉ cs.map (·.2) := fun z => by
    have q := tabAt a z
    rw [script] at q
    have d := congrArg Obj.data (Option.some.inj q)
    cases d
  have isTab : ∀ p ∈ cs, p.2 ∈ cs.map (·.2) := fun p hp => List.mem_map.mpr ⟨p, hp, rfl⟩
  -- what is told: the tables; the script where the module does not hold it
  obtain ⟨H, tabs, told, seq, fits, apart⟩ : ∃ H : Hp, (∀ p ∈ cs, H p.2 = some (.tbl #[])) ∧ (∀ b u, H b = some u → (b = a ∧ u = .frz { cls := .type "list", data := .seq vs.toArray } (.lst (ns.map V.int))) ∨ (b ∈ cs.map (·.2) ∧ u = .tbl #[])) ∧
      SqL K H a (ns.map V.int) ∧ HOk P w H s.heap ∧ (H a ≠ none → K.lookup a = none) := by
    have h0 : ∃ H0 : Hp, (∀ b, b ∈ cs.map (·.2) → H0 b = some (.tbl #[])) ∧ ∀ b, b ∉ cs.map (·.2) → H0 b = none := ⟨fun b => if b ∈ cs.map (·.2) then some (.tbl #[]) else none, fun b hb => if_pos hb, fun b hb => if_neg hb⟩
    obtain ⟨H0, yes, no⟩ := h0
    have only : ∀ b u, H0 b = some u → b ∈ cs.map (·.2) ∧ u = .tbl #[] := fun b u z => by
      by_cases hb : b ∈ cs.map (·.2)
      · rw [yes b hb] at z
        exact ⟨hb, (Option.some.inj z).symm⟩
      · rw [no b hb] at z
        cases z
    have fit0 : HOk P w H0 s.heap := fun b u z => by
      obtain ⟨hb, rfl⟩ := only b u z
      exact tabAt b hb
    cases lk : K.lookup a with
    | some o =>
      have q := KX a o lk
      rw [script] at q
      cases q
      refine ⟨H0, fun p hp => yes _ (isTab p hp), fun b u z => .inr (only b u z), .inr ⟨_, vs.toArray, _, lk, rfl, rfl, rfl, by rw [List.size_toArray, isI.length]; exact len, by simpa using vals_ints isI⟩, fit0, fun z => absurd (no a notTab) z⟩
    | none =>
      have old : ∀ {b : Addr}, b ∈ cs.map (·.2) → b ≠ a := fun {b} hb q => notTab (q ▸ hb)
      refine ⟨upd H0 a (.frz { cls := .type "list", data := .seq vs.toArray } (.lst (ns.map V.int))), fun p hp => by rw [upd_ne (old (isTab p hp))]; exact yes _ (isTab p hp), fun b u z => ?_, .inl (.inr ⟨_, upd_same⟩), fun b u z => ?_, fun _ => rfl⟩
      · by_cases q : b = a
        · subst q
          rw [upd_same] at z
          exact .inl ⟨rfl, (Option.some.inj z).symm⟩
        · rw [upd_ne q] at z
          exact .inr (only b u z)
      · by_cases q : b = a
        · subst q
          rw [upd_same] at z
          cases z
          exact ⟨script, by rw [List.length_map]; exact len, vs, _, vals_ints isI, script⟩
        · rw [upd_ne q] at z
          obtain ⟨hb, rfl⟩ := only b u z
          exact tabAt b hb
  -- other things are not told
  have free : ∀ {b : Addr} {o : Obj}, s.heap.get? b = some o → (∀ us n, o.data ≠ .seq us n) → o.data ≠ .fields #[] → H b = none := fun {b o} e h1 h2 => by
    cases q : H b with
    | none => rfl
    | some u =>
      rcases told b u q with ⟨rfl, _⟩ | ⟨hb, _⟩
      · rw [script] at e
        cases e
        exact absurd rfl (h1 _ _)
      · rw [tabAt b hb] at e
        cases e
        exact absurd rfl h2
  have freeD : ∀ {b : Addr} {o : Obj} {es : Array DictEntry} {ep : Nat}, s.heap.get? b = some o → o.data = .dict es ep → H b = none := fun {b o es ep} e d => free e (fun us n z => by rw [d] at z; cases z) fun z => by rw [d] at z; cases z
  have ns0 : ∀ {b : Addr} {m : Str → Option Value}, s.heap.Ns b m → (hidT s.heap H).Ns b m := fun {b m} ⟨o, es, ep, e, d, r⟩ => ⟨o, es, ep, hidT_get e (freeD e d), d, r⟩
  have k0 : K.In (hidT s.heap H) := fun b o e => hidT_get (KX b o e) (by
    cases q : H b with
    | none => rfl
    | some u =>
      rcases told b u q with ⟨rfl, _⟩ | ⟨hb, _⟩
      · have n := apart (by rw [q]; exact fun z => nomatch z)
        rw [e] at n
        cases n
      · obtain ⟨p, hp, rfl⟩ := List.mem_map.mp hb
        rw [outside p hp] at e
        cases e)
  have md : Mod K mg (hidT s.heap H) := ⟨k0, ns0 top, ⟨mb, ns0 bl, boot⟩, lim.elim fun mc z => ⟨mc, ns0 z.1, z.2⟩⟩
  have TB : ∀ p ∈ cs, LamX.TabB (hidT s.heap H) mg p.1 p.2 := fun p hp => by
    have ep := empty p hp
    obtain ⟨og, es, pos, eg, dg, _⟩ := id top
    refine ⟨?_, ?_, fun z => ?_⟩
    · obtain ⟨o, us, q1, q2, q3, q4, q5, q6, q7, e1, e2, e3, e4, rest⟩ := heads p hp
      refine ⟨o, us, q1, q2, q3, q4, q5, q6, q7, hidT_get e1 (free e1 (fun vs n z => ?_) fun z => ?_), e2, e3, e4, rest⟩
      · rw [e3] at z
        cases z
      · rw [e3] at z
        cases z
        simp at e4
    · obtain ⟨m, o, b1, b2, b3, b4, b5, b6⟩ := bmod
      refine ⟨m, o, b1, b2, fun q => ?_, fun q => ?_, hidT_get b3 (free b3 (fun us n z => ?_) fun z => ?_), b4, b5, b6⟩
      · rw [q, eg] at b3
        cases b3
        rw [dg] at b6
        cases b6
      · rw [q, ep] at b3
        cases b3
        cases b6
      · rw [b6] at z
        cases z
      · rw [b6] at z
        cases z
    · rw [z, ep] at eg
      cases eg
      cases dg
  have en : Env0 P w K mg (hidT s.heap H) callerA [] s H := ⟨rfl, md, fun _ _ e => of_hidT e, Nat.le_of_eq (hidT_size _ _), trivial, fun b z => absurd (show b ∈ ([] : List Addr) from z) List.not_mem_nil, fits, .of_eq gens⟩
  refine codeAny_mono ((F _ k0 (ns0 top) TB).run callerA [] s H ⟨[.ref a], []⟩ [.ref a] [.ref a] _ rfl rm en (bind s (.ref a)) (.cons rfl .nil) (want H tabs seq)) fun r s2 z => ?_
  cases r with
  | error e => exact (show False from z).elim
  | ok fl =>
    cases fl with
    | next => exact (show False from z).elim
    | brk => exact (show False from z).elim
    | cont => exact (show False from z).elim
    | ret u =>
      obtain ⟨v, H2, os, bare, un, ok2, rv, q⟩ := z
      subst q
      cases (show u = Value.bool true from rv)
      have grows : ∀ b, b ∈ cs.map (·.2) → ∃ (p : Addr × Addr) (more : Array Value), p ∈ cs ∧ p.2 = b ∧ s2.heap.get? b = some { cls := .none, data := .fields more } := fun b hb => by
        obtain ⟨p, hp, rfl⟩ := List.mem_map.mp hb
        obtain ⟨more, z⟩ := un.tbls p.2 #[] (tabs p hp)
        exact ⟨p, _, hp, rfl, ok2 p.2 _ z⟩
      have stays : ∀ b o, b ∉ cs.map (·.2) → s.heap.get? b = some o → s2.heap.get? b = some o := fun b o nb e => by
        cases q : H b with
        | none => exact un.keep b o e q (fun z => absurd (show b ∈ ([] : List Addr) from z) List.not_mem_nil) List.not_mem_nil
        | some u =>
          rcases told b u q with ⟨rfl, rfl⟩ | ⟨hb, _⟩
          · rw [script] at e
            cases e
            exact (ok2 _ _ (un.frzs _ _ _ q)).1
          · exact absurd hb nb
      refine ⟨rfl, ⟨fun b o e => ?_, fun b o e => ?_⟩, os, bare⟩
      · by_cases hb : b ∈ cs.map (·.2)
        · obtain ⟨p, more, hp, rfl, hm⟩ := grows b hb
          rw [empty p hp] at e
          cases e
          exact .inr (.inl ⟨((heads p hp).tab (empty p hp)).isCodeTable, rfl, #[], more, rfl, by rw [Array.empty_append]; exact hm⟩)
        · exact .inl (stays b o hb e)
      · by_cases hb : b ∈ cs.map (·.2)
        · obtain ⟨p, more, hp, rfl, hm⟩ := grows b hb
          exact ⟨_, hm⟩
        · exact ⟨o, stays b o hb e⟩
/-- what the head tells of the law -/
def LawQ (l : PySem.W.OpenLaw) (w : World) (K : PySem.W.Frag) (k n : Nat) (x : Str) (mg : Str → Option Value) (fa : Addr) (h : Heap) : Prop :=
  ∃ (fd : FuncData) (cs : List (Addr × Addr)) (sp : Sp), (∀ p ∈ cs, h.get? p.2 = some noCode) ∧ (∀ p ∈ cs, K.lookup p.2 = none) ∧ (∀ p ∈ cs, PySem.W.CodeHd h p.1 p.2) ∧ (∀ (s : Shared) (u : Value), BindsTo s fd ⟨[u], []⟩ [(x, u)]) ∧
    (∀ (H : Hp) (a : Addr) (ns : List Int), ns.length ≤ n → (∀ p ∈ cs, H p.2 = some (.tbl #[])) → SqL K H a (ns.map V.int) → sp [.ref a] H (fun v _ => v = .bl true) E0) ∧
    ∀ base : Heap, K.In base → base.Ns mainGlobals mg → (∀ p ∈ cs, LamX.TabB base mg p.1 p.2) → FnQ l.prog w K mg base k fa fd [x] sp
theorem walk_qt {l : PySem.W.OpenLaw} {n k : Nat} {q : Program} {loose : List Str} {XP : (Str → Option Value) → Heap → Prop} {YP : World → Heap → Prop} {d : DefRec} {x : Str}
    (most : l.most = some n) (small : n ≤ sizeLine) (nodf : d.params.defaults = []) (rm : Room k callerA)
    (F : ∀ (w : World) (mg : Str → Option Value) (fa : Addr) (h : Heap), YP w h → h.Ns mainGlobals mg → mg d.name = some (.ref fa) → ∃ K : PySem.W.Frag, K.In h ∧ LawQ l w K k n x mg fa h) :
    PySem.W.WalkO q loose XP YP l.row.toRowW d [] (fun f vs => PySem.call f vs) := by
  refine Att.attach_callB most nodf fun w s0 s1 mg mb fa o pm cd doc a vs ns G Y _ _ _ hmg script isI few _ gens => ?_
  obtain ⟨K, KX, fd, cs, sp, e1, e2, e3, bd, want, FQ⟩ := F w mg fa _ Y G.T.g hmg
  exact law_qt KX G.T.g G.T.b G.T.builtins G.T.nolimit gens e1 e2 e3 G.T.bmain script isI (Nat.le_trans few small) rm FQ bd fun H tb seq => want H a ns few tb seq
end
theorem fnq_one {P : Program} {w : World} {K : PySem.W.Frag} {mg : Str → Option Value} {base : Heap} {k : Nat} {f : Addr} {ps N : List Str} {sp : Sp} {x qual : Str} {st : Stmt} {oc kV doc pm cdv ct : Value} {od an : Option Addr} {osl : Array (Option Value)}
    (lk : K.lookup f = some ⟨oc, od, .func (PySem.W.fnOf x qual (defArgs st) (defBody st) (defScope st) .none kV doc pm an cdv ct), osl⟩) (code : PySem.W.codeIn K cdv qual = true) (S : FnScope N ps (defScope st)) (len : ∀ vs H Q E, sp vs H Q E → vs.length = ps.length)
    (body : ∀ (A : Around) (out : List Env) (s : Shared) (H : Hp) (vs : List V) (Q : VK), A.guards = some [] → Room k (A.deeper (envOfC qual (defScope st) s.heap.objs.size f cdv)) → sp vs H Q E0 →
      ∃ t, PSs (cxOf CX0 P w K mg base N qual (defScope st) f cdv A out s H E0).nox (defBody st) t ∧ t { nx := fun _ J => Q .non J, rt := Q } (start N vs) H) : FnQ P w K mg base (k + 1) f (PySem.W.fnOf x qual (defArgs st) (defBody st) (defScope st) .none kV doc pm an cdv ct) ps sp := by
  refine ⟨len, fun A out s H args us vs Q gd rm en bn rel want => ?_⟩
  have width := len _ _ _ _ want
  have inK : K.In s.heap := en.mod.kin.keeps fun b o q => (en.bs b o q).1
  have free : s.heap.NoLimit := en.mod.nolimit.keeps fun b o q => (en.bs b o q).1
  refine codeAny_call_function rm.depth (inK _ _ lk) rfl S.co S.gen rfl (PySem.W.codeRec_of inK code) (bn _ _ _ _ ?_)
  refine wpAny_newFunctionEnv_cells S.kind (fun ⟨n, v⟩ hy => (S.par n (List.of_mem_zip hy).1).elim .inl fun q => .inr ⟨q, PySem.W.cellsFrom_some _ _ _ (.inl q)⟩) fun env he s1 x => ?_
  subst he
  obtain ⟨t, ht, q⟩ := body A out s H vs Q gd (rm.deeper _) want
  have J := inv_start (CX := CX0) (E := E0) S rm.hd en width rel x
  refine ⟨free.keeps x.toInCall.keep, codeAny_func (wpAny_mono (ht.nox.run [] s1 (start N vs) H _ J q) (fun fl s2 z => ?_) fun e s2 z => z)⟩
  have done : ∀ {σ : L2.St} {H2 : Hp} {v : V} {u : Value}, L2.Inv (cxOf CX0 P w K mg base N qual (defScope st) f cdv A out s H E0) [] σ H2 s2 → RelV v u → Q v H2 → CE out P w H s Q u s2 :=
    fun {σ H2 v u} I2 rv hv => ⟨v, H2, I2.os, I2.bare, I2.base, I2.hok, rv, hv⟩
  cases fl with
  | ret u =>
    obtain ⟨v, σ, H2, I2, rv, hv⟩ := z
    exact done I2 rv hv
  | next =>
    obtain ⟨σ, H2, I2, hv⟩ := z
    exact done (v := .non) I2 rfl hv
  | brk =>
    obtain ⟨_, _, _, no⟩ := z
    exact no.elim
  | cont =>
    obtain ⟨_, _, _, no⟩ := z
    exact no.elim
/-- a def by its body, nothing under way, its code object known -/
theorem fnqC {P : Program} {w : World} {K : PySem.W.Frag} {mg : Str → Option Value} {base : Heap} {k : Nat} {f c : Addr} {fd : FuncData} {ps N : List Str} {sp : Sp} {x qual : Str} {st : Stmt} (F : Fun K x qual st f fd) (S : FnScope N ps (defScope st))
    (code : ∀ (fd' : FuncData) (oc : Value) (od : Option Addr) (osl : Array (Option Value)), K.lookup f = some ⟨oc, od, .func fd', osl⟩ → PySem.W.codeIn K fd'.code qual = true → fd'.code = .ref c) (len : ∀ vs H Q E, sp vs H Q E → vs.length = ps.length)
    (body : ∀ (A : Around) (out : List Env) (s : Shared) (H : Hp) (vs : List V) (Q : VK), A.guards = some [] → Room k (A.deeper (envOfC qual (defScope st) s.heap.objs.size f (.ref c))) → sp vs H Q E0 →
      ∃ t, PSs (cxOf CX0 P w K mg base N qual (defScope st) f (.ref c) A out s H E0).nox (defBody st) t ∧ t { nx := fun _ J => Q .non J, rt := Q } (start N vs) H) : FnQ P w K mg base (k + 1) f fd ps sp := by
  obtain ⟨oc, od, kV, doc, pm, an, cdv, ct, osl, rfl, lk, ci⟩ := F.ex
  have ec : cdv = .ref c := code _ _ _ _ lk ci
  subst ec
  exact fnq_one lk ci S len body
end Tz
namespace TzTry
open PySem PySem.Spec PyProof.Rows L2
/-! several clauses, each with its name; nothing passes by all of them -/
/-- so many slots there are -/
def atN (X : Cx) (W : WX) : WX := fun k d z J => z.length = X.N.length → W k d z J
/-- behind a clause its name is unbound -/
def gone (i : Nat) (D : Ends) : Ends := ⟨fun z J => D.nx (z.set i none) J, D.rt, fun z J => D.bk (z.set i none) J, fun z J => D.ct (z.set i none) J⟩
abbrev Clause := Value × Nat × (Addr → Value → Option Addr → TS)
def wAll (K : PySem.W.Frag) (D : Ends) : List Clause → WX
  | [] => fun _ _ _ _ => False
  | (c, i, ts) :: l => fun k d z J => ∃ b, PySem.W.exmOne K k c = some b ∧ (b = true → ∀ a, J a = none → ts a k d (gone i D) (z.set i (some (.ref a))) J) ∧ (b = false → wAll K D l k d z J)
inductive Clauses (X : Cx) : List ExceptHandler → List Clause → Prop
  | nil : Clauses X [] []
  | cons {x n : Str} {i : Nat} {c : Value} {ts : Addr → Value → Option Addr → TS} {st : Stmt} {sts : List Stmt} {p1 p2 : Pos} {es : List ExceptHandler} {l : List Clause} (known : Names X x c) (slot : X.N[i]? = some n) (loc : X.env.kindOf n = some .local)
      (suite : ∀ (a : Addr) (o : Obj) (k : Value) (d : Option Addr) (ps : List (Addr × Obj)), Zc k d o → (∃ us, o.data = .fields us) → PSs (X.suite a ((a, o) :: ps)) (st :: sts) (ts a k d)) (more : Clauses X es l) :
      Clauses X (.ExceptHandler (some (.Name x p1)) (some n) (st :: sts) p2 :: es) ((c, i, ts) :: l)
section
variable {X : Cx} {body : List Stmt} {e1 : ExceptHandler} {es : List ExceptHandler} {l : List Clause} {pos : Pos} {tb : WX → TS}
theorem ps_try_all (top : X.stack = X.env :: X.outer) (fr : X.env.frame = some X.env.locals) (nd : X.N.Nodup)
    (tries : ∀ (W : WX) (ps : List (Addr × Obj)) (out : Value → Shared → Prop), Takes (X.tr ps out) W → PassesOwn (model X.prog X.w) X.A X.env out → PSs (X.tr ps out) body (tb W))
    (cl : Clauses X (e1 :: es) l) : PS X (.Try body (e1 :: es) [] [] pos) (fun D z J => tb (atN X (wAll X.K D l)) D z J) := by
  refine ⟨fun pins s z J D I0 want => ?_⟩
  have fine := I0.ok
  have frames : X.A.frames = some (X.env :: X.outer) := by rw [fine.frames, top]
  refine wpAny_Try_except ?_
  have inner := (tries (atN X (wAll X.K D l)) (X.pn ++ pins) (fun u s1 => wpAny (model X.prog X.w) X.A (noteFrame u X.env) (fun _ s2 => wpAny (model X.prog X.w) X.A (setFlight u none) (fun _ s3 => wpAny (model X.prog X.w) X.A (handleBy u X.env (e1 :: es)) (SP X pins D) X.xe s3) X.xe s2) X.xe s1) (fun u s2 caught => ?_) PassesOwn.looking).run [] s z J D (I0.toTry _) want
  · refine wpAny_mono inner (fun fl s1 ends => ?_) fun u s1 q => q
    cases fl with
    | next =>
      obtain ⟨z1, J1, I1, q⟩ := ends
      exact wpAny_execs_nil ⟨z1, J1, I1.ofTry fine, q⟩
    | brk =>
      obtain ⟨z1, J1, I1, q⟩ := ends
      exact ⟨z1, J1, I1.ofTry fine, q⟩
    | cont =>
      obtain ⟨z1, J1, I1, q⟩ := ends
      exact ⟨z1, J1, I1.ofTry fine, q⟩
    | ret v =>
      obtain ⟨y, z1, J1, I1, r, q⟩ := ends
      exact ⟨y, z1, J1, I1.ofTry fine, r, q⟩
  · obtain ⟨a, B, sb, pins1, z1, J1, k, d, rfl, Ib, nb, upto, sky, na, os, bare, w⟩ := caught
    have I1 : L2.Inv X pins z1 J1 sb := Ib.ofTry fine
    rw [top] at sky
    show wpAny (model X.prog X.w) X.A (noteFrame (.ref a) X.env) _ _ _
    refine Sky.land Zc.steady frames fr sky fun h3 fl3 up3 => ?_
    have I3 : L2.Inv X pins z1 J1 { s2 with heap := h3 } := I1.landed nb fl3.1 (upto.trans up3) os bare
    obtain ⟨o3, us3, at3, zc3, dt3⟩ := fl3.there
    have apart : a ∉ frs (X.env :: X.outer) := fun hm => by
      obtain ⟨_, o', e', nf⟩ := fl3.2.2.1.mem hm
      rw [at3] at e'
      cases e'
      exact nf _ dt3
    have aL : a ≠ X.env.locals := fun q => apart (List.mem_filterMap.mpr ⟨X.env, List.mem_cons_self, by rw [fr, q]⟩)
    have aF : a ∉ X.fs := fun hm => by
      obtain ⟨e, he, q⟩ := List.mem_filterMap.mp hm
      exact apart (List.mem_filterMap.mpr ⟨e, List.mem_cons_of_mem _ he, q⟩)
    have S3 := I3.suite at3 dt3 na aL aF
    have each : ∀ {hs : List ExceptHandler} {m : List Clause}, Clauses X hs m → wAll X.K D m k d z1 J1 → wpAny (model X.prog X.w) X.A (handleBy (.ref a) X.env hs) (SP X pins D) X.xe { s2 with heap := h3 } := by
      intro hs m some_
      induction some_ with
      | nil => exact fun w => w.elim
      | @cons x n i c ts st sts p1 p2 hs2 m2 known slot loc suite more ih =>
        intro w
        obtain ⟨b, is, yes, no⟩ := w
        refine wpAny_handleBy_cons (codeAny_handlers_test ?_) (by intro q; cases q)
        have T1 : PySem.W.Looks (model X.prog X.w) h3 (typeOf (.ref a)) k := fun A Q E s4 keeps q => wpAny_typeOf_ref (keeps _ _ at3) (by rw [zc3.1]; exact q)
        have T2 := PySem.W.exm_one (M := model X.prog X.w) I3.kIn T1 is
        have named : ∀ {Q : Value → Shared → Prop} {E : Value → Shared → Prop}, Q c { s2 with heap := h3 } → wpAny (model X.prog X.w) (X.A.mark (some (.ref a))) (eval (.Name x p1) X.env) Q E { s2 with heap := h3 } := fun {Q E} q => by
          obtain ⟨g, dbg, hm | ⟨hm, hv, hn⟩⟩ := known
          · exact ld_glob (X := X.suite a ((a, o3) :: (X.pn ++ pins))) S3 g hm q dbg
          · exact ld_blt (X := X.suite a ((a, o3) :: (X.pn ++ pins))) S3 g hm hv q hn dbg
        refine named (T2.here ?_)
        cases b with
        | false =>
          show wpAny _ X.A (handleBy (.ref a) X.env hs2) _ _ _
          exact ih (no rfl)
        | true =>
          refine codeAny_handlers_suite_as ?_
          refine HandSPX.lands_againZ fl3 fun h4 fl4 up4 => ?_
          have I4 : L2.Inv X pins z1 J1 { s2 with heap := h4 } := I1.landed nb fl4.1 ((upto.trans up3).trans up4) os bare
          obtain ⟨o4, us4, at4, zc4, dt4⟩ := fl4.there
          have S4 := I4.suite at4 dt4 na aL aF
          refine store_ok (X := X.suite a ((a, o4) :: (X.pn ++ pins))) (v := .ref a) S4 nd slot (.inl loc) rfl (fun s5 S5 => ?_) (.inr loc)
          refine wpAny_mono ((suite a o4 k d (X.pn ++ pins) zc4 ⟨_, dt4⟩).run [] s5 _ J1 _ S5 (yes rfl a na)) (fun fl s6 ends => ?_) fun _ _ q => False.elim q
          have unbind : ∀ {z6 : L2.St} {J6 : Hp} {R : Shared → Prop}, L2.Inv (X.suite a ((a, o4) :: (X.pn ++ pins))) [] z6 J6 s6 → (∀ s7, L2.Inv X pins (z6.set i none) J6 s7 → R s7) →
              wpAny (model X.prog X.w) X.A (do bindName X.env n .none; unbindBehindTheSuite X.env n p2) (fun _ s7 => R s7) X.xe s6 := fun {z6 J6 R} S6 q => gone_ok (S6.unsuite fine) nd slot loc q
          cases fl with
          | next =>
            obtain ⟨z6, J6, S6, q⟩ := ends
            exact unbind S6 fun s7 I7 => ⟨_, _, I7, q⟩
          | brk =>
            obtain ⟨z6, J6, S6, q⟩ := ends
            exact unbind S6 fun s7 I7 => ⟨_, _, I7, q⟩
          | cont =>
            obtain ⟨z6, J6, S6, q⟩ := ends
            exact unbind S6 fun s7 I7 => ⟨_, _, I7, q⟩
          | ret v =>
            obtain ⟨y, z6, J6, S6, r, q⟩ := ends
            exact unbind S6 fun s7 I7 => ⟨_, _, _, I7, r, q⟩
    exact each cl (w I1.len)
end
end TzTry
namespace TzF
open PySem PySem.Spec PyProof.Rows L2
/-! what a Bool tells of the written part -/
theorem two {a b : Bool} (h : (a && b) = true) : a = true ∧ b = true := Bool.and_eq_true_iff.mp h
def seven : List String := ["NoneType", "bool", "int", "str", "list", "tuple", "dict"]
/-- an own class, no sub-class of a built-in type, nor the other way round -/
structure Alone (K : PySem.W.Frag) (C : Addr) : Prop where
  ic : PySem.W.isClsIn K C = true
  ty : PySem.W.typeIn K (.ref C) = some (.type "type")
  to : ∀ T ∈ seven, PySem.W.subIn K (.type T) (.ref C) = some false
  of_ : ∀ T ∈ seven, PySem.W.subIn K (.ref C) (.type T) = some false
  ha : PySem.W.findIn K (.ref C) "__class__" = some (some (.builtin "object.__class__"))
  hn : PySem.W.specialIn K (.builtin "object.__class__") "__get__" = some (some (.builtin "getset_descriptor.__get__"))
  ht : PySem.W.takesIn K (.builtin "object.__class__") = some true
  hm : PySem.W.mroIn K C (.type "object") = some true
  sf : PySem.W.selfFirst K C = true
def eqV (a b : Option (Option Value)) : Bool := decide (a = b)
def aloneB (K : PySem.W.Frag) (C : Addr) : Bool := PySem.W.isClsIn K C && (decide (PySem.W.typeIn K (.ref C) = some (.type "type")) && seven.all fun T => decide (PySem.W.subIn K (.type T) (.ref C) = some false) && decide (PySem.W.subIn K (.ref C) (.type T) = some false)) && (eqV (PySem.W.findIn K (.ref C) "__class__") (some (some (.builtin "object.__class__"))) && (eqV (PySem.W.specialIn K (.builtin "object.__class__") "__get__") (some (some (.builtin "getset_descriptor.__get__"))) &&
  (decide (PySem.W.takesIn K (.builtin "object.__class__") = some true) && (decide (PySem.W.mroIn K C (.type "object") = some true) && PySem.W.selfFirst K C))))
theorem alone_ok {K : PySem.W.Frag} {C : Addr} (h : aloneB K C = true) : Alone K C := by
  obtain ⟨h, g⟩ := two h
  obtain ⟨h1, h⟩ := two h
  obtain ⟨h2, h3⟩ := two h
  obtain ⟨g1, g⟩ := two g
  obtain ⟨g2, g⟩ := two g
  obtain ⟨g3, g⟩ := two g
  obtain ⟨g4, g5⟩ := two g
  exact ⟨h1, of_decide_eq_true h2, fun T hT => of_decide_eq_true (two (List.all_eq_true.mp h3 T hT)).1, fun T hT => of_decide_eq_true (two (List.all_eq_true.mp h3 T hT)).2, of_decide_eq_true g1, of_decide_eq_true g2, of_decide_eq_true g3, of_decide_eq_true g4, g5⟩
/-- an error class of the program -/
def errO (C : Addr) : Obj → Bool
  | ⟨.type t, _, .cls cd, sl⟩ => decide (t = "type") && (cd.hasDict && (!cd.hasDel && ((match cd.mro with
    | .ref D :: bm => decide (D = C) && PySem.HandSPX.refsVE bm
    | _ => false) && (match sl.toList with
    | [_, _, _, _, some (.builtin n), _] => decide (n = "ValueError.__new__")
    | _ => false))))
  | _ => false
theorem errO_ok {C : Addr} {o : Obj} (h : errO C o = true) : ∃ nm q N bs bm sn sub ab col dd k0 k1 k2 k3 k5, o = excClassObj nm q C N bs bm true sn sub ab col dd k0 k1 k2 k3 k5 "ValueError.__new__" ∧ PySem.HandSPX.refsVE bm = true := by
  obtain ⟨oc, od, dt, sl⟩ := o
  cases oc with
  | type t =>
    cases dt with
    | cls cd =>
      obtain ⟨nm, bs, mro, ns, qn, hd, sn, sub, ab, col, dl⟩ := cd
      obtain ⟨h1, h⟩ := two h
      obtain ⟨h2, h⟩ := two h
      obtain ⟨h3, h⟩ := two h
      obtain ⟨h4, h5⟩ := two h
      have e1 : t = "type" := of_decide_eq_true h1
      have e2 : hd = true := h2
      have e3 : dl = false := by
        have z : (!dl) = true := h3
        cases dl with
        | false => rfl
        | true => cases z
      subst e1 e2 e3
      cases mro with
      | nil => cases h4
      | cons m bm =>
        cases m with
        | ref D =>
          obtain ⟨h6, h7⟩ := two (show (decide (D = C) && PySem.HandSPX.refsVE bm) = true from h4)
          have e4 : D = C := of_decide_eq_true h6
          subst e4
          obtain ⟨l⟩ := sl
          clear h h1 h2 h3 h4 h6
          simp only at h5
          split at h5
          · rename_i k0 k1 k2 k3 n k5 _ _
            have e5 : n = "ValueError.__new__" := of_decide_eq_true h5
            subst e5
            exact ⟨nm, qn, ns, bs, bm, sn, sub, ab, col, od, k0, k1, k2, k3, k5, rfl, h7⟩
          · cases h5
        | _ => cases h4
    | _ => cases h
  | _ => cases dt <;> cases h
/-- what is wanted of an error class: it can be made and raised, its fields can be read -/
structure Err (K : PySem.W.Frag) (C : Addr) : Prop where
  made : OexC K C
  read : XfC K C
def errB (K : PySem.W.Frag) (C : Addr) : Bool := (match K.lookup C with
  | some o => errO C o
  | none => false) && (xfB K C && (eqV (PySem.W.findIn K (.ref C) "__setattr__") (some (some (.builtin "object.__setattr__"))) && (decide (PySem.W.typeIn K (.ref C) = some (.type "type")) && PySem.W.keepIn K (.ref C))))
theorem err_ok {K : PySem.W.Frag} {C : Addr} (h : errB K C = true) : Err K C := by
  obtain ⟨h1, h⟩ := two h
  obtain ⟨h2, h⟩ := two h
  obtain ⟨h3, h⟩ := two h
  obtain ⟨h4, h5⟩ := two h
  have X := xfB_ok h2
  cases q : K.lookup C with
  | none =>
    rw [q] at h1
    cases h1
  | some o =>
    rw [q] at h1
    obtain ⟨nm, qn, N, bs, bm, sn, sub, ab, col, dd, k0, k1, k2, k3, k5, e, hb⟩ := errO_ok h1
    exact ⟨⟨⟨nm, qn, N, bs, bm, sn, sub, ab, col, dd, k0, k1, k2, k3, k5, by rw [q, e], hb⟩, of_decide_eq_true h3, X.exC, of_decide_eq_true h4, h5⟩, X⟩
/-- operators: the seven types' own and reflected methods are known, whatever they are -/
def knownB (K : PySem.W.Frag) (nm : Str) : Bool := seven.all fun T => (PySem.W.findIn K (.type T) nm).isSome
theorem known_ok {K : PySem.W.Frag} {nm : Str} (h : knownB K nm = true) {T : String} (hT : T ∈ seven) : ∃ fo, PySem.W.findIn K (.type T) nm = some fo := Option.isSome_iff_exists.mp (List.all_eq_true.mp h T hT)
/-! ### things of all sorts -/
inductive Tag where
  | non | bl | int | str | lst | tup | dic | own
  deriving DecidableEq
def Tag.nm : Tag → String
  | .non => "NoneType" | .bl => "bool" | .int => "int" | .str => "str" | .lst => "list" | .tup => "tuple" | .dic => "dict" | .own => ""
def Tag.ty (C : Addr) : Tag → Value
  | .own => .ref C
  | g => .type g.nm
/-- isinstance(x, T) by the tag -/
def Tag.is (T : String) : Tag → Bool
  | .own => false
  | .bl => decide (T = "bool") || decide (T = "int")
  | g => decide (g.nm = T)
theorem Tag.mem {g : Tag} (h : g ≠ .own) : g.nm ∈ seven := by
  cases g <;> first | exact absurd rfl h | decide
theorem kitB_tag {g : Tag} (h : g ≠ .own) {T : String} (hT : T ∈ seven) : kitB g.nm T = some (g.is T) := by
  have key : ∀ g : Tag, g ≠ .own → ∀ T ∈ seven, kitB g.nm T = some (g.is T) := by
    intro g h
    cases g with
    | own => exact absurd rfl h
    | _ => decide +kernel
  exact key g h T hT
theorem kit_cls {K : PySem.W.Frag} {C : Addr} (A : Alone K C) {T : String} (hT : T ∈ seven) : PySem.W.kitOne K (.type T) (.ref C) = some false := by
  have ne : ¬ (Value.type T == Value.ref C) = true := fun q => by cases beq_iff_eq.mp q
  unfold PySem.W.kitOne
  rw [if_neg ne]
  unfold PySem.W.kitCls
  have hs : (PySem.W.clsIn K C).isSome = true := A.ic
  dsimp only
  rw [A.ty, hs, A.to T hT]
  rfl
theorem kit_own {K : PySem.W.Frag} {C : Addr} (A : Alone K C) {T : String} (hT : T ∈ seven) : PySem.W.kitOne K (.ref C) (.type T) = some false := by
  have ne : ¬ (Value.ref C == Value.type T) = true := fun q => by cases beq_iff_eq.mp q
  have hm : PySem.W.kitMeta T = true := by
    have key : ∀ T ∈ seven, PySem.W.kitMeta T = true := by decide +kernel
    exact key T hT
  unfold PySem.W.kitOne
  rw [if_neg ne]
  show (if PySem.W.kitMeta T = true then PySem.W.subIn K (.ref C) (.type T) else none) = some false
  rw [if_pos hm]
  exact A.of_ T hT
theorem Tag.kit {K : PySem.W.Frag} {C : Addr} (A : Alone K C) (g : Tag) {T : String} (hT : T ∈ seven) : PySem.W.kitOne K (g.ty C) (.type T) = some (g.is T) := by
  by_cases h : g = .own
  · subst h
    exact kit_own A hT
  · have e : g.ty C = .type g.nm := by cases g <;> first | rfl | exact absurd rfl h
    rw [e]
    exact kit_ty (kitB_tag h hT)
theorem Tag.kitC {K : PySem.W.Frag} {C : Addr} (A : Alone K C) (g : Tag) : PySem.W.kitOne K (g.ty C) (.ref C) = some (decide (g = .own)) := by
  by_cases h : g = .own
  · subst h
    show PySem.W.kitOne K (.ref C) (.ref C) = _
    unfold PySem.W.kitOne
    rw [if_pos (beq_self_eq_true _)]
    rfl
  · have e : g.ty C = .type g.nm := by cases g <;> first | rfl | exact absurd rfl h
    rw [e, decide_eq_false h]
    exact kit_cls A (Tag.mem h)
/-- a number as a class value -/
def cvalB (K : PySem.W.Frag) (C : Addr) (x : Str) (n : Int) : Bool := match PySem.W.findCls K (.ref C) (.type "type") x with
  | some (.val (.int m _)) => decide (m = n)
  | _ => false
theorem cval_ok {K : PySem.W.Frag} {C : Addr} {x : Str} {n : Int} (h : cvalB K C x n = true) : ∃ t : Tok, ClX.CVal K C (.type "type") x (.int n) (.int n t) := by
  unfold cvalB at h
  split at h
  · rename_i m t e
    have e2 : m = n := of_decide_eq_true h
    subst e2
    exact ⟨t, e, ⟨_, rfl⟩⟩
  · cases h
theorem fun_of_D {K : PySem.W.Frag} {x qual : Str} {st : Stmt} {f : Addr} {fd : FuncData} (F : FunD K x qual (defArgs st) (defBody st) (defScope st) [] [] f fd) : Fun K x qual st f fd := by
  obtain ⟨oc, od, dV, kV, doc, pm, an, cdv, ct, osl, e, lk, code, df, _⟩ := F.ex
  rcases df with ⟨_, rfl⟩ | ⟨n, _⟩
  · exact ⟨⟨oc, od, kV, doc, pm, an, cdv, ct, osl, e, lk, code⟩, F.kp⟩
  · exact absurd rfl n
/-! ### static and class methods: their records, their defs -/
def recA (K : PySem.W.Frag) (p : Str × Str) : Addr := match PySem.W.findIn K (.ref (He.ga K p.1)) p.2 with
  | some (some (.ref a)) => a
  | _ => 0
def defA (K : PySem.W.Frag) (knd : String) (p : Str × Str) : Addr := match PySem.W.recIn K (recA K p) knd with
  | some (.ref g :: _) => g
  | _ => 0
def recB (K : PySem.W.Frag) (knd : String) (p : Str × Str) : Bool := (match PySem.W.findCls K (.ref (He.ga K p.1)) (.type "type") p.2 with
  | some (.get (.builtin b) (.ref r) .none (.ref C)) => decide (b = knd ++ ".__get__") && (decide (r = recA K p) && decide (C = He.ga K p.1))
  | _ => false) && ((match PySem.W.recIn K (recA K p) knd with
  | some (.ref _ :: _) => true
  | _ => false) && PySem.W.fnIn K (defA K knd p))
theorem recB_ok {K : PySem.W.Frag} {knd : String} {p : Str × Str} (h : recB K knd p = true) : PySem.W.findCls K (.ref (He.ga K p.1)) (.type "type") p.2 = some (.get (.builtin (knd ++ ".__get__")) (.ref (recA K p)) .none (.ref (He.ga K p.1))) ∧
    (∃ rest, PySem.W.recIn K (recA K p) knd = some (.ref (defA K knd p) :: rest)) ∧ PySem.W.fnIn K (defA K knd p) = true := by
  obtain ⟨h1, h⟩ := two h
  obtain ⟨h2, h3⟩ := two h
  refine ⟨?_, ?_, h3⟩
  · split at h1
    · rename_i b r C e
      obtain ⟨g1, g⟩ := two h1
      obtain ⟨g2, g3⟩ := two g
      rw [e, of_decide_eq_true g1, of_decide_eq_true g2, of_decide_eq_true g3]
    · cases h1
  · split at h2
    · rename_i g rest e
      refine ⟨rest, ?_⟩
      have eg : defA K knd p = g := by
        unfold defA
        rw [e]
      rw [eg, e]
    · cases h2
open He in
def valA (K : PySem.W.Frag) (a : Addr) : FnW := match K.lookup a with
  | some ⟨_, _, .func fd, _⟩ => some (fd.name, fd.qualname, fd.params, fd.body, fd.scope, fd.globals, fd.closure, fd.builtins)
  | _ => none
def noneB : Value → Bool
  | .none => true
  | _ => false
def okA (K : PySem.W.Frag) (a : Addr) (q : Str) : Bool := PySem.W.keepIn K (.ref a) && (match K.lookup a with
  | some ⟨_, _, .func fd, _⟩ => PySem.W.codeIn K fd.code q && noneB fd.defaults
  | _ => false)
open He in
theorem fun_at {K : PySem.W.Frag} {a : Addr} {x q : Str} {st : Stmt} (e : valA K a = some (x, q, defArgs st, .stmts (defBody st), defScope st, mainGlobals, [], builtinsNs)) (c : okA K a q = true) : ∃ fd, Fun K x q st a fd := by
  obtain ⟨kp, c2⟩ := two c
  unfold valA at e
  cases z : K.lookup a with
  | none =>
    rw [z] at c2
    cases c2
  | some o =>
    obtain ⟨oc, od, dt, osl⟩ := o
    rw [z] at c2 e
    cases dt with
    | func fd =>
      obtain ⟨n1, n2, n3, n4, n5, n6, n7, n8, n9, n10, n11, n12, n13, n14, n15⟩ := fd
      have e2 : (some (n1, n2, n3, n4, n5, n6, n7, n15) : FnW) = some (x, q, defArgs st, .stmts (defBody st), defScope st, mainGlobals, [], builtinsNs) := e
      simp only [Option.some.injEq, Prod.mk.injEq] at e2
      obtain ⟨h1, h2, h3, h4, h5, h6, h7, h8⟩ := e2
      subst h1 h2 h3 h4 h5 h6 h7 h8
      obtain ⟨k1, k2⟩ := two (show (PySem.W.codeIn K n13 n2 && noneB n8) = true from c2)
      cases n8 with
      | none => exact ⟨_, ⟨⟨oc, od, n9, n10, n11, n12, n13, n14, osl, rfl, z, k1⟩, kp⟩⟩
      | _ => cases k2
    | _ => cases c2
/-- one static or class method: its kind, its class and name, its qualified name, where its text stands -/
structure SM where
  knd : String
  at_ : Str × Str
  qual : Str
  st : Stmt
def SM.a (K : PySem.W.Frag) (d : SM) : Addr := defA K d.knd d.at_
open He in
def SM.val (d : SM) : FnW := some (d.at_.2, d.qual, defArgs d.st, .stmts (defBody d.st), defScope d.st, mainGlobals, [], builtinsNs)
def SM.ok (K : PySem.W.Frag) (d : SM) : Bool := recB K d.knd d.at_ && okA K (d.a K) d.qual
/-! ### the head, the statics of the machine beside -/
open He in
structure SaysY (fa : List Fa) (fn : List DefD) (sm : List SM) (tf : List Defn) (ex : PySem.W.Frag → Bool) (h : Heap) (K : PySem.W.Frag) : Prop where
  d : SaysD fa fn K
  v : sm.map (fun d => valA K (d.a K)) = sm.map SM.val
  k : ∀ d ∈ sm, d.ok K = true
  more : ex K = true
  hd : ∀ p ∈ tf, PySem.W.codeHdIn K (cT K p).1 (cT K p).2 = true
  out : ∀ p ∈ tf, K.lookup (cT K p).2 = none
  empty : ∀ p ∈ tf, h.get? (cT K p).2 = some { cls := .none, data := .fields #[] }
open He in
theorem SaysY.sm {fa : List Fa} {fn : List DefD} {sm : List SM} {tf : List Defn} {ex : PySem.W.Frag → Bool} {h : Heap} {K : PySem.W.Frag} (c : SaysY fa fn sm tf ex h K) (i : Nat) {d : SM} (e : sm[i]? = some d := by rfl) :
    (∃ fd, Fun K d.at_.2 d.qual d.st (d.a K) fd) ∧ recB K d.knd d.at_ = true := by
  obtain ⟨h1, h2⟩ := two (c.k d (List.mem_of_getElem? e))
  have e2 : (sm.map fun d => valA K (d.a K))[i]? = (sm.map SM.val)[i]? := by rw [c.v]
  rw [List.getElem?_map, List.getElem?_map, e] at e2
  exact ⟨fun_at (Option.some.inj e2) h2, h1⟩
open He in
def frY (n : Nat) (g : Addr → Option Obj) : PySem.W.Frag := frT g (PySem.cStatics :: asD g n)
open He in
abbrev AlY : Type := (AlD × List FnW) × Bool
open He in
def obsK (fa : List Fa) (fn : List DefD) (sm : List SM) (tf : List Defn) (ex : PySem.W.Frag → Bool) (g : Addr → Option Obj) (K : PySem.W.Frag) : AlY := ((obsD fa fn K, sm.map fun d => valA K (d.a K)), (sm.all fun d => d.ok K) && (ex K && tabsB g tf K))
open He in
def obsY (n : Nat) (fa : List Fa) (fn : List DefD) (sm : List SM) (tf : List Defn) (ex : PySem.W.Frag → Bool) (g : Addr → Option Obj) : AlY := obsK fa fn sm tf ex g (frY n g)
open He in
def valY (fn : List DefD) (sm : List SM) : AlY := ((valD fn, sm.map SM.val), true)
open He in
theorem saysY_of {n : Nat} {fa : List Fa} {fn : List DefD} {sm : List SM} {tf : List Defn} {ex : PySem.W.Frag → Bool} {h : Heap} (e : obsY n fa fn sm tf ex h.get? = valY fn sm) : SaysY fa fn sm tf ex h (frY n h.get?) := by
  have e1 : obsD fa fn (frY n h.get?) = valD fn := congrArg (fun z : AlY => z.1.1) e
  have e2 : sm.map (fun d => valA (frY n h.get?) (d.a (frY n h.get?))) = sm.map SM.val := congrArg (fun z : AlY => z.1.2) e
  obtain ⟨h0, h12⟩ := two (show ((sm.all fun d => d.ok (frY n h.get?)) && (ex (frY n h.get?) && tabsB h.get? tf (frY n h.get?))) = true from congrArg Prod.snd e)
  obtain ⟨h1, h2⟩ := two h12
  have key : ∀ p ∈ tf, PySem.W.codeHdIn (frY n h.get?) (cT (frY n h.get?) p).1 (cT (frY n h.get?) p).2 = true ∧ ∃ o, h.get? (cT (frY n h.get?) p).2 = some o ∧ emptyTab o = true := fun p hp => by
    obtain ⟨h3, h4⟩ := two (List.all_eq_true.mp h2 p hp)
    cases q : h.get? (cT (frY n h.get?) p).2 with
    | none =>
      rw [q] at h4
      cases h4
    | some o =>
      rw [q] at h4
      exact ⟨h3, o, rfl, h4⟩
  refine ⟨e1, e2, fun d hd => List.all_eq_true.mp h0 d hd, h1, fun p hp => (key p hp).1, fun p hp => ?_, fun p hp => ?_⟩
  · obtain ⟨_, o, q, z⟩ := key p hp
    exact frT_none q z
  · obtain ⟨_, o, q, z⟩ := key p hp
    rw [q, emptyTab_eq z]
open He in
def hookY (n : Nat) (fa : List Fa) (fn : List DefD) (sm : List SM) (tf : List Defn) (ex : PySem.W.Frag → Bool) : PySem.W.Hook where
  α := AlY
  obs := fun s => obsY n fa fn sm tf ex s.heap.get?
  val := fun _ => valY fn sm
  says := fun _ h => ∃ K : PySem.W.Frag, K.In h ∧ SaysY fa fn sm tf ex h K
  of := fun _ _ e => ⟨_, frT_in, saysY_of e⟩
  keeps := fun _ _ _ ⟨K, hK, c⟩ k => ⟨K, PySem.W.Frag.In.keeps hK k, ⟨c.d, c.v, c.k, c.more, c.hd, c.out, fun p hp => k _ _ (c.empty p hp)⟩⟩
open He in
theorem obsY_eq {n : Nat} {fa : List Fa} {fn : List DefD} {sm : List SM} {tf : List Defn} {ex : PySem.W.Frag → Bool} {g : Addr → Option Obj} {s : Shared} (h : ∀ a, g a = s.heap.get? a) : obsY n fa fn sm tf ex g = (hookY n fa fn sm tf ex).obs s := by
  have e : g = s.heap.get? := funext h
  rw [e] <;> rfl
end TzF
namespace TzOwn
open PySem PySem.Spec PyProof.Rows L2
section
variable {X : Cx} {CX : CXT} {k : Nat} {f C g p : Addr} {fd : FuncData} {ps ks : List Str} {sp : Sp} {E : XK} {m : Str} {o : Expr} {kws : List Keyword} {apos pos : Pos} {ta : TE} {tk : TA} {pl : Sem Bool}
/-- abs(o), o an instance with its own __abs__ -/
theorem abs_own (F : FnOk X.prog X.w X.K X.mg X.base CX k f fd ps sp) (hr : Room (k + 1) X.A) (M : Meth X.K C "__abs__" f) (hb : Binds X.K fd ps []) (hx : Passes CX X E) :
    CallR X (.builtin "abs") (fun xs H Q => ∃ a dx fs, xs = [.ref a] ∧ H a = some (.ins C dx fs) ∧ sp [.ref a] H Q E) := by
  intro pins s σ H xs us Q I r h
  obtain ⟨a, dx, fs, rfl, ha, q⟩ := h
  obtain ⟨u, rfl, ru⟩ := vals1 r
  cases ru
  obtain ⟨od, J⟩ := inst_at I ha
  refine Calls.call_function_entry PyProof.Rows.kind_abs PyProof.Rows.plain_abs PyProof.Rows.entry_abs (PyProof.Rows.args_abs _) ?_
  unfold Builtin.«abs»
  refine wpAny_bind (m := oneArg "abs" _) (wpAny_pure ?_)
  refine wpAny_bind (PySem.W.special_fn I.kIn J M.at_ (beq_iff_eq.mp M.fn) ?_)
  have en : Env0 X.prog X.w X.K X.mg X.base X.A.in1 X.stack s H := I.env0.in1
  have bd := hb s [.ref a] I.kIn (by
    have := F.len _ _ _ _ q
    simpa using this)
  rw [List.append_nil] at bd
  refine wpAny_call (codeAny_mono (F.run X.A.in1 X.stack s H ⟨[.ref a], []⟩ [.ref a] [.ref a] _ E hr.in1 en bd (.cons rfl .nil) q) fun r s' hq => ?_)
  cases r with
  | error e => exact hx pins σ H s e s' I hq
  | ok fl =>
    cases fl with
    | ret u => exact wpAny_pure ⟨_, rfl, I.after hq⟩
    | next => exact False.elim hq
    | brk => exact False.elim hq
    | cont => exact False.elim hq
/-- repr of a list or tuple of built-in data, where no repr is under way -/
theorem repr_data (hg : X.A.guards = some []) (hu : X.A.units + 64 < cLine) :
    CallR X (.builtin "repr") (fun xs H Q => ∃ a d, xs = [.ref a] ∧ Dp X.K H (.ref a) d ∧ d.showable = true ∧ d.hasDict = false ∧ d.depth ≤ 60 ∧ d.shown.length ≤ sizeLine ∧ Q (.str d.shown) H) := by
  intro pins s σ H xs us Q I r h
  obtain ⟨a, d, rfl, D, sh, nd, dep, sz, q⟩ := h
  obtain ⟨u, rfl, ru⟩ := vals1 r
  cases ru
  obtain ⟨as, rd⟩ := Dp.reads I d _ _ D rfl
  exact repr_of_reads' rd sh (fun z => by rw [nd] at z; cases z) hg (by omega) (fun _ _ e => e) (fun h' u tk hk => ⟨.str d.shown, H, I.kept hk, ⟨_, rfl⟩, q⟩) sz
def tMethK (C : Addr) (m : Str) (sp : Sp) (E : XK) (gV : List V → List V) (ta : TE) (t : TA) : TE := fun σ H Q => ta σ H fun x H1 => ∃ a dx fs, x = .ref a ∧ H1 a = some (.ins C dx fs) ∧ fs.lookup m = none ∧ t σ H1 fun zs H2 => sp (gV (.ref a :: zs)) H2 Q E
/-- o.m(k = e, ..), by keywords alone -/
theorem pe_methK {gs : List Value → List Value → List Value} {gV : List V → List V → List V} (he : PE X o ta) (c : Cls X.K C) (hm : Meth X.K C m f) (F : FnOk X.prog X.w X.K X.mg X.base CX k f fd ps sp) (hr : Room k X.A) (hb : KBinds X.K fd ps ks gs gV) (hx : Passes CX X E) (hkw : PK X kws tk)
    (hall : (backToKw pos (keywordEach kws X.env)).all (·.1.isSome) = true := by rfl) (hks : (backToKw pos (keywordEach kws X.env)).filterMap (·.1) = ks := by rfl)
    (hpl : ((backTo pos (starEach [] X.env)).any (·.1) || (backToKw pos (keywordEach kws X.env)).any (·.1.isNone)) = false := by rfl)
    (ht : eval (.Call (.Attribute o m apos) [] kws pos) X.env = (do
      let ov ← eval o X.env
      standAt apos.atName
      let (f, first) ← holding [ov] (getMethod ov m pl)
      callWith pos f first (backTo pos (starEach [] X.env)) (backToKw pos (keywordEach kws X.env))) := by rfl) :
    PE X (.Call (.Attribute o m apos) [] kws pos) (tMethK C m sp E (fun vs => gV (vs.take 1) (vs.drop 1)) ta tk) := by
  refine ⟨fun pins s σ H Q I h => PySem.W.methodCall_KW (pl := pl) (thn (he.run pins s σ H _ I h) fun u s1 ⟨x, H1, I1, rx, a, dx, fs, ex, ea, l, q⟩ => ?_) ht⟩
  subst ex
  cases (show u = Value.ref a from rx)
  refine getmeth_ok I1 ea c hm l (PySem.W.callWith_KW0 (first := [.ref a]) (h₀ := X.base) I.ok.mod.kin hm.kp hall (thn (hkw.run pos pins s1 σ H1 _ I1 q) fun ws s2 ⟨zs, H2, I2, rz, q2⟩ => ⟨I2.kIn, ?_⟩) hpl)
  rw [hks]
  exact run_fnk (us := [.ref a]) (vs := [.ref a]) F hr hb hx I2 (.cons rfl .nil) rz q2
end
end TzOwn
namespace TzRepr
open PySem PySem.Spec PyProof.Rows L2 PySem.Builtin PySem.Builtin.List Tz
/-- what repr of a thing gives, by the abstract heap -/
abbrev Rpr := V → Str → Hp → Prop
def Mon (D : Rpr) : Prop := ∀ x t H H', Ex H H' → D x t H → D x t H'
/-- repr within a repr gives what D says, and only makes objects; as: what may be under way -/
def RpG (X : Cx) (n : Nat) (as : List Addr) (D : Rpr) : Prop :=
  ∀ (A : Around) (g : List Code) (pins : List (Addr × Obj)) (s : Shared) (σ : L2.St) (H : Hp) (x : V) (u : Value) (t : Str) (b : Nat), Room n A → A.frames = X.A.frames → A.guards = some g → (∀ p, p ∉ as → Clear g p) → L2.Inv X pins σ H s → RelV x u → D x t H → b + t.length ≤ sizeLine →
    wpAny (model X.prog X.w) A (pyReprUnder b u) (fun r s' => r = t ∧ ∃ H', L2.Inv X pins σ H' s' ∧ Ex H H') X.xe s
theorem RpG.mono {X : Cx} {n m : Nat} {as : List Addr} {D : Rpr} (h : RpG X n as D) (hn : n ≤ m) : RpG X m as D := fun A g pins s σ H x u t b hr => h A g pins s σ H x u t b (hr.mono hn)
theorem RpG.or {X : Cx} {n : Nat} {as : List Addr} {D D' : Rpr} (h : RpG X n as D) (h' : RpG X n as D') : RpG X n as (fun x t H => D x t H ∨ D' x t H) := fun A g pins s σ H x u t b hr hf hg hc I r d hs =>
  d.elim (fun d => h A g pins s σ H x u t b hr hf hg hc I r d hs) fun d => h' A g pins s σ H x u t b hr hf hg hc I r d hs
theorem Mon.or {D D' : Rpr} (h : Mon D) (h' : Mon D') : Mon (fun x t H => D x t H ∨ D' x t H) := fun x t H H' e d => d.elim (fun d => .inl (h x t H H' e d)) fun d => .inr (h' x t H H' e d)
/-! ### flat things -/
def RFlat : Rpr := fun x t _ => (x = .non ∧ t = "None") ∨ (∃ b : Bool, x = .bl b ∧ t = PyData.shown (.bool b)) ∨ (∃ i : Int, x = .int i ∧ i.natAbs.log2 < 1920 ∧ t = PyData.shown (.int i))
theorem mon_flat : Mon RFlat := fun _ _ _ _ _ d => d
section
variable {X : Cx} {n : Nat} {as : List Addr} {D : Rpr}
theorem is_of {x : Value} {t : Str} {A : Around} {pins : List (Addr × Obj)} {s : Shared} {σ : L2.St} {H : Hp} {b : Nat} (h : ReprIs X.prog X.w x t) (I : L2.Inv X pins σ H s) (hs : b + t.length ≤ sizeLine) :
    wpAny (model X.prog X.w) A (pyReprUnder b x) (fun r s' => r = t ∧ ∃ H', L2.Inv X pins σ H' s' ∧ Ex H H') X.xe s :=
  h b hs A X.xe s _ fun tk => ⟨rfl, H, I.kept (h' := s.heap) (t' := tk) fun _ _ e => e, fun _ _ e => e⟩
/-- flat things by what the library tells of them -/
theorem rpG_flat : RpG X 0 as RFlat := by
  intro A g pins s σ H x u t b hr hf hg hc I r d hs
  rcases d with ⟨rfl, rfl⟩ | ⟨c, rfl, rfl⟩ | ⟨i, rfl, hi, rfl⟩
  · cases r
    exact is_of ReprIs.none I hs
  · cases r
    rw [PyData.shown_bool] at hs ⊢
    exact is_of (ReprIs.bool c) I hs
  · obtain ⟨tk, rfl⟩ := r
    rw [PyData.shown_int] at hs ⊢
    exact is_of (ReprIs.int tk hi) I hs
/-- texts -/
def RStr : Rpr := fun x t _ => ∃ z : Str, x = .str z ∧ t = reprText z
theorem rpG_str : RpG X 0 as RStr := by
  intro A g pins s σ H x u t b hr hf hg hc I r d hs
  obtain ⟨z, rfl, rfl⟩ := d
  obtain ⟨tk, rfl⟩ := r
  exact is_of (ReprIs.str z tk (by omega)) I hs
/-! ### instances with the text's own __repr__ -/
theorem byBound_K {prog : Program} {w : World} {A : Around} {E : Value → Shared → Prop} {s : Shared} {K : PySem.W.Frag} {x C f : Addr} {ox : Obj} {od : Option Obj} {name : Str} {last : Value → List Value → Sem Value} {Q : Option Value → Shared → Prop} (X : K.In s.heap)
    (I : PySem.W.InstAt s.heap x ox C od) (hs : PySem.W.findIn K (.ref C) name = some (some (.ref f))) (hf : PySem.W.isFn K (.ref f) = true)
    (h : wpAny (model prog w) A (last (.ref f) [.ref x]) (fun v => Q (some v)) E s) : wpAny (model prog w) A (callSpecialIfBoundBy? last (.ref x) name) Q E s := by
  simp only [callSpecialIfBoundBy?, bindSpecialIfBound?]
  refine wpAny_holding (wpAny_bind (wpAny_bind (wpAny_bind (I.type.here ((PySem.W.looks_findIn X hs).here ?_)))))
  refine wpAny_bind (wpAny_askSetting (wpAny_ite ?_))
  have fin : wpAny (model prog w) A (last (.ref f) [.ref x] >>= fun v => pure (some v)) Q E s := wpAny_bind (wpAny_mono h (fun v s' h' => wpAny_pure h') fun _ _ h' => h')
  split
  · exact wpAny_bind ((PySem.W.bind_fn X _ (beq_iff_eq.mp hf)).here (wpAny_pure (by exact fin)))
  · exact wpAny_tryCatch (wpAny_bind ((PySem.W.bind_fn X _ (beq_iff_eq.mp hf)).here (wpAny_pure (by exact fin))))
/-- what the own __repr__ promises: the text t, where R says so -/
def spRepr (R : Addr → Str → Hp → Prop) : Sp := fun vs H Q _ => ∃ a t, vs = [.ref a] ∧ R a t H ∧ ∀ H', Ex H H' → Q (.str t) H'
def RIns (C : Addr) (R : Addr → Str → Hp → Prop) : Rpr := fun x t H => ∃ a dx fs, x = .ref a ∧ H a = some (.ins C dx fs) ∧ R a t H
theorem rpG_ins {CX : CXT} {C f : Addr} {fd : FuncData} {ps : List Str} {R : Addr → Str → Hp → Prop} {E : XK} (F : FnOk X.prog X.w X.K X.mg X.base CX n f fd ps (spRepr R)) (M : Meth X.K C "__repr__" f) (hb : Binds X.K fd ps []) (hx : Passes CX X E) : RpG X n as (RIns C R) := by
  intro A g pins s σ H x u t b hr hf hg hc I r d hs
  obtain ⟨a, dx, fs, rfl, ha, hR⟩ := d
  cases r
  obtain ⟨od, J⟩ := TzOwn.inst_at I ha
  refine wpAny_pyReprUnder_ref (by omega) ?_
  unfold pyReprObjUnder pyReprObjBy
  refine wpAny_bind (wpAny_cRoomFor hr.units0 ?_)
  refine wpAny_bind (wpAny_bind (J.type.here ((PySem.W.looks_findIn I.kIn M.at_).here ?_)))
  show wpAny _ _ (if (some (Value.ref f)).isNone = true then _ else _) _ _ _
  rw [if_neg (by simp)]
  refine wpAny_bind (m := callSpecialIfBoundBy? _ (.ref a) (Str.ofString "__repr__")) (byBound_K I.kIn J M.at_ M.fn ?_)
  show wpAny _ _ (call (.ref f) [.ref a]) _ _ s
  have hsp : spRepr R [.ref a] H (fun v H' => v = .str t ∧ Ex H H') E := ⟨a, t, rfl, hR, fun H' e => ⟨rfl, e⟩⟩
  have e0 : Env0 X.prog X.w X.K X.mg X.base A X.stack s H := by
    have e := I.env0
    exact ⟨by rw [hf]; exact e.frames, e.mod, e.bs, e.bsz, e.funs, e.frf, e.hok, e.bare⟩
  have hl := F.len _ _ _ _ hsp
  refine wpAny_call (codeAny_mono (F.run A X.stack s H ⟨[.ref a], []⟩ [.ref a] [.ref a] _ E hr e0 (by
    have := hb s [.ref a] I.kIn (by simpa using hl)
    simpa using this) (.cons rfl .nil) hsp) fun r s' hq => ?_)
  cases r with
  | error e => exact hx pins σ H s e s' I hq
  | ok fl =>
    cases fl with
    | ret w =>
      obtain ⟨z, H', I', rz, ez, ex⟩ := I.after hq
      subst ez
      obtain ⟨tk, rfl⟩ := rz
      refine wpAny_bind (wpAny_isInstance (typeIs_str _ _ _) isSubtype_str_str ?_)
      rw [if_pos rfl]
      exact wpAny_pure ⟨_, _, rfl, rfl, H', I', ex⟩
    | next => exact False.elim hq
    | brk => exact False.elim hq
    | cont => exact False.elim hq
/-! ### lists -/
theorem vals_strs : ∀ {ts : List Str} {us : List Value}, Vals (ts.map V.str) us → ∃ done : List (Str × Tok), us = strValues done ∧ done.map (·.1) = ts
  | [], [], _ => ⟨[], rfl, rfl⟩
  | t :: ts, u :: us, .cons a r => by
    obtain ⟨tk, rfl⟩ := a
    obtain ⟨done, rfl, e⟩ := vals_strs r
    exact ⟨(t, tk) :: done, rfl, by rw [List.map_cons, e]⟩
theorem room_loop {A : Around} {k : Nat} {args : Args} (r : Room (k + 1) A) : Room k (A.under (.builtin "list.__repr__.loop" args)) := by
  have hu := units_under_list_loop A args
  have hd : (A.under (.builtin "list.__repr__.loop" args)).depth ≤ A.depth + 1 := by
    first | exact Nat.le_of_eq rfl | exact Nat.le_succ _ | simp [Around.under, Code.weight, Code.isCreation, Code.isGuard, Code.isCaller, Code.frames, Code.isFrame, guardIds]
  have hh : (A.under (.builtin "list.__repr__.loop" args)).handled = A.handled := by
    first | rfl | simp [Around.under]
  refine ⟨by rw [hh]; exact r.hd, by have := r.dp; omega, by have := r.un; rw [hu]; omega⟩
theorem frames_loop {A : Around} {args : Args} : (A.under (.builtin "list.__repr__.loop" args)).frames = A.frames := by
  first | rfl | simp [Around.under, Code.frames, Code.isFrame]
/-- item by item -/
def Each (D : Rpr) (xs : List V) (ts : List Str) (H : Hp) : Prop := xs.length = ts.length ∧ ∀ (i : Nat) x t, xs[i]? = some x → ts[i]? = some t → D x t H
theorem Each.mon (hD : Mon D) {xs : List V} {ts : List Str} {H H' : Hp} (e : Ex H H') (p : Each D xs ts H) : Each D xs ts H' := ⟨p.1, fun i x t h1 h2 => hD x t H H' e (p.2 i x t h1 h2)⟩
theorem loop_run {A : Around} {g : List Code} {pins : List (Addr × Obj)} {σ : L2.St} {H0 : Hp} {a P : Addr} {xs : List V} {ts : List Str} {base : Nat} {R : Result → Shared → Prop} (h : RpG X n (a :: as) D) (hm : Mon D) (hr : Room (n + 1) A) (hf : A.frames = X.A.frames) (hg : A.guards = some g)
    (hcl : ∀ p, p ∉ as → Clear g p) (ha : H0 a = some (.lst xs)) (hP : H0 P = none) (d : Each D xs ts H0) (hsz : base + (listText ts).length ≤ sizeLine) (hE : ∀ e s', X.xe e s' → R (.error e) s')
    (hR : ∀ u H' s', L2.Inv X pins σ H' s' → Ex H0 H' → R (.ok (.ret (.str (listText ts) u))) s') :
    ∀ (k i : Nat) (s : Shared) (H1 : Hp), ts.length - i = k → i ≤ ts.length → L2.Inv X pins σ H1 s → Ex H0 H1 → H1 P = some (.lst ((ts.take i).map V.str)) →
    codeAny (model X.prog X.w) A (.builtin "list.__repr__.loop" ⟨[.ref a, rawInt i, .ref P, rawInt ((base + piled (ts.take i) : Nat) : Int)], []⟩) R s := by
  have hX : (listText ts).length = (textFrom 0 "[" ts).length + 1 := by
    show (textFrom 0 "[" ts ++ "]").length = _
    rw [strLen_append]; rfl
  have hL := textFrom_len ts 0 "["
  have hsz1 : ts.length ≤ sizeLine := by
    have h1 := hL.1
    rw [if_neg (Nat.lt_irrefl 0)] at h1
    omega
  have hsz2 : ∀ t ∈ ts, t.length ≤ sizeLine := fun t ht => by
    have h2 := hL.2.1 t ht
    omega
  have hsz3 : (listText ts).length ≤ sizeLine := by omega
  have hp3 := piled_le_listText ts
  intro k
  induction k with
  | zero =>
    intro i s H1 hk hi I e hH
    have hin : i = ts.length := by omega
    obtain ⟨_, its, m, r, hl, he⟩ := I.lstM (e _ _ ha)
    obtain ⟨_, ps, m2, r2, hl2, he2⟩ := I.lstM hH
    refine codeAny_builtin F.entry_list_repr_loop ?_
    show wpAny _ _ («list.__repr__.loop» ⟨[.ref a, .int i 0, .ref P, .int ((base + piled (ts.take i) : Nat) : Int) 0], []⟩) _ _ s
    rw [repr_loop_tree]
    refine wpAny_bind (wpAny_listItems he rfl ?_)
    have hnone : its.toArray[(i : Int).toNat]? = none := by
      have := d.1
      simp
      omega
    simp only [hnone]
    unfold reprEnd
    refine wpAny_bind (wpAny_listItems he2 rfl ?_)
    obtain ⟨done, rfl, hdone⟩ := vals_strs r2
    rw [List.toList_toArray, repr_fold]
    refine wpAny_bind (wpAny_pure ?_)
    rw [hdone, hin, List.take_length]
    refine wpAny_bind (wpAny_mkStr (wpAny_pure ?_) hsz3)
    exact hR _ H1 _ (I.kept (h' := s.heap) fun _ _ z => z) e
  | succ k ih =>
    intro i s H1 hk hi I e hH
    have hlt : i < ts.length := by omega
    obtain ⟨_, its, m, r, hl, he⟩ := I.lstM (e _ _ ha)
    have hlt2 : i < its.length := by have := d.1; omega
    have hlt3 : i < xs.length := by have := d.1; omega
    have ht : ts[i]? = some ts[i] := List.getElem?_eq_getElem hlt
    have hp1 := piled_take_succ ht
    have hp2 := piled_take_le ts (i + 1)
    refine codeAny_builtin F.entry_list_repr_loop ?_
    show wpAny _ _ («list.__repr__.loop» ⟨[.ref a, .int i 0, .ref P, .int ((base + piled (ts.take i) : Nat) : Int) 0], []⟩) _ _ s
    rw [repr_loop_tree]
    refine wpAny_bind (wpAny_listItems he rfl ?_)
    have hsome : its.toArray[(i : Int).toNat]? = some its[i] := by simp [hlt2]
    simp only [hsome]
    rw [Int.toNat_natCast]
    obtain ⟨u, hu, ru⟩ := r.get (List.getElem?_eq_getElem hlt3)
    have eu : u = its[i] := by
      rw [List.getElem?_eq_getElem hlt2] at hu
      exact (Option.some.inj hu).symm
    subst eu
    have hit := h _ _ pins s σ H1 _ its[i] ts[i] (base + piled (ts.take i) + 1) (room_loop (args := ⟨[.ref a, rawInt i, .ref P, rawInt ((base + piled (ts.take i) : Nat) : Int)], []⟩) hr) (frames_loop.trans hf) (guards_under_guard (isGuard_list_loop _) hg)
      (fun p hp => (hcl p fun q => hp (.tail _ q)).cons (a := a) fun q => hp (q ▸ .head _)) I ru (hm _ _ _ _ e (d.2 i _ _ (List.getElem?_eq_getElem hlt3) ht)) (by omega)
    refine wpAny_bind (wpAny_holding (wpAny_mono hit (fun z s2 q => ?_) fun e s' q => hE e s' q))
    obtain ⟨rfl, H2, I2, e2⟩ := q
    refine wpAny_bind (wpAny_mkStr ?_ (hsz2 _ (List.getElem_mem hlt)))
    refine wpAny_bind ?_
    show wpAny _ _ (updateSeq P _) _ _ _
    obtain ⟨_, ps, m2, r2, hl2, he2⟩ := I2.lstM (e2 _ _ hH)
    have hpl : ps.length ≤ sizeLine := by
      rw [← hl2, List.length_map, List.length_take]
      omega
    have hpl2 : ps.length = i := by
      rw [← hl2, List.length_map, List.length_take]
      omega
    have I3 := I2.kept (h' := s2.heap) (t' := s2.toks + 1) fun _ _ z => z
    refine wpAny_updateSeq he2 rfl (wpAny_pure ⟨F.quiet_list_repr_loop _, ?_⟩) (by rw [List.size_toArray]; exact hpl)
    have e1 : ((i : Int) + 1) = ((i + 1 : Nat) : Int) := by omega
    have e3 : base + piled (ts.take i) + (ts[i].length + 2) = base + piled (ts.take (i + 1)) := by omega
    rw [e1, e3]
    have I4 := I3.lset (f := (·.push (.str ts[i] s2.toks))) (its' := ps ++ [.str ts[i] s2.toks]) (ys := (ts.take (i + 1)).map V.str) (t' := s2.toks + 1) (e2 _ _ hH) he2 (by simp) (by
      rw [List.take_add_one, ht, List.map_append]
      exact r2.append (.cons ⟨_, rfl⟩ .nil)) (by
      rw [List.length_map, List.length_take]
      omega)
    refine ih (i + 1) _ (upd H2 P (.lst ((ts.take (i + 1)).map V.str))) (by omega) hlt I4 (fun b o z => ?_) upd_same
    rw [upd_ne (ne_of_none z hP)]
    exact e2 _ _ (e _ _ z)
theorem at_run {A : Around} {g : List Code} {pins : List (Addr × Obj)} {σ : L2.St} {H : Hp} {s : Shared} {a : Addr} {xs : List V} {ts : List Str} {base : Nat} {R : Result → Shared → Prop} (h : RpG X n (a :: as) D) (hm : Mon D) (hr : Room (n + 1) A) (hf : A.frames = X.A.frames) (hg : A.guards = some g)
    (hcl : ∀ p, p ∉ as → Clear g p) (hna : a ∉ as) (I : L2.Inv X pins σ H s) (ha : H a = some (.lst xs)) (hne : xs ≠ []) (d : Each D xs ts H) (hsz : base + (listText ts).length ≤ sizeLine) (hE : ∀ e s', X.xe e s' → R (.error e) s')
    (hR : ∀ u H' s', L2.Inv X pins σ H' s' → Ex H H' → R (.ok (.ret (.str (listText ts) u))) s') :
    wpAny (model X.prog X.w) A.in1 (Builtin.listReprAt base ⟨[.ref a], []⟩) (fun fin s' => match fin with | .done f => R (.ok f) s' | .again c' => c'.quiet = true ∧ codeAny (model X.prog X.w) A c' R s') (fun e s' => R (.error e) s') s := by
  obtain ⟨_, its, m, r, hl, he⟩ := I.lstM ha
  cases its with
  | nil => exact absurd (List.length_eq_zero_iff.mp hl) hne
  | cons y l =>
    refine wpAny_list_repr_head (A := A.in1) hg (fun v rest kw hm' => listSameRef_of_ne (hcl a hna _ _ _ _ hm')) he rfl ?_
    refine wpAny_bind (m := newList []) (wpAny_newObj_type ?_)
    refine wpAny_pure ⟨F.quiet_list_repr_loop _, ?_⟩
    have hP := I.fresh
    have I1 := I.lnew (ys := []) (its := []) (t' := s.toks) .nil (Nat.zero_le _)
    have e1 : Ex H (upd H s.heap.objs.size (.lst [])) := fun b o z => by
      rw [upd_ne (ne_of_none z hP)]
      exact z
    have := loop_run (P := s.heap.objs.size) (H0 := H) (R := R) (base := base) h hm hr hf hg hcl ha hP d hsz hE hR _ 0 _ (upd H s.heap.objs.size (.lst [])) rfl (Nat.zero_le _) I1 e1 upd_same
    exact this
/-- lists, item by item -/
def RList (D : Rpr) (as : List Addr) : Rpr := fun x t H => ∃ a xs ts, x = .ref a ∧ a ∉ as ∧ H a = some (.lst xs) ∧ t = listText ts ∧ Each D xs ts H
theorem mon_list (hD : Mon D) : Mon (RList D as) := fun x t H H' e ⟨a, xs, ts, hx, hn, h1, ht, p⟩ => ⟨a, xs, ts, hx, hn, e _ _ h1, ht, p.mon hD e⟩
theorem rpG_list (hm : Mon D) (h : ∀ a, RpG X n (a :: as) D) : RpG X (n + 1) as (RList D as) := by
  intro A g pins s σ H x u t b hr hf hg hc I r d hs
  obtain ⟨a, xs, ts, rfl, hna, ha, rfl, p⟩ := d
  cases r
  refine wpAny_pyReprUnder_ref (by omega) ?_
  obtain ⟨_, its, m, rv, hl, he⟩ := I.lstM ha
  by_cases hne : xs = []
  · subst hne
    have e1 : its = [] := List.length_eq_zero_iff.mp hl.symm
    subst e1
    have e2 : ts = [] := List.length_eq_zero_iff.mp p.1.symm
    subst e2
    exact wpAny_pyReprObjUnder_list_empty ⟨_, he, rfl⟩ hr.units0 he rfl ⟨_, _, rfl, rfl, H, I.kept (h' := s.heap) fun _ _ z => z, fun _ _ z => z⟩
  · refine wpAny_pyReprObjUnder_twin (twin := "list.__repr__.under") ⟨_, he, rfl⟩ F.slot_list_repr.toG rfl hr.units0 ?_
    refine call_twin_plain F.plain_list_repr_under F.entry_list_repr_under F.check_list_repr_under ⟨_, he, rfl⟩ F.slot_list_repr.toG (F.args_list_repr_1 _) ?_
    exact at_run (R := callEnd _ X.xe) (h a) hm hr hf hg hc hna I ha hne p hs (fun e s' q => q) fun u H' s' I' e => ⟨⟨_, _, rfl⟩, _, _, rfl, rfl, H', I', e⟩
/-- repr(x) of a list, where no repr is under way -/
theorem repr_list (hm : Mon D) (h : ∀ a, RpG X n [a] D) (hg : X.A.guards = some []) (hr : Room (n + 2) X.A) :
    CallR X (.builtin "repr") (fun xs H Q => ∃ x t, xs = [x] ∧ RList D [] x t H ∧ t.length ≤ sizeLine ∧ ∀ H', Ex H H' → Q (.str t) H') := by
  intro pins s σ H xs us Q I r hq
  obtain ⟨x, t, rfl, ⟨a, xs, ts, rfl, _, ha, rfl, p⟩, hs, q⟩ := hq
  obtain ⟨u, rfl, ru⟩ := vals1 r
  cases ru
  obtain ⟨_, its, m, rv, hl, he⟩ := I.lstM ha
  refine call_repr_slot hr.in1.units0 ⟨_, he, rfl⟩ F.slot_list_repr.toG ?_
  by_cases hne : xs = []
  · subst hne
    have e1 : its = [] := List.length_eq_zero_iff.mp hl.symm
    subst e1
    have e2 : ts = [] := List.length_eq_zero_iff.mp p.1.symm
    subst e2
    exact call_list_repr_empty ⟨_, he, rfl⟩ he rfl ⟨_, _, rfl, .str "[]", H, I.kept (h' := s.heap) fun _ _ z => z, ⟨_, rfl⟩, q H fun _ _ z => z⟩
  · refine wpAny_call (codeAny_call_builtin F.slot_list_repr.plain F.entry_list_repr (F.slot_list_repr.check _ _ _ _ _ _ _ _ ⟨_, he, rfl⟩ (F.args_list_repr_1 _) ?_))
    exact at_run (base := 0) (R := callEnd _ X.xe) (A := X.A.in1) (g := []) (h a) hm hr.in1 rfl hg (fun p _ => Clear.nil p) (fun z => by cases z) I ha hne p (by omega) (fun e s' q => q) fun u H' s' I' e => ⟨_, _, rfl, .str (listText ts), H', I', ⟨_, rfl⟩, q H' e⟩
/-- repr(x) of an instance with its own __repr__ -/
theorem repr_ins {CX : CXT} {C f : Addr} {fd : FuncData} {ps : List Str} {sp : Sp} {E : XK} (F : FnOk X.prog X.w X.K X.mg X.base CX n f fd ps sp) (hr : Room (n + 1) X.A) (M : Meth X.K C "__repr__" f) (hb : Binds X.K fd ps []) (hx : Passes CX X E) :
    CallR X (.builtin "repr") (fun xs H Q => ∃ a dx fs, xs = [.ref a] ∧ H a = some (.ins C dx fs) ∧ sp [.ref a] H (fun v H' => (∃ t, v = .str t) ∧ Q v H') E) := by
  intro pins s σ H xs us Q I r hq
  obtain ⟨a, dx, fs, rfl, ha, q⟩ := hq
  obtain ⟨u, rfl, ru⟩ := vals1 r
  cases ru
  obtain ⟨od, J⟩ := TzOwn.inst_at I ha
  refine Calls.call_function_entry PySem.F.kind_repr PySem.F.plain_repr PySem.F.entry_repr (PySem.F.args_repr1 _) ?_
  unfold Builtin.«repr»
  refine wpAny_bind (m := oneArg "repr" _) (wpAny_pure ?_)
  refine wpAny_bind (wpAny_cRoomFor hr.in1.units0 ?_)
  refine wpAny_bind (wpAny_bind (J.type.here ((PySem.W.looks_findIn I.kIn M.at_).here ?_)))
  show wpAny _ _ (if (some (Value.ref f)).isNone = true then _ else _) _ _ _
  rw [if_neg (by simp)]
  have e0 : Env0 X.prog X.w X.K X.mg X.base X.A.in1 X.stack s H := I.env0.in1
  have hl := F.len _ _ _ _ q
  refine wpAny_bind (m := callSpecialIfBound? (.ref a) (Str.ofString "__repr__") _) (PySem.W.ifBound_K I.kIn J M.at_ M.fn ?_)
  refine wpAny_call (codeAny_mono (F.run X.A.in1 X.stack s H ⟨[.ref a], []⟩ [.ref a] [.ref a] _ E hr.in1 e0 (by
    have := hb s [.ref a] I.kIn (by simpa using hl)
    simpa using this) (.cons rfl .nil) q) fun r s' hq => ?_)
  cases r with
  | error e => exact hx pins σ H s e s' I hq
  | ok fl =>
    cases fl with
    | ret w =>
      obtain ⟨z, H', I', rz, ⟨t, ez⟩, q'⟩ := I.after hq
      subst ez
      obtain ⟨tk, rfl⟩ := rz
      refine wpAny_bind (wpAny_isInstance (typeIs_str _ _ _) isSubtype_str_str ?_)
      rw [if_pos rfl]
      exact wpAny_pure ⟨_, rfl, .str t, H', I', ⟨_, rfl⟩, q'⟩
    | next => exact False.elim hq
    | brk => exact False.elim hq
    | cont => exact False.elim hq
end
end TzRepr
namespace TzOwn
open PySem PySem.Spec PyProof.Rows L2
/-- the class stands alone under object -/
def solo (K : PySem.W.Frag) (C : Addr) : Bool := (PySem.W.clsIn K C).any fun cd => cd.mro == [.ref C, .type "object"]
section
variable {prog : Program} {w : World} {A : Around} {E : Value → Shared → Prop} {s : Shared} {K : PySem.W.Frag} {a b C f : Addr} {od od' : Option Obj} {oa ob : Obj} {Q : Value → Shared → Prop} {nm : String} {fo ro rc : Option Value}
theorem bin1_same (Xk : K.In s.heap) (J : PySem.W.InstAt s.heap a oa C od) (J' : PySem.W.InstAt s.heap b ob C od') (sf : PySem.W.selfFirst K C = true) (hs : PySem.W.findIn K (.ref C) (PySem.dunder nm) = some (some (.ref f))) (hf : PySem.W.isFn K (.ref f) = true)
    (h : wpAny (model prog w) A (call (.ref f) [.ref a, .ref b]) (PySem.W.CmpBack Q) E s) : wpAny (model prog w) A (binaryOp1 nm (.ref a) (.ref b)) (fun r s' => ∃ v, r = some v ∧ Q v s') E s := by
  obtain ⟨cd, rest, hcd, hm⟩ := PySem.W.ksp_first sf
  have one := PySem.W.ksp_try Xk J hs hf h
  have L1 : PySem.W.Looks (model prog w) s.heap (typeOf (.ref a)) (.ref C) := J.type
  have L2 : PySem.W.Looks (model prog w) s.heap (typeOf (.ref b)) (.ref C) := J'.type
  have L3 : PySem.W.Looks (model prog w) s.heap (fillsNumberSlot (.ref C) nm) true := PySem.W.fills_K Xk hcd hm hs
  unfold binaryOp1
  refine wpAny_bind (L1.here (wpAny_bind (L2.here (wpAny_bind (L3.here ?_)))))
  have e : (Value.ref C == Value.ref C) = true := beq_self_eq_true _
  simp only [e, if_true, pure_bind, Bool.and_false, Bool.false_and, Bool.false_eq_true, if_false]
  refine wpAny_bind (wpAny_mono one (fun r s' hr => ?_) fun _ _ z => z)
  obtain ⟨v, rfl, q⟩ := hr
  exact wpAny_pure ⟨v, rfl, q⟩
theorem bin1_int {n : Int} {t : Tok} (Xk : K.In s.heap) (J : PySem.W.InstAt s.heap a oa C od) (sf : PySem.W.selfFirst K C = true) (hs : PySem.W.findIn K (.ref C) (PySem.dunder nm) = some (some (.ref f))) (hf : PySem.W.isFn K (.ref f) = true)
    (hr : PySem.W.findIn K (.ref C) (dunderR nm) = some rc) (hp : rc = none ∨ ∃ g : Addr, rc = some (.ref g)) (h1 : PySem.W.findIn K (.type "int") (PySem.dunder nm) = some fo) (h2 : PySem.W.findIn K (.type "int") (dunderR nm) = some ro) (hsub : PySem.W.subIn K (.type "int") (.ref C) = some false)
    (h : wpAny (model prog w) A (call (.ref f) [.ref a, .int n t]) (PySem.W.CmpBack Q) E s) : wpAny (model prog w) A (binaryOp1 nm (.ref a) (.int n t)) (fun r s' => ∃ v, r = some v ∧ Q v s') E s := by
  obtain ⟨cd, rest, hcd, hm⟩ := PySem.W.ksp_first sf
  have one := PySem.W.ksp_try Xk J hs hf h
  have L1 : PySem.W.Looks (model prog w) s.heap (typeOf (.ref a)) (.ref C) := J.type
  have L2 : typeOf (.int n t) = pure (.type "int") := rfl
  have L3 : PySem.W.Looks (model prog w) s.heap (fillsNumberSlot (.ref C) nm) true := PySem.W.fills_K Xk hcd hm hs
  have L4 := PySem.W.ksp_fillsT (M := model prog w) Xk h1 h2
  have L5 : PySem.W.Looks (model prog w) s.heap (isSubtype (.type "int") (.ref C)) false := PySem.W.looks_subIn Xk hsub
  have L6 : PySem.W.Looks (model prog w) s.heap (numberSlotInPython (.ref C) nm) true := PySem.W.ksp_inPy Xk hs hr hp
  have L7 : numberSlotInPython (.type "int") nm = pure false := rfl
  have L8 : PySem.W.Looks (model prog w) s.heap (typeLookup (.type "int") (dunderR nm)) ro := PySem.W.looks_findIn Xk h2
  generalize ((fo.isSome && !isSeqSlot fo) || (ro.isSome && !isSeqSlot ro)) = right at L4
  have hne : (Value.ref C == Value.type "int") = false := Bool.eq_false_iff.mpr fun q => by cases beq_iff_eq.mp q
  unfold binaryOp1
  refine wpAny_bind (L1.here (wpAny_bind (wpAny_of_eq L2 (wpAny_bind (L3.here ?_)))))
  simp only [hne, if_false, Bool.false_eq_true]
  refine wpAny_bind (L4.here ?_)
  cases right with
  | false =>
    simp only [pure_bind, Bool.and_false, Bool.false_and, if_false, Bool.false_eq_true, if_true]
    refine wpAny_bind (wpAny_mono one (fun r s' hr => ?_) fun _ _ z => z)
    obtain ⟨v, rfl, q⟩ := hr
    exact wpAny_pure ⟨v, rfl, q⟩
  | true =>
    simp only [Bool.and_self, if_true]
    refine wpAny_bind (L5.here ?_)
    simp only [pure_bind, Bool.not_false, Bool.and_self, if_true, if_false, Bool.false_eq_true]
    refine wpAny_bind (L6.here ?_)
    simp only [if_true, L7, pure_bind, Bool.not_false]
    refine wpAny_bind (L8.here ?_)
    refine wpAny_bind (wpAny_mono one (fun r s' hr => ?_) fun _ _ z => z)
    obtain ⟨v, rfl, q⟩ := hr
    exact wpAny_pure ⟨v, rfl, q⟩
theorem fillsI_not {add : Bool} (Xk : K.In s.heap) (so : solo K C = true) (n1 : PySem.W.findIn K (.ref C) (dunderI nm) = some none) (n2 : PySem.W.findIn K (.type "object") (dunderI nm) = some none) : PySem.W.Looks (model prog w) s.heap (fillsInplaceSlot (.ref C) nm add) false := by
  obtain ⟨cd, hcd, hm⟩ := PySem.W.any_some so
  have hm := beq_iff_eq.mp hm
  intro A Q E s' k q
  have Lm : PySem.W.Looks (model prog w) s.heap (mroOf (.ref C)) cd.mro := (PySem.W.looks_clsIn Xk hcd).andThen (f := fun cd => pure cd.mro) .now
  have X' : K.In s'.heap := Xk.keeps k
  unfold fillsInplaceSlot
  refine wpAny_bind ((Lm.keeps k).here ?_)
  rw [hm, List.anyM_cons]
  refine wpAny_bind (wpAny_bind ((PySem.W.looks_findIn X' n1).here (wpAny_pure ?_)))
  simp only [Bool.false_eq_true, if_false, List.anyM_cons, List.anyM_nil]
  refine wpAny_bind (wpAny_bind ((PySem.W.looks_findIn X' n2).here (wpAny_pure ?_)))
  exact wpAny_pure q
theorem inpl {op : Operator} {v u : Value} (L1 : PySem.W.Looks (model prog w) s.heap (typeOf v) (.ref C)) (L2 : PySem.W.Looks (model prog w) s.heap (fillsInplaceSlot (.ref C) op.info.2 (op == .Add)) false)
    (h : wpAny (model prog w) A (binaryOp1 op.info.2 v u) (fun r s' => ∃ z, r = some z ∧ Q z s') E s) : wpAny (model prog w) A (inplaceOp op v u) Q E s := by
  unfold inplaceOp
  refine wpAny_holding (wpAny_bind (L1.here (wpAny_bind (L2.here ?_))))
  simp only [Bool.false_eq_true, if_false]
  refine wpAny_bind (wpAny_mono h (fun r s' hr => ?_) fun _ _ z => z)
  obtain ⟨v, rfl, q⟩ := hr
  exact wpAny_pure q
end
theorem solo_of {K : PySem.W.Frag} {C : Addr} {cd : ClassData} (h : PySem.W.clsIn K C = some cd) (hm : cd.mro = [.ref C, .type "object"]) : solo K C = true := by
  unfold solo
  rw [h]
  show (cd.mro == [.ref C, .type "object"]) = true
  exact beq_iff_eq.mpr hm
/-- a op= b in a class that has no such method: as a op b -/
structure INo (K : PySem.W.Frag) (C : Addr) (m : Str) : Prop where
  so : solo K C = true
  n1 : PySem.W.findIn K (.ref C) m = some none
  n2 : PySem.W.findIn K (.type "object") m = some none
section
variable {X : Cx} {CX : CXT} {k : Nat} {f C : Addr} {fd : FuncData} {ps : List Str} {sp : Sp} {E : XK} {op : Operator} {nm nr ni : Str} {fo ro rc : Option Value}
theorem ip_own (F : FnOk X.prog X.w X.K X.mg X.base CX k f fd ps sp) (hr : Room k X.A) (M : Meth X.K C nm f) (hn : PySem.dunder op.info.2 = nm) (sf : PySem.W.selfFirst X.K C = true) (hb : Binds X.K fd ps []) (hx : Passes CX X E) (no : INo X.K C ni) (hi : dunderI op.info.2 = ni) :
    PIp X op (rOwn C sp E) := by
  intro pins s σ H x y v u Q I rx ry h
  obtain ⟨a, b, dx, dy, fs, gs, rfl, rfl, ha, hb', q⟩ := h
  cases rx
  cases ry
  obtain ⟨od, J⟩ := inst_at I ha
  obtain ⟨od', J'⟩ := inst_at I hb'
  refine inpl J.type (fillsI_not I.kIn no.so (hi ▸ no.n1) (hi ▸ no.n2)) (bin1_same I.kIn J J' sf (hn ▸ M.at_) M.fn ?_)
  exact thn (run_fn (us := [.ref a, .ref b]) (vs := [.ref a, .ref b]) F hr hb .nil hx I (.cons rfl (.cons rfl .nil)) q) fun _ _ z => back_cmp z
theorem ip_ownI (F : FnOk X.prog X.w X.K X.mg X.base CX k f fd ps sp) (hr : Room k X.A) (M : Meth X.K C nm f) (hn : PySem.dunder op.info.2 = nm) (sf : PySem.W.selfFirst X.K C = true) (hb : Binds X.K fd ps []) (hx : Passes CX X E)
    (hnr : dunderR op.info.2 = nr) (hc : PySem.W.findIn X.K (.ref C) nr = some rc) (hp : rc = none ∨ ∃ g : Addr, rc = some (.ref g)) (h1 : PySem.W.findIn X.K (.type "int") nm = some fo) (h2 : PySem.W.findIn X.K (.type "int") nr = some ro)
    (hsub : PySem.W.subIn X.K (.type "int") (.ref C) = some false) (no : INo X.K C ni) (hi : dunderI op.info.2 = ni) : PIp X op (rOwnI C sp E) := by
  intro pins s σ H x y v u Q I rx ry h
  obtain ⟨a, n, dx, fs, rfl, rfl, ha, q⟩ := h
  cases rx
  obtain ⟨t, rfl⟩ := ry
  obtain ⟨od, J⟩ := inst_at I ha
  refine inpl J.type (fillsI_not I.kIn no.so (hi ▸ no.n1) (hi ▸ no.n2)) (bin1_int I.kIn J sf (hn ▸ M.at_) M.fn (hnr ▸ hc) hp (hn ▸ h1) (hnr ▸ h2) hsub ?_)
  exact thn (run_fn (us := [.ref a, .int n t]) (vs := [.ref a, .int n]) F hr hb .nil hx I (.cons rfl (.cons ⟨_, rfl⟩ .nil)) q) fun _ _ z => back_cmp z
end
end TzOwn
namespace TzRepr
open PySem PySem.Spec PyProof.Rows L2 PySem.Builtin PySem.Builtin.List Tz
section
variable {X : Cx} {n : Nat} {as : List Addr} {D : Rpr}
/-! ### tuples -/
theorem Each.tail {x : V} {xs : List V} {t : Str} {ts : List Str} {H : Hp} (p : Each D (x :: xs) (t :: ts) H) : Each D xs ts H := ⟨by simpa using p.1, fun i y u h1 h2 => p.2 (i + 1) y u (by simpa using h1) (by simpa using h2)⟩
theorem Each.head {x : V} {xs : List V} {t : Str} {ts : List Str} {H : Hp} (p : Each D (x :: xs) (t :: ts) H) : D x t H := p.2 0 x t rfl rfl
theorem tup_fold {A : Around} {g : List Code} {pins : List (Addr × Obj)} {σ : L2.St} {bs : List Addr} (h : RpG X n bs D) (hm : Mon D) (hr : Room n A) (hf : A.frames = X.A.frames) (hg : A.guards = some g) (hcl : ∀ p, p ∉ bs → Clear g p) :
    ∀ (l : List Value) (xs : List V) (ts : List Str) (acc : Array Str) (m : Nat) (s : Shared) (H1 : Hp), Vals xs l → Each D xs ts H1 → m + piled ts ≤ sizeLine → L2.Inv X pins σ H1 s →
    wpAny (model X.prog X.w) A (forIn l (⟨acc, m⟩ : (Array Str × Nat)) tupBody) (fun r s' => r = ⟨acc ++ ts.toArray, m + piled ts⟩ ∧ ∃ H', L2.Inv X pins σ H' s' ∧ Ex H1 H') X.xe s := by
  intro l
  induction l with
  | nil =>
    intro xs ts acc m s H1 rv d hs I
    cases rv
    have e : ts = [] := List.length_eq_zero_iff.mp d.1.symm
    subst e
    rw [List.forIn_nil]
    exact wpAny_pure ⟨by simp [piled], H1, I, fun _ _ z => z⟩
  | cons y l ih =>
    intro xs ts acc m s H1 rv d hs I
    cases rv with
    | cons ry rv =>
      rename_i x xs
      cases ts with
      | nil => exact absurd d.1 (by simp)
      | cons t ts =>
        rw [piled_cons] at hs
        rw [List.forIn_cons]
        refine wpAny_bind (wpAny_bind (wpAny_mono (h A g pins s σ H1 x y t (m + 1) hr hf hg hcl I ry d.head (by omega)) (fun z s2 q => ?_) fun _ _ z => z))
        obtain ⟨rfl, H2, I2, e2⟩ := q
        refine wpAny_pure ?_
        refine wpAny_mono (ih xs ts (acc.push z) (m + (z.length + 2)) s2 H2 rv (d.tail.mon hm e2) (by omega) I2) (fun r s3 q => ?_) fun _ _ z => z
        obtain ⟨rfl, H3, I3, e3⟩ := q
        refine ⟨?_, H3, I3, e2.trans e3⟩
        rw [piled_cons]
        refine Prod.ext ?_ ?_
        · simp
        · show m + (z.length + 2) + piled ts = m + (z.length + 2 + piled ts)
          omega
/-- a code that is repr of a tuple -/
structure TupC (A : Around) (c : Code) : Prop where
  gd : c.isGuard = true
  un : (A.under c).units = A.units + 1
  dp : (A.under c).depth ≤ A.depth + 1
  hd : (A.under c).handled = A.handled
  fr : (A.under c).frames = A.frames
theorem TupC.room {A : Around} {c : Code} {k : Nat} (h : TupC A c) (r : Room (k + 1) A) : Room k (A.under c) := ⟨by rw [h.hd]; exact r.hd, by have := r.dp; have := h.dp; omega, by have := r.un; rw [h.un]; omega⟩
theorem tupC1 (A : Around) (args : Args) : TupC A (.builtin "tuple.__repr__" args) :=
  ⟨isGuard_tuple_repr _, units_under_tuple_repr _ _, by first | exact Nat.le_of_eq rfl | exact Nat.le_succ _ | simp [Around.under, Code.weight, Code.isCreation, Code.isGuard, Code.isCaller, Code.frames, Code.isFrame, guardIds], by first | rfl | simp [Around.under], by first | rfl | simp [Around.under, Code.frames, Code.isFrame]⟩
theorem tupC2 (A : Around) (args : Args) : TupC A (.builtin "tuple.__repr__.under" args) :=
  ⟨isGuard_tuple_repr_under _, units_under_tuple_repr_under _ _, by first | exact Nat.le_of_eq rfl | exact Nat.le_succ _ | simp [Around.under, Code.weight, Code.isCreation, Code.isGuard, Code.isCaller, Code.frames, Code.isFrame, guardIds], by first | rfl | simp [Around.under], by first | rfl | simp [Around.under, Code.frames, Code.isFrame]⟩
theorem tup_at {A : Around} {g : List Code} {pins : List (Addr × Obj)} {σ : L2.St} {H : Hp} {s : Shared} {a : Addr} {xs : List V} {ts : List Str} {base : Nat} {id : String} {rest : List Value} {R : Result → Shared → Prop} (h : RpG X n (a :: as) D) (hm : Mon D) (hr : Room (n + 1) A) (hf : A.frames = X.A.frames)
    (hg : A.guards = some g) (hcl : ∀ p, p ∉ as → Clear g p) (hna : a ∉ as) (c : TupC A (.builtin id ⟨.ref a :: rest, []⟩)) (I : L2.Inv X pins σ H s) (ha : SqT X.K H a xs) (d : Each D xs ts H) (hsz : base + (tupleText ts).length ≤ sizeLine) (hE : ∀ e s', X.xe e s' → R (.error e) s')
    (hR : ∀ u H' s', L2.Inv X pins σ H' s' → Ex H H' → R (.ok (.ret (.str (tupleText ts) u))) s') :
    wpOwn (model X.prog X.w) A (.builtin id ⟨.ref a :: rest, []⟩) (Builtin.tupleReprAt base ⟨[.ref a], []⟩) (fun fin s' => match fin with | .done f => R (.ok f) s' | .again c' => c'.quiet = true ∧ codeAny (model X.prog X.w) A c' R s') (fun e s' => R (.error e) s') s := by
  obtain ⟨its, rv, ⟨o, ho, hc, m, hd⟩, hz⟩ := I.tuple ha
  have hp := piled_le_tupleText ts
  have hlen : ts.length = its.toArray.size := by rw [List.size_toArray, ← rv.length]; exact d.1.symm
  rw [tuple_repr_tree, tupleReprUnderWay_eq]
  refine wpOwn_bind (wpOwn_stackTailAny hg (tupGuardF_off _) (tupGuardF_pos _) ?_)
  have hn : (g.any fun c => tupGuardF (.ref a) (c, default)) = false := by
    refine List.any_eq_false.mpr fun c hcm => ?_
    rw [tupGuardF_of_clear (hcl a hna) c hcm]
    exact Bool.false_ne_true
  rw [hn]
  refine wpOwn_of_wpAny ?_
  show wpAny _ _ (tupleReprRest base (.ref a)) _ _ s
  unfold tupleReprRest Builtin.Tuple.tupleItemsOf
  refine wpAny_bind (wpAny_bind (wpAny_seqItems ho hd (wpAny_pure ?_)))
  rw [← Array.forIn_toList]
  refine wpAny_bind (wpAny_mono (tup_fold h hm (c.room hr) (c.fr.trans hf) (guards_under_guard c.gd hg) (fun p hp => (hcl p fun q => hp (.tail _ q)).cons (a := a) fun q => hp (q ▸ .head _)) _ xs ts #[] base s H (by simpa using rv) d (by omega) I) (fun r s2 q => ?_) fun e s' q => hE e s' q)
  obtain ⟨rfl, H2, I2, e2⟩ := q
  have hsz0 : (tupleText ts).length ≤ sizeLine := by omega
  refine wpAny_bind (wpAny_mkStr (wpAny_pure ?_) (by simpa [tupleText, hlen] using hsz0))
  have h1 := hR s2.toks H2 { s2 with toks := s2.toks + 1 } (I2.kept (h' := s2.heap) fun _ _ z => z) e2
  simpa [tupleText, hlen] using h1
/-- tuples, item by item -/
def RTup (K : PySem.W.Frag) (D : Rpr) (as : List Addr) : Rpr := fun x t H => ∃ a xs ts, x = .ref a ∧ a ∉ as ∧ SqT K H a xs ∧ t = tupleText ts ∧ Each D xs ts H
theorem sqT_ex {K : PySem.W.Frag} {H H' : Hp} {a : Addr} {xs : List V} (h : SqT K H a xs) (e : Ex H H') : SqT K H' a xs := by
  rcases h with (h | ⟨o, h⟩) | h
  · exact .inl (.inl (e _ _ h))
  · exact .inl (.inr ⟨o, e _ _ h⟩)
  · exact .inr h
theorem mon_tup {K : PySem.W.Frag} (hD : Mon D) : Mon (RTup K D as) := fun x t H H' e ⟨a, xs, ts, hx, hn, h1, ht, p⟩ => ⟨a, xs, ts, hx, hn, sqT_ex h1 e, ht, p.mon hD e⟩
theorem rpG_tup (hm : Mon D) (h : ∀ a, RpG X n (a :: as) D) : RpG X (n + 1) as (RTup X.K D as) := by
  intro A g pins s σ H x u t b hr hf hg hc I r d hs
  obtain ⟨a, xs, ts, rfl, hna, ha, rfl, p⟩ := d
  cases r
  refine wpAny_pyReprUnder_ref (by omega) ?_
  obtain ⟨its, rv, ⟨o, ho, hcls, m, hd⟩, hz⟩ := I.tuple ha
  refine wpAny_pyReprObjUnder_twin (twin := "tuple.__repr__.under") ⟨o, ho, hcls⟩ F.slot_tuple_repr rfl hr.units0 ?_
  exact call_twin_own (F.quiet_tuple_repr_under _) F.entry_tuple_repr_under F.check_tuple_repr_under ⟨o, ho, hcls⟩ F.slot_tuple_repr (F.args_tuple_repr_1 _)
    (tup_at (R := callEnd _ X.xe) (h a) hm hr hf hg hc hna (tupC2 _ _) I ha p hs (fun e s' q => q) fun u H' s' I' e => ⟨⟨_, _, rfl⟩, _, _, rfl, rfl, H', I', e⟩)
/-- repr(x) of a tuple, where no repr is under way -/
theorem repr_tup (hm : Mon D) (h : ∀ a, RpG X n [a] D) (hg : X.A.guards = some []) (hr : Room (n + 2) X.A) :
    CallR X (.builtin "repr") (fun xs H Q => ∃ x t, xs = [x] ∧ RTup X.K D [] x t H ∧ t.length ≤ sizeLine ∧ ∀ H', Ex H H' → Q (.str t) H') := by
  intro pins s σ H xs us Q I r hq
  obtain ⟨x, t, rfl, ⟨a, xs, ts, rfl, hna, ha, rfl, p⟩, hs, q⟩ := hq
  obtain ⟨u, rfl, ru⟩ := vals1 r
  cases ru
  obtain ⟨its, rv, ⟨o, ho, hcls, m, hd⟩, hz⟩ := I.tuple ha
  refine call_repr_slot hr.in1.units0 ⟨o, ho, hcls⟩ F.slot_tuple_repr ?_
  exact wpAny_call (codeAny_call_builtin_own (Code.quiet_builtin _ (by decide +kernel)) F.entry_tuple_repr (F.slot_tuple_repr.check _ _ _ _ _ _ _ _ ⟨o, ho, hcls⟩ (F.args_tuple_repr_1 _)
    (tup_at (base := 0) (R := callEnd _ X.xe) (A := X.A.in1) (g := []) (h a) hm hr.in1 rfl hg (fun p _ => Clear.nil p) hna (tupC1 _ _) I ha p (by omega) (fun e s' q => q) fun u H' s' I' e => ⟨_, _, rfl, .str (tupleText ts), H', I', ⟨_, rfl⟩, q H' e⟩)))
end
end TzRepr
namespace Tz
open PySem L2
/-! ### mathematics: bits one by one -/
/-- the signs of the i lowest bits, the highest one first -/
def bt (v : Nat) : Nat → List Nat
  | 0 => []
  | i + 1 => (48 + v / 2 ^ i % 2) :: bt v i
theorem bt_len (v : Nat) : ∀ i, (bt v i).length = i
  | 0 => rfl
  | i + 1 => by rw [bt, List.length_cons, bt_len v i]
/-- what the signs are worth, read from the left -/
def worth (l : List Nat) : Nat := l.foldl (fun a c => 2 * a + (c - 48)) 0
theorem worth_go : ∀ (l : List Nat) (a : Nat), l.foldl (fun a c => 2 * a + (c - 48)) a = a * 2 ^ l.length + worth l
  | [], a => by
    show a = a * 2 ^ 0 + 0
    rw [Nat.pow_zero, Nat.mul_one, Nat.add_zero]
  | c :: l, a => by
    have e1 := worth_go l (2 * a + (c - 48))
    have e2 := worth_go l (2 * 0 + (c - 48))
    show l.foldl _ (2 * a + (c - 48)) = a * 2 ^ (l.length + 1) + l.foldl _ (2 * 0 + (c - 48))
    rw [e1, e2, Nat.pow_succ, Nat.add_mul, Nat.add_mul]
    have : 2 * a * 2 ^ l.length = a * (2 ^ l.length * 2) := by rw [Nat.mul_comm 2 a, Nat.mul_assoc, Nat.mul_comm 2]
    omega
theorem worth_app (l m : List Nat) : worth (l ++ m) = worth l * 2 ^ m.length + worth m := by
  show (l ++ m).foldl _ 0 = _
  rw [List.foldl_append, worth_go]
  rfl
theorem worth_bt (v : Nat) : ∀ i, worth (bt v i) = v % 2 ^ i
  | 0 => by rw [bt, Nat.pow_zero, Nat.mod_one]; rfl
  | i + 1 => by
    have e := worth_app [48 + v / 2 ^ i % 2] (bt v i)
    rw [List.singleton_append, worth_bt v i, bt_len] at e
    rw [bt, e, show worth [48 + v / 2 ^ i % 2] = v / 2 ^ i % 2 by show 2 * 0 + (48 + v / 2 ^ i % 2 - 48) = _; omega, Nat.pow_succ, Nat.mod_mul]
    rw [Nat.mul_comm]
    omega
theorem bt_drop (v : Nat) : ∀ (n s : Nat), s ≤ n → (bt v n).drop s = bt v (n - s)
  | n, 0, _ => by rw [List.drop_zero, Nat.sub_zero]
  | 0, s + 1, h => absurd h (Nat.not_succ_le_zero s)
  | n + 1, s + 1, h => by
    rw [bt, List.drop_succ_cons, bt_drop v n s (by omega), Nat.succ_sub_succ]
theorem bt_take (v : Nat) : ∀ (n s : Nat), s ≤ n → (bt v n).take s = bt (v / 2 ^ (n - s)) s
  | n, 0, _ => by rw [List.take_zero, bt]
  | 0, s + 1, h => absurd h (Nat.not_succ_le_zero s)
  | n + 1, s + 1, h => by
    have e : v / 2 ^ (n - s) / 2 ^ s = v / 2 ^ n := by
      rw [Nat.div_div_eq_div_mul, ← Nat.pow_add]
      congr 2
      omega
    rw [bt, List.take_succ_cons, bt_take v n s (by omega), Nat.succ_sub_succ]
    show _ = (48 + v / 2 ^ (n - s) / 2 ^ s % 2) :: bt (v / 2 ^ (n - s)) s
    rw [e]
/-- the bits turned by s places -/
theorem worth_turn {v n s : Nat} (h : s ≤ n) (hv : v < 2 ^ n) : worth ((bt v n).drop s ++ (bt v n).take s) = v % 2 ^ (n - s) * 2 ^ s + v / 2 ^ (n - s) := by
  have hlt : v / 2 ^ (n - s) < 2 ^ s := by
    rw [Nat.div_lt_iff_lt_mul (Nat.pow_pos (by decide)), ← Nat.pow_add]
    have : s + (n - s) = n := by omega
    rw [this]
    exact hv
  rw [worth_app, bt_drop v n s h, bt_take v n s h, worth_bt, worth_bt, bt_len, Nat.mod_eq_of_lt hlt]
theorem cr_turn {w s v : Nat} (_ : 1 ≤ w) (hs : s ≤ w) (hv : v < 2 ^ w) : cr w ((v : Int) * 2 ^ s) = ((v % 2 ^ (w - s) * 2 ^ s + v / 2 ^ (w - s) : Nat) : Int) := by
  by_cases v0 : v = 0
  · subst v0
    rw [Nat.zero_mod, Nat.zero_mul, Nat.zero_div]
    show cr w ((0 : Int) * 2 ^ s) = 0
    rw [Int.zero_mul, cr_zero]
  · have hp : (0 : Int) < 2 ^ s := Int.pow_pos (by decide)
    have e := Nat.div_add_mod v (2 ^ (w - s))
    generalize hlo : v % 2 ^ (w - s) = lo at e
    generalize hhi : v / 2 ^ (w - s) = hi at e
    have lo1 : lo < 2 ^ (w - s) := by rw [← hlo]; exact Nat.mod_lt _ (Nat.pow_pos (by decide))
    have hi1 : hi < 2 ^ s := by
      rw [← hhi, Nat.div_lt_iff_lt_mul (Nat.pow_pos (by decide)), ← Nat.pow_add]
      have : s + (w - s) = w := by omega
      rw [this]
      exact hv
    have ew : (2 : Nat) ^ (w - s) * 2 ^ s = 2 ^ w := by
      rw [← Nat.pow_add]
      congr 1
      omega
    have ewI : (2 : Int) ^ (w - s) * 2 ^ s = 2 ^ w := by
      have := congrArg (fun n : Nat => (n : Int)) ew
      simpa using this
    have b1 : lo * 2 ^ s + hi < 2 ^ w := by
      have : (lo + 1) * 2 ^ s ≤ 2 ^ (w - s) * 2 ^ s := Nat.mul_le_mul_right _ (by omega)
      rw [ew, Nat.add_mul, Nat.one_mul] at this
      omega
    have b0 : 1 ≤ lo * 2 ^ s + hi := by
      by_cases z : hi = 0
      · subst z
        have : lo ≠ 0 := fun q => by
          subst q
          rw [Nat.mul_zero, Nat.add_zero] at e
          exact v0 e.symm
        have := Nat.mul_pos (Nat.pos_of_ne_zero this) (Nat.pow_pos (n := s) (show 0 < 2 by decide))
        omega
      · omega
    have c1 : ((lo * 2 ^ s + hi : Nat) : Int) ≤ mw w := by
      have : ((2 ^ w : Nat) : Int) = 2 ^ w := by rw [Int.natCast_pow] <;> rfl
      unfold mw
      omega
    refine cr_eq (q := (hi : Int)) (Int.mul_pos (by omega) hp) (by omega) c1 ?_
    have ev : (v : Int) = 2 ^ (w - s) * (hi : Int) + (lo : Int) := by
      have := congrArg (fun n : Nat => (n : Int)) e
      simpa using this.symm
    rw [ev, Int.add_mul, Int.mul_right_comm, ewI]
    unfold mw
    rw [Int.sub_mul, Int.one_mul]
    have : ((lo * 2 ^ s + hi : Nat) : Int) = (lo : Int) * 2 ^ s + (hi : Int) := by simp
    omega
/-- a whole turn changes nothing -/
theorem cr_round {w : Nat} (h : 1 ≤ w) {v : Int} (h0 : 0 ≤ v) : ∀ q : Nat, cr w (v * 2 ^ (w * q)) = cr w v
  | 0 => by rw [Nat.mul_zero, Int.pow_zero, Int.mul_one]
  | q + 1 => by
    have ih := cr_round h h0 q
    by_cases v0 : v = 0
    · subst v0
      rw [Int.zero_mul]
    · have vp : 0 < v * 2 ^ (w * q) := Int.mul_pos (by omega) (Int.pow_pos (by decide))
      have e : v * 2 ^ (w * (q + 1)) = v * 2 ^ (w * q) + mw w * (v * 2 ^ (w * q)) := by
        rw [Nat.mul_succ, Int.pow_add, ← Int.mul_assoc]
        generalize v * 2 ^ (w * q) = x
        unfold mw
        rw [Int.sub_mul, Int.one_mul, Int.mul_comm]
        omega
      obtain ⟨r, hr⟩ := cr_ex (w := w) _ vp
      rw [← ih]
      have np : 0 < v * 2 ^ (w * (q + 1)) := Int.mul_pos (by omega) (Int.pow_pos (by decide))
      refine cr_eq (q := r + v * 2 ^ (w * q)) np (cr_pos h vp) (cr_bd h _).2 ?_
      rw [e, Int.mul_add]
      conv => lhs; lhs; rw [hr]
      omega
theorem cr_far {w : Nat} (h : 1 ≤ w) {v : Int} (h0 : 0 ≤ v) (t : Nat) : cr w (v * 2 ^ (t % w)) = cr w (v * 2 ^ t) := by
  have e : v * 2 ^ t = v * 2 ^ (t % w) * 2 ^ (w * (t / w)) := by
    rw [Int.mul_assoc, ← Int.pow_add, Nat.mod_add_div]
  rw [e, cr_round h (Int.mul_nonneg h0 (two_pow_nn _))]
theorem or_and_xor (x y : Int) : Builtin.bitOr x y - Builtin.bitAnd x y = Builtin.bitXor x y := by
  rw [PyProof.Rows.bitXor_and, PyProof.Rows.bitOr_and]
  omega
theorem xor_bd {w : Nat} {x y : Int} (hx : 0 ≤ x) (hx1 : x ≤ mw w) (hy : 0 ≤ y) (hy1 : y ≤ mw w) : 0 ≤ Builtin.bitXor x y ∧ Builtin.bitXor x y ≤ mw w := by
  rw [Bits.bitXor_pp hx hy]
  have e : ((2 ^ w : Nat) : Int) = 2 ^ w := by rw [Int.natCast_pow] <;> rfl
  have := Nat.xor_lt_two_pow (x := x.toNat) (y := y.toNat) (n := w) (by unfold mw at hx1; omega) (by unfold mw at hy1; omega)
  unfold mw
  omega
theorem xor_comm (x y : Int) : Builtin.bitXor x y = Builtin.bitXor y x := by
  rw [PyProof.Rows.bitXor_and, PyProof.Rows.bitXor_and, PyProof.Rows.bitAnd_comm]
  omega
theorem sum_spec {w : Nat} (h : 1 ≤ w) {a b : Int} (a0 : 0 ≤ a) (a1 : a ≤ mw w) (b0 : 0 ≤ b) (b1 : b ≤ mw w) : (if a + b ≤ mw w then a + b else a + b - mw w) = cr w (a + b) := by
  have hm := mw_pos h
  split
  · rw [cr_self (by omega) (by omega)]
  · exact (cr_eq (q := 1) (by omega) (by omega) (by omega) (by omega)).symm
theorem rest_eq {w : Nat} (h : 1 ≤ w) {v : Int} (v0 : 0 ≤ v) (v1 : v ≤ mw w) : v % mw w = if v = mw w then 0 else v := by
  have hm := mw_pos h
  split
  · rename_i e
    rw [e, Int.emod_self]
  · exact Int.emod_eq_of_lt v0 (by omega)
/-! ### promises -/
def spXor (C : Addr) : Sp := fun vs H Q _ => ∃ x y, ∃ w : Nat, ∃ u v : Int, vs = [.ref x, .ref y] ∧ WordAt C H x w u ∧ WordAt C H y w v ∧ NewW C w (Builtin.bitXor u v) H Q
def spXorI (C : Addr) : Sp := fun vs H Q _ => ∃ x, ∃ w : Nat, ∃ u n : Int, vs = [.ref x, .int n] ∧ WordAt C H x w u ∧ 0 ≤ n ∧ n ≤ mw w ∧ NewW C w (Builtin.bitXor u n) H Q
def spOperandI (C : Addr) : Sp := fun vs H Q _ => ∃ x, ∃ w : Nat, ∃ u n : Int, vs = [.ref x, .int n] ∧ WordAt C H x w u ∧ 0 ≤ n ∧ n ≤ mw w ∧ Q (.int n) H
def spFoundI : Sp := fun vs H Q _ => ∃ w : Nat, ∃ n : Int, vs = [.int w, .int n] ∧ 1 ≤ w ∧ w ≤ 64 ∧ 0 ≤ n ∧ n ≤ mw w ∧ Q (.int n) H
def spLikeI (C : Addr) : Sp := fun vs H Q _ => ∃ x, ∃ w : Nat, ∃ u n : Int, vs = [.ref x, .int n] ∧ WordAt C H x w u ∧ 0 ≤ n ∧ n ≤ mw w ∧ Q (.bl (decide (u % mw w = n % mw w))) H
def spShrI (C : Addr) : Sp := fun vs H Q _ => ∃ x, ∃ w : Nat, ∃ u k : Int, vs = [.ref x, .int k] ∧ WordAt C H x w u ∧ 0 ≤ k ∧ k ≤ 1000000000000000000000000000000 ∧ NewW C w (cr w (u * 2 ^ (-k % w).toNat)) H Q
/-- the distance of the rest from 0 -/
def far (w : Nat) (u : Int) : Int := if u % mw w < mw w - u % mw w then u % mw w else mw w - u % mw w
def spAbs (C : Addr) : Sp := fun vs H Q _ => ∃ x, ∃ w : Nat, ∃ u : Int, vs = [.ref x] ∧ WordAt C H x w u ∧ Q (.int (far w u)) H
def spIs (C : Addr) : Sp := fun vs H Q _ => ∃ x, ∃ w : Nat, ∃ u : Int, vs = [.ref x, .int w, .int u] ∧ WordAt C H x w u ∧ Q (.bl true) H
def spSum : Sp := fun vs H Q _ => ∃ w : Nat, ∃ a b : Int, vs = [.int w, .int a, .int b] ∧ 1 ≤ w ∧ w ≤ 64 ∧ 0 ≤ a ∧ a ≤ mw w ∧ 0 ≤ b ∧ b ≤ mw w ∧ Q (.int (cr w (a + b))) H
def spMultiple : Sp := fun vs H Q _ => ∃ w : Nat, ∃ v k : Int, vs = [.int w, .int v, .int k] ∧ 1 ≤ w ∧ w ≤ 64 ∧ 0 ≤ v ∧ v ≤ mw w ∧ 0 ≤ k ∧ Q (.int (cr w (k * v))) H
def spLawTurned : Sp := fun vs H Q _ => ∃ w : Nat, ∃ v n : Int, vs = [.int w, .int v, .int n] ∧ 1 ≤ w ∧ w ≤ 64 ∧ 0 ≤ v ∧ v ≤ mw w ∧ Q (.int (cr w (v * 2 ^ (n % w).toNat))) H
def spLawTimes : Sp := fun vs H Q _ => ∃ z c cells t, ∃ w : Nat, vs = [.ref z, .int w] ∧ PenAt H z c cells t ∧ t ≤ 90000 ∧ 1 ≤ w ∧ w ≤ 64 ∧
  ∀ n H', 0 ≤ n → n ≤ 1000000000000000000000000000000 → PenAt H' z c cells (t + 3) → Fw z H H' → Q (.int n) H'
def spRight4 : Sp := fun vs H Q _ => ∃ w : Nat, ∃ v b k : Int, vs = [.int w, .int v, .int b, .int k] ∧ 1 ≤ w ∧ w ≤ 64 ∧ 0 ≤ v ∧ v ≤ mw w ∧ 0 ≤ b ∧ b ≤ mw w ∧ 0 ≤ k ∧ k ≤ 1000000000000000000000000000000 ∧ ∀ H', Ex H H' → Q (.bl true) H'
def spLaw (K : PySem.W.Frag) : Sp := fun vs H Q _ => ∃ (a : Addr) (ns : List Int), vs = [.ref a] ∧ SqL K H a (ns.map V.int) ∧ ns.length ≤ 63 ∧ ∀ H', Q (.bl true) H'
theorem kit_no {K : PySem.W.Frag} {T : String} {C : Addr} (h : PySem.W.subIn K (.type T) (.ref C) = some false) (hc : PySem.W.isClsIn K C = true) (ht : PySem.W.typeIn K (.ref C) = some (.type "type")) : PySem.W.kitOne K (.type T) (.ref C) = some false := by
  have ne : ¬ (Value.type T == Value.ref C) = true := fun q => by cases beq_iff_eq.mp q
  unfold PySem.W.kitOne
  rw [if_neg ne]
  unfold PySem.W.kitCls
  have hs : (PySem.W.clsIn K C).isSome = true := hc
  dsimp only
  rw [ht, hs, h]
  rfl
theorem shown4 {n : Int} {a b c : Bool} (h0 : 0 ≤ n) (h1 : n < 18446744073709551616) : (PyData.list [.int n, .bool a, .bool b, .bool c]).showable = true ∧ (PyData.list [.int n, .bool a, .bool b, .bool c]).hasDict = false ∧
    (PyData.list [.int n, .bool a, .bool b, .bool c]).depth ≤ 60 ∧ (PyData.list [.int n, .bool a, .bool b, .bool c]).shown.length ≤ sizeLine := by
  have l2 : n.natAbs.log2 < 1920 := by
    have : n.natAbs < 2 ^ 64 := by omega
    have := PySem.Flt.log2_lt_of (by decide) this
    omega
  refine ⟨?_, rfl, by simp [PyData.depth, PyData.depthAll], ?_⟩
  · simp [PyData.showable, PyData.showableAll, l2]
  · have sh : (PyData.shown (.int n)).length ≤ 21 := by
      rw [PyData.shown_int]
      exact PyProof.Rows.toString_length_le h0 (k := 20) (by decide) (by omega) |> fun h => Nat.le_trans h (by decide)
    have := PyData.shown_le_bulk 21 (by decide) (.list [.int n, .bool a, .bool b, .bool c]) (by simp [PyData.leavesShort, PyData.leavesShortAll, sh])
    refine Nat.le_trans this ?_
    show (21 + 2) * (0 + 1 + (0 + 1 + (0 + 1 + (0 + 1 + 0)))) + 21 ≤ sizeLine
    decide
/-! ### texts of bits -/
theorem bit_text {b : Nat} (h : b < 2) (l : List Nat) : ((toString ((b : Nat) : Int) : String) : Str) ++ SX.S l = SX.S ((48 + b) :: l) := by
  have e : ((toString ((b : Nat) : Int) : String) : Str) = SX.S [48 + b] := by
    match b, h with
    | 0, _ => rfl
    | 1, _ => rfl
  rw [e, SX.S_cat, List.singleton_append]
theorem bit_sign {c : Nat} (h : c = 48 ∨ c = 49) : PySem.intText? (SX.S [c]) = some (((c - 48 : Nat) : Nat) : Int) := by
  rcases h with rfl | rfl
  · exact SX.int_S (a := [48]) (by decide) (by decide) (by decide)
  · exact SX.int_S (a := [49]) (by decide) (by decide) (by decide)
theorem bt_mem {v : Nat} : ∀ {i c : Nat}, c ∈ bt v i → c = 48 ∨ c = 49
  | 0, c, h => by cases h
  | i + 1, c, h => by
    rcases List.mem_cons.mp h with h | h
    · have := Nat.mod_lt (v / 2 ^ i) (show 0 < 2 by decide)
      omega
    · exact bt_mem h
theorem worth_take {l : List Nat} {i c : Nat} (h : l[i]? = some c) : worth (l.take (i + 1)) = 2 * worth (l.take i) + (c - 48) := by
  have hi := (List.getElem?_eq_some_iff.mp h).1
  have e := (List.getElem?_eq_some_iff.mp h).2
  rw [List.take_succ_eq_append_getElem hi, e, worth_app]
  show worth (l.take i) * 2 ^ 1 + (2 * 0 + (c - 48)) = _
  omega
/-- one doubling -/
theorem cr_double {w : Nat} (h : 1 ≤ w) {f d q : Int} (f0 : 0 ≤ f) (d0 : 0 ≤ d) (q0 : 0 ≤ q) : cr w (f + cr w (d + d) * q) = cr w (f + (d + d) * q) := by
  have a := cr_add h (a := (d + d) * q) (b := f) (Int.mul_nonneg (by omega) q0) f0
  have b := cr_add h (a := cr w (d + d) * q) (b := f) (Int.mul_nonneg (cr_bd h _).1 q0) f0
  have c := cr_mul h (k := q) (a := d + d) q0 (by omega)
  rw [Int.mul_comm q, Int.mul_comm q] at c
  rw [Int.add_comm f, ← b, c, a, Int.add_comm f]
end Tz
namespace Tz
open PySem PyProof.Rows L2
def spAddI (C : Addr) : Sp := fun vs H Q _ => ∃ x, ∃ w : Nat, ∃ u n : Int, vs = [.ref x, .int n] ∧ WordAt C H x w u ∧ 0 ≤ n ∧ n ≤ mw w ∧ NewW C w (cr w (u + n)) H Q
def spRAddI (C : Addr) : Sp := fun vs H Q _ => ∃ x, ∃ w : Nat, ∃ u n : Int, vs = [.ref x, .int n] ∧ WordAt C H x w u ∧ 0 ≤ n ∧ n ≤ mw w ∧ NewW C w (cr w (n + u)) H Q
def spSubI (C : Addr) : Sp := fun vs H Q _ => ∃ x, ∃ w : Nat, ∃ u n : Int, vs = [.ref x, .int n] ∧ WordAt C H x w u ∧ 0 ≤ n ∧ n ≤ mw w ∧ NewW C w (cr w (u + (mw w - n))) H Q
def spRSubI (C : Addr) : Sp := fun vs H Q _ => ∃ x, ∃ w : Nat, ∃ u n : Int, vs = [.ref x, .int n] ∧ WordAt C H x w u ∧ 0 ≤ n ∧ n ≤ mw w ∧ NewW C w (cr w (n + (mw w - u))) H Q
/-! ### repr of words -/
def wtext (w : Nat) (u : Int) : Str := ((((Str.empty ++ ("Word(" : Str)) ++ ((toString (w : Int) : String) : Str)) ++ (", " : Str)) ++ ((toString u : String) : Str)) ++ (")" : Str)
def WText (C : Addr) : Addr → Str → Hp → Prop := fun a t H => ∃ w u, WordAt C H a w u ∧ t = wtext w u
theorem mon_words {C : Addr} : TzRepr.Mon (TzRepr.RIns C (WText C)) := fun _ _ _ _ e ⟨a, dx, fs, hx, ha, w, u, W, ht⟩ => ⟨a, dx, fs, hx, e _ _ ha, w, u, W.ex e, ht⟩
theorem int20 {n : Int} (h0 : 0 ≤ n) (h1 : n < 18446744073709551616) : ((toString n : String) : Str).length ≤ 21 :=
  Nat.le_trans (PyProof.Rows.toString_length_le h0 (k := 20) (by decide) (by omega)) (by decide)
theorem wtext_len {w : Nat} {u : Int} (hw : w ≤ 64) (h0 : 0 ≤ u) (h1 : u < 18446744073709551616) : (wtext w u).length ≤ 60 := by
  have a := int20 (n := (w : Int)) (by omega) (by omega)
  have b := int20 h0 h1
  have e0 : (Str.empty : Str).length = 0 := rfl
  have e1 : ("Word(" : Str).length = 5 := rfl
  have e2 : (", " : Str).length = 2 := rfl
  have e3 : (")" : Str).length = 1 := rfl
  unfold wtext
  rw [strLen_append, strLen_append, strLen_append, strLen_append, strLen_append, e0, e1, e2, e3]
  omega
theorem words2_len {a b : Str} (ha : a.length ≤ 60) (hb : b.length ≤ 60) : (listText [a, b]).length ≤ sizeLine := by
  have := textFrom_len_le [a, b] 0 "["
  have e : (listText [a, b]).length = (textFrom 0 "[" [a, b]).length + 1 := by
    show (textFrom 0 "[" [a, b] ++ "]").length = _
    rw [strLen_append]; rfl
  have e1 : ("[" : Str).length = 1 := rfl
  have e2 : (([a, b].map (·.length)).sum) = a.length + (b.length + 0) := rfl
  have e3 : [a, b].length = 2 := rfl
  refine Nat.le_trans (show _ ≤ 200 by omega) (by decide)
theorem each2 {C a b : Addr} {H : Hp} {w w' : Nat} {u v : Int} (Wa : WordAt C H a w u) (Wb : WordAt C H b w' v) : TzRepr.Each (TzRepr.RIns C (WText C)) [.ref a, .ref b] [wtext w u, wtext w' v] H := by
  obtain ⟨da, ha⟩ := Wa.ob
  obtain ⟨db, hb⟩ := Wb.ob
  refine ⟨rfl, fun i x t h1 h2 => ?_⟩
  match i with
  | 0 =>
    cases h1
    cases h2
    exact ⟨a, da, _, rfl, ha, w, u, Wa, rfl⟩
  | 1 =>
    cases h1
    cases h2
    exact ⟨b, db, _, rfl, hb, w', v, Wb, rfl⟩
  | i + 2 => simp at h1
/-! ### promises -/
def spInPlace (C : Addr) : Sp := fun vs H Q _ => ∃ x y, ∃ w : Nat, ∃ u v : Int, vs = [.ref x, .ref y] ∧ WordAt C H x w u ∧ WordAt C H y w v ∧
  ∀ l p q H', Ex H H' → H' l = some (.lst [.ref p, .ref q]) → WordAt C H' p w (cr w (u + v)) → WordAt C H' q w (cr w (u + (mw w - v))) → Q (.ref l) H'
def spInPlaceI (C : Addr) : Sp := fun vs H Q _ => ∃ x, ∃ w : Nat, ∃ u v : Int, vs = [.ref x, .int v] ∧ WordAt C H x w u ∧ 0 ≤ v ∧ v ≤ mw w ∧
  ∀ l p q H', Ex H H' → H' l = some (.lst [.ref p, .ref q]) → WordAt C H' p w (cr w (u + v)) → WordAt C H' q w (cr w (u + (mw w - v))) → Q (.ref l) H'
def spApart (C : Addr) : Sp := fun vs H Q _ => ∃ x y, ∃ w : Nat, ∃ u v : Int, vs = [.ref x, .ref y] ∧ WordAt C H x w u ∧ WordAt C H y w v ∧ ∀ H', Ex H H' → Q (.bl true) H'
def spApartI (C : Addr) : Sp := fun vs H Q _ => ∃ x, ∃ w : Nat, ∃ u v : Int, vs = [.ref x, .int v] ∧ WordAt C H x w u ∧ 0 ≤ v ∧ v ≤ mw w ∧ ∀ H', Ex H H' → Q (.bl true) H'
def spRight3 : Sp := fun vs H Q _ => ∃ w : Nat, ∃ u v : Int, vs = [.int w, .int u, .int v] ∧ 1 ≤ w ∧ w ≤ 64 ∧ 0 ≤ u ∧ u ≤ mw w ∧ 0 ≤ v ∧ v ≤ mw w ∧ ∀ H', Ex H H' → Q (.bl true) H'
end Tz
namespace Tz
open PySem PySem.Spec PyProof.Rows L2 TzF TzRepr
/-! ### things of all sorts -/
/-- a thing by its tag: a word, or no word -/
inductive Kd (C : Addr) (H : Hp) : V → Tag → Prop where
  | non : Kd C H .non .non
  | bl (b : Bool) : Kd C H (.bl b) .bl
  | int (i : Int) : Kd C H (.int i) .int
  | str (z : Str) : Kd C H (.str z) .str
  | lst {a : Addr} {xs : List V} (h : H a = some (.lst xs)) : Kd C H (.ref a) .lst
  | tup {a : Addr} {xs : List V} (h : H a = some (.tup xs)) : Kd C H (.ref a) .tup
  | dic {a : Addr} {kvs : List (Key × V)} (h : H a = some (.dK kvs)) : Kd C H (.ref a) .dic
  | own {a : Addr} {w : Nat} {u : Int} (W : WordAt C H a w u) : Kd C H (.ref a) .own
section
variable {K : PySem.W.Frag} {C : Addr} {H H' : Hp} {y : V} {g : Tag}
theorem Kd.step (k : Kd C H y g) (e : ∀ a o, H a = some o → (∀ ps, o ≠ .tbl ps) → y = .ref a → H' a = some o) : Kd C H' y g := by
  cases k with
  | non => exact .non
  | bl b => exact .bl b
  | int i => exact .int i
  | str z => exact .str z
  | lst h => exact .lst (e _ _ h (fun _ z => by cases z) rfl)
  | tup h => exact .tup (e _ _ h (fun _ z => by cases z) rfl)
  | dic h => exact .dic (e _ _ h (fun _ z => by cases z) rfl)
  | own W =>
    obtain ⟨⟨dx, h1⟩, h2, h3, h4, h5⟩ := W
    exact .own ⟨⟨dx, e _ _ h1 (fun _ z => by cases z) rfl⟩, h2, h3, h4, h5⟩
theorem Kd.ex (k : Kd C H y g) (e : Ex H H') : Kd C H' y g := k.step fun a o h _ _ => e a o h
theorem Kd.tyx (A : Alone K C) (cl : Cls K C) (k : Kd C H y g) : TyX K H y (g.ty C) := by
  cases k with
  | non => exact .base .non
  | bl b => exact .base (.bl b)
  | int i => exact .base (.int i)
  | str z => exact .base (.str z)
  | lst h => exact .base (.lst h)
  | tup h => exact .base (.tup h)
  | dic h => exact .base (.dK h)
  | own W =>
    obtain ⟨⟨dx, h1⟩, _⟩ := W
    exact .base (.ins h1 cl A.ha A.hn A.ht A.hm)
theorem Kd.int_of (k : Kd C H y .int) : ∃ n, y = .int n := by
  cases k
  exact ⟨_, rfl⟩
theorem Kd.own_of (k : Kd C H y .own) : ∃ a w u, y = .ref a ∧ WordAt C H a w u := by
  cases k
  exact ⟨_, _, _, rfl, by assumption⟩
/-- isinstance(y, T), T one of the seven | the own class -/
theorem Kd.isi {Q : VK} {T : String} (A : Alone K C) (cl : Cls K C) (k : Kd C H y g) (hT : T ∈ seven) (q : Q (.bl (g.is T)) H) : rIsi K [y, .ty T] H Q :=
  ⟨_, _, _, _, _, rfl, .ty T, k.tyx A cl, g.kit A hT, q⟩
theorem Kd.isiC {Q : VK} (A : Alone K C) (cl : Cls K C) (k : Kd C H y g) (q : Q (.bl (decide (g = .own))) H) : rIsi K [y, .ref C] H Q :=
  ⟨_, _, _, _, _, rfl, .own C, k.tyx A cl, g.kitC A, q⟩
end
/-! ### what stands beside a word of the width w -/
inductive Res where
  | val (v : Int) | unlike (w : Nat) | bad
inductive Side (C : Addr) (H : Hp) (w : Nat) : V → Res → Prop where
  | word {b : Addr} {v : Int} (W : WordAt C H b w v) : Side C H w (.ref b) (.val v)
  | int {n : Int} (h0 : 0 ≤ n) (h1 : n ≤ mw w) : Side C H w (.int n) (.val n)
  | unlike {b : Addr} {w' : Nat} {v : Int} (W : WordAt C H b w' v) (ne : w' ≠ w) : Side C H w (.ref b) (.unlike w')
  | bad {y : V} {g : Tag} (k : Kd C H y g) (ng : g ≠ .own) (no : ∀ n, y = .int n → ¬ (0 ≤ n ∧ n ≤ mw w)) : Side C H w y .bad
section
variable {C : Addr} {H H' : Hp} {w : Nat} {y : V} {r : Res}
theorem Side.step (k : Side C H w y r) (e : ∀ a o, H a = some o → (∀ ps, o ≠ .tbl ps) → y = .ref a → H' a = some o) : Side C H' w y r := by
  cases k with
  | word W =>
    obtain ⟨⟨dx, h1⟩, h2, h3, h4, h5⟩ := W
    exact .word ⟨⟨dx, e _ _ h1 (fun _ z => by cases z) rfl⟩, h2, h3, h4, h5⟩
  | int h0 h1 => exact .int h0 h1
  | unlike W ne =>
    obtain ⟨⟨dx, h1⟩, h2, h3, h4, h5⟩ := W
    exact .unlike ⟨⟨dx, e _ _ h1 (fun _ z => by cases z) rfl⟩, h2, h3, h4, h5⟩ ne
  | bad k ng no => exact .bad (k.step e) ng no
theorem Side.ex (k : Side C H w y r) (e : Ex H H') : Side C H' w y r := k.step fun a o h _ _ => e a o h
theorem Side.kd (k : Side C H w y r) : ∃ g, Kd C H y g := by
  cases k with
  | word W => exact ⟨_, .own W⟩
  | int _ _ => exact ⟨_, .int _⟩
  | unlike W _ => exact ⟨_, .own W⟩
  | bad k _ _ => exact ⟨_, k⟩
theorem Side.val_bd {v : Int} (k : Side C H w y (.val v)) : 0 ≤ v ∧ v ≤ mw w := by
  cases k with
  | word W => exact ⟨W.v0, W.vm⟩
  | int h0 h1 => exact ⟨h0, h1⟩
end
/-! ### errors on their way -/
/-- an error of the class X with these fields leaves -/
def Flies (X : Addr) (fs : List (Str × V)) (H : Hp) (E : XK) : Prop := ∀ d H', Ex H H' → H' d = some (.xd fs) → E (.ref X) (some d) H'
theorem Flies.ex {X : Addr} {fs : List (Str × V)} {H H' : Hp} {E : XK} (f : Flies X fs H E) (e : Ex H H') : Flies X fs H' E := fun d H2 e2 h => f d H2 (e.trans e2) h
/-- by the answer: the value goes on, or an error leaves -/
def Got (B U : Addr) (w : Nat) (y : V) (r : Res) (H : Hp) (E : XK) (q : Int → Prop) : Prop := match r with
  | .val v => q v
  | .unlike w' => Flies U [("other", .int w'), ("one", .int w)] H E
  | .bad => Flies B [("value", y)] H E
/-- __init__ of an error with one field, with two -/
def spErr1 (C : Addr) (f : Str) : Sp := fun vs H Q _ => ∃ a v, vs = [.ref a, v] ∧ H a = some (exo a C none) ∧
  ∀ dx, H dx = none → dx ≠ a → Q .non (upd (upd H dx (exd dx [(f, v)])) a (exo a C (some dx)))
def spErr2 (C : Addr) (f g : Str) : Sp := fun vs H Q _ => ∃ a u v, vs = [.ref a, u, v] ∧ H a = some (exo a C none) ∧
  ∀ dx, H dx = none → dx ≠ a → Q .non (upd (upd (upd H dx (exd dx [(f, u)])) a (exo a C (some dx))) dx (exd dx [(g, v), (f, u)]))
/-- what the making of an error asks -/
def MkErr (C : Addr) (sp : Sp) (vs : List V) (H1 : Hp) (Q : XK) : Prop := vs.length ≤ 1000 ∧ ∀ a, H1 a = none → sp (.ref a :: (vs ++ [])) (upd H1 a (exo a C none))
  (fun v H2 => v = .non ∧ ∃ (d : Addr) (fs : List (Str × V)), H2 a = some (exo a C (some d)) ∧ H2 d = some (exd d fs) ∧ H1 d = none ∧ Q (.ref C) (some d) (upd (del H2 a) d (.xd fs))) (fun _ _ _ => False)
section
variable {C : Addr} {f g : Str} {u v : V} {H1 : Hp} {Q : XK}
theorem err1 (k : Flies C [(f, v)] H1 Q) : MkErr C (spErr1 C f) [v] H1 Q := by
  refine ⟨by show 1 ≤ 1000; decide, fun a na => ⟨a, v, rfl, upd_same, fun dx ndx hne => ⟨rfl, dx, [(f, v)], upd_same, by rw [upd_ne hne, upd_same], ?_, k dx _ (fun b o q => ?_) upd_same⟩⟩⟩
  · rw [upd_ne hne] at ndx
    exact ndx
  · have h1 : b ≠ a := ne_of_none q na
    have h2 : b ≠ dx := fun z => by
      rw [z] at q
      rw [upd_ne hne] at ndx
      rw [ndx] at q
      cases q
    rw [upd_ne h2, del_ne h1, upd_ne h1, upd_ne h2, upd_ne h1]
    exact q
theorem err2 (k : Flies C [(g, v), (f, u)] H1 Q) : MkErr C (spErr2 C f g) [u, v] H1 Q := by
  refine ⟨by show 2 ≤ 1000; decide, fun a na => ⟨a, u, v, rfl, upd_same, fun dx ndx hne => ⟨rfl, dx, [(g, v), (f, u)], by rw [upd_ne hne.symm, upd_same], upd_same, ?_, k dx _ (fun b o q => ?_) upd_same⟩⟩⟩
  · rw [upd_ne hne] at ndx
    exact ndx
  · have h1 : b ≠ a := ne_of_none q na
    have h2 : b ≠ dx := fun z => by
      rw [z] at q
      rw [upd_ne hne] at ndx
      rw [ndx] at q
      cases q
    rw [upd_ne h2, del_ne h1, upd_ne h2, upd_ne h1, upd_ne h2, upd_ne h1]
    exact q
end
/-! ### repr of things -/
/-- the empty dict -/
def RDic : Rpr := fun x t H => ∃ a, x = .ref a ∧ H a = some (.dK []) ∧ t = "{}"
theorem mon_dic : Mon RDic := fun _ _ _ _ e ⟨a, h1, h2, h3⟩ => ⟨a, h1, e _ _ h2, h3⟩
theorem mon_str : Mon RStr := fun _ _ _ _ _ d => d
theorem rpG_dic {X : Cx} {as : List Addr} : RpG X 1 as (fun x t H => RDic x t H ∧ ∀ a ∈ as, x ≠ .ref a) := by
  intro A g pins s σ H x u t b hr hf hg hc I r d hs
  obtain ⟨⟨a, rfl, ha, rfl⟩, na⟩ := d
  cases r
  have off : a ∉ as := fun z => na a z rfl
  obtain ⟨_, hsys, us, kv, o, es, ep, h1, h2, h3, h4⟩ := (show ObjOk X.prog X.w H s.heap a (.dK []) from I.hok a _ ha)
  have e0 : us = [] := List.length_eq_zero_iff.mp (by
    have := Paired.length kv
    simpa using this.symm)
  subst e0
  have e1 : es.toList = [] := by
    have h5 := h4.2.1
    cases q : es.toList with
    | nil => rfl
    | cons y l =>
      rw [q] at h5
      cases h5
  have e2 : dictText [] = ("{}" : Str) := by decide +kernel
  refine wpAny_pyReprUnder_ref (by rw [e2] at *; omega) (wpAny_pyReprObjUnder_dictK (as := as.filter fun _ => false) (h₀ := s.heap) (d := 0) (ps := []) h1 h2.1 h3 hsys (by simp) (by rw [e1]; exact .nil) hg (fun p hp => ?_) (by have := hr.un; have := hr.units0; omega) (fun _ _ q => q) (fun h' v tk hk => ?_) (by rw [e2]; omega))
  · rcases List.mem_cons.mp hp with rfl | z
    · exact hc _ off
    · simp at z
  · rw [e2]
    exact ⟨_, _, rfl, rfl, H, I.kept hk, fun _ _ q => q⟩
/-- a thing that is told without what stands in it | with it; beside p -/
def Flat (C : Addr) : Rpr := fun x t H => RFlat x t H ∨ (RStr x t H ∨ RIns C (WText C) x t H)
def Thg (K : PySem.W.Frag) (C p : Addr) : Rpr := fun x t H => Flat C x t H ∨ ((RDic x t H ∧ ∀ a ∈ [p], x ≠ .ref a) ∨ (RList (Flat C) [p] x t H ∨ RTup K (Flat C) [p] x t H))
theorem mon_Flat {C : Addr} : Mon (Flat C) := mon_flat.or (mon_str.or mon_words)
theorem mon_Thg {K : PySem.W.Frag} {C p : Addr} : Mon (Thg K C p) := mon_Flat.or (Mon.or (fun x t H H' e d => ⟨mon_dic x t H H' e d.1, d.2⟩) ((mon_list mon_Flat).or (mon_tup mon_Flat)))
/-- a thing's text, wherever it will stand -/
def Shown (C : Addr) (H : Hp) (y : V) (t : Str) : Prop := Flat C y t H ∨ (RDic y t H ∨ ((∃ l xs ts, y = .ref l ∧ H l = some (.lst xs) ∧ t = listText ts ∧ Each (Flat C) xs ts H) ∨ ∃ l xs ts, y = .ref l ∧ H l = some (.tup xs) ∧ t = tupleText ts ∧ Each (Flat C) xs ts H))
theorem Shown.ex {C : Addr} {H H' : Hp} {y : V} {t : Str} (s : Shown C H y t) (e : Ex H H') : Shown C H' y t := by
  rcases s with s | s | ⟨l, xs, ts, h1, h2, h3, h4⟩ | ⟨l, xs, ts, h1, h2, h3, h4⟩
  · exact .inl (mon_Flat _ _ _ _ e s)
  · exact .inr (.inl (mon_dic _ _ _ _ e s))
  · exact .inr (.inr (.inl ⟨l, xs, ts, h1, e _ _ h2, h3, h4.mon mon_Flat e⟩))
  · exact .inr (.inr (.inr ⟨l, xs, ts, h1, e _ _ h2, h3, h4.mon mon_Flat e⟩))
theorem Shown.at {K : PySem.W.Frag} {C p : Addr} {H : Hp} {y : V} {t : Str} (s : Shown C H y t) (np : H p = none) : Thg K C p y t H := by
  rcases s with s | ⟨a, h1, h2, h3⟩ | ⟨l, xs, ts, h1, h2, h3, h4⟩ | ⟨l, xs, ts, h1, h2, h3, h4⟩
  · exact .inl s
  · refine .inr (.inl ⟨⟨a, h1, h2, h3⟩, fun b hb z => ?_⟩)
    rw [List.mem_singleton.mp hb, h1] at z
    have e : a = p := by cases z; rfl
    rw [e, np] at h2
    cases h2
  · exact .inr (.inr (.inl ⟨l, xs, ts, h1, fun z => ne_of_none h2 np (List.mem_singleton.mp z), h2, h3, h4⟩))
  · exact .inr (.inr (.inr ⟨l, xs, ts, h1, fun z => ne_of_none h2 np (List.mem_singleton.mp z), .inl (.inl h2), h3, h4⟩))
section
variable {X : Cx} {D : Rpr}
/-- repr(x) of a tuple, told for just this one -/
theorem repr_tupA {n : Nat} {D : Addr → Rpr} (hm : ∀ a, Mon (D a)) (h : ∀ a, RpG X n [a] (D a)) (hg : X.A.guards = some []) (hr : Room (n + 2) X.A) :
    CallR X (.builtin "repr") (fun xs H Q => ∃ a ys ts, xs = [.ref a] ∧ SqT X.K H a ys ∧ Each (D a) ys ts H ∧ (tupleText ts).length ≤ sizeLine ∧ ∀ H', Ex H H' → Q (.str (tupleText ts)) H') := by
  intro pins s σ H xs us Q I r hq
  obtain ⟨a, ys, ts, rfl, ha, p, hs, q⟩ := hq
  obtain ⟨u, rfl, ru⟩ := vals1 r
  cases ru
  obtain ⟨its, rv, ⟨o, ho, hcls, m, hd⟩, hz⟩ := I.tuple ha
  refine call_repr_slot hr.in1.units0 ⟨o, ho, hcls⟩ F.slot_tuple_repr ?_
  exact wpAny_call (codeAny_call_builtin_own (Code.quiet_builtin _ (by decide +kernel)) F.entry_tuple_repr (F.slot_tuple_repr.check _ _ _ _ _ _ _ _ ⟨o, ho, hcls⟩ (F.args_tuple_repr_1 _)
    (tup_at (base := 0) (R := callEnd _ X.xe) (A := X.A.in1) (g := []) (as := []) (h a) (hm a) hr.in1 rfl hg (fun p _ => Clear.nil p) (fun z => by cases z) (tupC1 _ _) I ha p (by omega) (fun e s' q => q) fun u H' s' I' e => ⟨_, _, rfl, .str (tupleText ts), H', I', ⟨_, rfl⟩, q H' e⟩)))
theorem rpG_Thg {CX : CXT} {C f : Addr} {fd : FuncData} {ps : List Str} {E : XK} (F : FnOk X.prog X.w X.K X.mg X.base CX 1 f fd ps (spRepr (WText C))) (M : Meth X.K C "__repr__" f) (hb : Binds X.K fd ps []) (hx : Passes CX X E) (p : Addr) : RpG X 3 [p] (Thg X.K C p) := by
  have fl : ∀ as, RpG X 1 as (Flat C) := fun as => (rpG_flat.mono (by decide)).or ((rpG_str.mono (by decide)).or (rpG_ins F M hb hx))
  exact ((fl _).mono (by decide)).or ((rpG_dic.mono (by decide)).or (((rpG_list mon_Flat fun a => fl _).mono (by decide)).or ((rpG_tup mon_Flat fun a => fl _).mono (by decide))))
end
/-! ### texts that are short -/
theorem ln_eq {a b : Str} (e : a = b) : a.length = b.length := by rw [e]
theorem short_tup {ts : List Str} (h : ∀ t ∈ ts, t.length ≤ 10000) (n : ts.length ≤ 100) : (tupleText ts).length ≤ sizeLine := by
  have key : ∀ l : List Str, (∀ t ∈ l, t.length ≤ 10000) → (l.map (·.length)).sum ≤ 10000 * l.length := by
    intro l
    induction l with
    | nil => intro _; exact Nat.le_refl 0
    | cons a r ih =>
      intro hl
      have h1 := hl a List.mem_cons_self
      have h2 := ih fun t ht => hl t (List.mem_cons_of_mem _ ht)
      rw [List.map_cons, List.sum_cons, List.length_cons]
      omega
  have h1 := tupleText_len_le ts
  have h2 := key ts h
  exact Nat.le_trans (show _ ≤ 2000000 by omega) (by decide)
end Tz
namespace Tz
open PySem PySem.Spec PyProof.Rows L2 TzF TzRepr
section
variable {X : Cx} {CX : CXT} {C f : Addr} {fd : FuncData} {ps : List Str} {sp : Sp} {E : XK} {k : Nat} {pins : List (Addr × Obj)} {σ : L2.St} {H : Hp} {s : Shared} {y : V} {u : Value} {g : Tag}
theorem obj_ty {M : Model} {h : Heap} {a : Addr} {o : Obj} {c : Value} (e : h.get? a = some o) (hc : o.cls = c) : PySem.W.Looks M h (typeOf (.ref a)) c := fun A Q E s keeps q => wpAny_typeOf_ref (keeps _ _ e) (by rw [hc]; exact q)
/-- the type of a thing is looked up -/
theorem Kd.looks (I : L2.Inv X pins σ H s) (r : RelV y u) (d : Kd C H y g) : PySem.W.Looks (model X.prog X.w) s.heap (typeOf u) (g.ty C) := by
  cases d with
  | non =>
    cases r
    exact .of_pure rfl
  | bl b =>
    cases r
    exact .of_pure rfl
  | int i =>
    obtain ⟨t, rfl⟩ := r
    exact .of_pure rfl
  | str z =>
    obtain ⟨t, rfl⟩ := r
    exact .of_pure rfl
  | @lst a xs h =>
    cases r
    obtain ⟨_, its, n, _, e⟩ := (show ObjOk X.prog X.w H s.heap a (.lst xs) from I.hok a _ h)
    exact obj_ty e rfl
  | @tup a xs h =>
    cases r
    obtain ⟨_, its, _, o, e, hc, _⟩ := (show ObjOk X.prog X.w H s.heap a (.tup xs) from I.hok a _ h)
    exact obj_ty e hc
  | @dic a kvs h =>
    cases r
    obtain ⟨_, _, us, _, o, es, ep, e, hc, _⟩ := (show ObjOk X.prog X.w H s.heap a (.dK kvs) from I.hok a _ h)
    exact obj_ty e hc.1
  | own W =>
    cases r
    obtain ⟨dx, h⟩ := W.ob
    obtain ⟨od, J⟩ := TzOwn.inst_at I h
    exact J.type
end
section
open PySem.W
variable {prog : Program} {w : World} {A : Around} {E : Value → Shared → Prop} {s : Shared} {K : Frag} {x C f L : Addr} {ox : Obj} {od : Option Obj} {h0 : Heap} {m : Str → Option Value} {T : String}
/-- an instance with its own method, beside a value of a built-in type -/
theorem bin_any {op : Operator} {b : Value} {fo ro rc : Option Value} {Q : Value → Shared → Prop} (R : Fr h0 L s.heap m) (KI : K.In h0) (I : InstAt s.heap x ox C od) (tb : Looks (model prog w) s.heap (typeOf b) (.type T)) (first : selfFirst K C = true)
    (own : findIn K (.ref C) (PySem.dunder op.info.2) = some (some (.ref f))) (fn : isFn K (.ref f) = true) (refl : findIn K (.ref C) (dunderR op.info.2) = some rc) (form : rc = none ∨ ∃ g : Addr, rc = some (.ref g))
    (t1 : findIn K (.type T) (PySem.dunder op.info.2) = some fo) (t2 : findIn K (.type T) (dunderR op.info.2) = some ro) (apart : subIn K (.type T) (.ref C) = some false)
    (h : wpAny (model prog w) A (call (.ref f) [.ref x, b]) (PySem.W.CmpBack Q) E s) : wpAny (model prog w) A (binaryOp op (.ref x) b) Q E s := by
  have KS := KI.keeps R.keep
  obtain ⟨cd, more, ecd, em⟩ := ksp_first first
  rcases ei : op.info with ⟨sy, nm⟩
  rw [ei] at own refl t1 t2
  dsimp only at own refl t1 t2
  have one := ksp_try KS I own fn h
  obtain ⟨hp, gs, dr, tk, os⟩ := s
  have a1 : Looks (model prog w) hp (typeOf (.ref x)) (.ref C) := I.type
  have a2 : Looks (model prog w) hp (fillsNumberSlot (.ref C) nm) true := fills_K KS ecd em own
  have a3 : Looks (model prog w) hp (fillsNumberSlot (.type T) nm) ((fo.isSome && !isSeqSlot fo) || (ro.isSome && !isSeqSlot ro)) := ksp_fillsT KS t1 t2
  have a4 : Looks (model prog w) hp (isSubtype (.type T) (.ref C)) false := looks_subIn KS apart
  have a5 : Looks (model prog w) hp (numberSlotInPython (.ref C) nm) true := ksp_inPy KS own refl form
  have a6 : Looks (model prog w) hp (numberSlotInPython (.type T) nm) false := Looks.of_pure rfl
  have a7 : Looks (model prog w) hp (typeLookup (.type T) (dunderR nm)) ro := looks_findIn KS t2
  generalize ((fo.isSome && !isSeqSlot fo) || (ro.isSome && !isSeqSlot ro)) = both at a3
  have unlike : (Value.ref C == Value.type T) = false := Bool.eq_false_iff.mpr fun q => by cases beq_iff_eq.mp q
  simp only [binaryOp, ei]
  refine wpAny_holding (wpAny_bind ?_)
  unfold binaryOp1
  refine wpAny_bind (a1.at (wpAny_bind (tb.at (wpAny_bind (a2.at ?_)))))
  simp only [unlike, Bool.false_eq_true, if_false]
  cases both with
  | false =>
    ksp_lk
    refine wpAny_mono one (fun r s2 q => ?_) fun _ _ e => e
    obtain ⟨v, rfl, q⟩ := q
    ksp_lk
    exact q
  | true =>
    ksp_lk
    refine wpAny_mono one (fun r s2 q => ?_) fun _ _ e => e
    obtain ⟨v, rfl, q⟩ := q
    ksp_lk
    exact q
end
section
variable {X : Cx} {CX : CXT} {C f : Addr} {fd : FuncData} {ps : List Str} {sp : Sp} {E : XK} {k : Nat}
/-- a word beside any thing -/
def rOwnA (C : Addr) (sp : Sp) (E : XK) : R2 := fun x y H Q => ∃ a dx fs g, x = .ref a ∧ H a = some (.ins C dx fs) ∧ Kd C H y g ∧ sp [.ref a, y] H Q E
theorem op_ownA {op : Operator} {nm nr : Str} (F : FnOk X.prog X.w X.K X.mg X.base CX k f fd ps sp) (hr : Room k X.A) (M : Meth X.K C nm f) (hn : PySem.dunder op.info.2 = nm) (A : Alone X.K C) (hb : Binds X.K fd ps []) (hx : Passes CX X E)
    (hnr : dunderR op.info.2 = nr) (hc : ∃ g : Addr, PySem.W.findIn X.K (.ref C) nr = some (some (.ref g))) (h1 : knownB X.K nm = true) (h2 : knownB X.K nr = true) : OpR X (binaryOp op) (rOwnA C sp E) := by
  intro pins s σ H x y v u Q I rx ry h
  obtain ⟨a, dx, fs, g, rfl, ha, d, q⟩ := h
  obtain ⟨fr, hc⟩ := hc
  cases rx
  obtain ⟨od, J⟩ := TzOwn.inst_at I ha
  obtain ⟨m, hF⟩ := I.fr
  have back : wpAny (model X.prog X.w) X.A (call (.ref f) [.ref a, u]) (PySem.W.CmpBack (EP X pins σ Q)) X.xe s := thn (run_fn (us := [.ref a, u]) (vs := [.ref a, y]) F hr hb .nil hx I (.cons rfl (.cons ry .nil)) q) fun _ _ z => TzOwn.back_cmp z
  have tb := d.looks I ry
  by_cases hg : g = .own
  · subst hg
    exact PySem.W.binop_K hF I.ok.mod.kin J tb A.sf (hn ▸ M.at_) M.fn back
  · have e : g.ty C = .type g.nm := by cases g <;> first | rfl | exact absurd rfl hg
    rw [e] at tb
    obtain ⟨fo, ho⟩ := known_ok h1 (Tag.mem hg)
    obtain ⟨ro, hro⟩ := known_ok h2 (Tag.mem hg)
    exact bin_any hF I.ok.mod.kin J tb A.sf (hn ▸ M.at_) M.fn (hnr ▸ hc) (.inr ⟨fr, rfl⟩) (hn ▸ ho) (hnr ▸ hro) (A.to _ (Tag.mem hg)) back
theorem cmp_ownA {op : CmpOp} {nm : Str} (F : FnOk X.prog X.w X.K X.mg X.base CX k f fd ps sp) (hr : Room k X.A) (M : Meth X.K C nm f) (hn : (cmpInfo op).2.1 = nm) (ho : compareOp op = richCompare op) (hb : Binds X.K fd ps []) (hx : Passes CX X E) (A : Alone X.K C) : OpR X (compareOp op) (rOwnA C sp E) := by
  intro pins s σ H x y v u Q I rx ry h
  obtain ⟨a, dx, fs, g, rfl, ha, d, q⟩ := h
  cases rx
  obtain ⟨od, J⟩ := TzOwn.inst_at I ha
  obtain ⟨m, hF⟩ := I.fr
  rw [ho]
  refine PySem.W.cmp_K (op := op) (tb := g.ty C) hr.units0 hF I.ok.mod.kin J (d.looks I ry) ?_ (hn ▸ M.at_) M.fn ?_
  · unfold PySem.W.notFirst
    by_cases hg : g = .own
    · subst hg
      show (Value.ref C == Value.ref C || _) = true
      rw [beq_self_eq_true, Bool.true_or]
    · have e : g.ty C = .type g.nm := by cases g <;> first | rfl | exact absurd rfl hg
      rw [e, A.to _ (Tag.mem hg)]
      simp
  · exact thn (run_fn (us := [.ref a, u]) (vs := [.ref a, y]) F hr hb .nil hx I (.cons rfl (.cons ry .nil)) q) fun _ _ z => TzOwn.back_cmp z
end
end Tz
namespace Tz
open PySem PySem.Spec PyProof.Rows L2 TzF TzRepr
theorem weak {P : Program} {w : World} {K : PySem.W.Frag} {mg : Str → Option Value} {base : Heap} {CX : CXT} {k : Nat} {f : Addr} {fd : FuncData} {ps : List Str} {sp sp' : Sp} (F : FnOk P w K mg base CX k f fd ps sp) (h : ∀ vs H Q E, sp' vs H Q E → sp vs H Q E) : FnOk P w K mg base CX k f fd ps sp' :=
  ⟨fun vs H Q E q => F.len vs H Q E (h _ _ _ _ q), fun A out s H args us vs Q E hr en bn r q => F.run A out s H args us vs Q E hr en bn r (h _ _ _ _ q)⟩
/-! ### promises for things of all sorts -/
def Tag.whole : Tag → Bool
  | .int => true
  | _ => false
def spWhole (C : Addr) : Sp := fun vs H Q _ => ∃ y g, vs = [y] ∧ Kd C H y g ∧ Q (.bl (Tag.whole g)) H
def spFrom (C : Addr) : Sp := fun vs H Q _ => ∃ y g, ∃ lo hi : Int, vs = [y, .int lo, .int hi] ∧ Kd C H y g ∧ ∀ b : Bool, (b = true ↔ ∃ n, y = .int n ∧ lo ≤ n ∧ n ≤ hi) → Q (.bl b) H
def spFound (C : Addr) : Sp := fun vs H Q _ => ∃ w : Nat, ∃ y r, vs = [.int w, y] ∧ 1 ≤ w ∧ w ≤ 64 ∧ Side C H w y r ∧ match r with
  | .val v => Q (.int v) H
  | _ => Q .non H
def spCheckedX (C B : Addr) : Sp := fun vs H Q E => ∃ w : Nat, ∃ y r, vs = [.int w, y] ∧ 1 ≤ w ∧ w ≤ 64 ∧ Side C H w y r ∧ match r with
  | .val v => Q (.int v) H
  | _ => Flies B [("value", y)] H E
def spOperandX (C B U : Addr) : Sp := fun vs H Q E => ∃ x y, ∃ w : Nat, ∃ u r, vs = [.ref x, y] ∧ WordAt C H x w u ∧ Side C H w y r ∧ Got B U w y r H E fun v => Q (.int v) H
def spAddX (C B U : Addr) : Sp := fun vs H Q E => ∃ x y, ∃ w : Nat, ∃ u r, vs = [.ref x, y] ∧ WordAt C H x w u ∧ Side C H w y r ∧ Got B U w y r H E fun v => NewW C w (cr w (u + v)) H Q
def spSubX (C B U : Addr) : Sp := fun vs H Q E => ∃ x y, ∃ w : Nat, ∃ u r, vs = [.ref x, y] ∧ WordAt C H x w u ∧ Side C H w y r ∧ Got B U w y r H E fun v => NewW C w (cr w (u + (mw w - v))) H Q
end Tz
namespace Tz
open PySem PySem.Spec PyProof.Rows L2 TzF TzRepr
/-! ### def f(a, *r): called by place, or f(a = e) -/
def StarW (sp : Sp) : Sp := fun vs H Q E => ∃ v more, vs = v :: more ∧ more.length ≤ 1000 ∧ ∀ p, H p = none → sp [v, .ref p] (upd H p (.tup more)) Q E
structure Star1 (P : Program) (w : World) (K : PySem.W.Frag) (mg : Str → Option Value) (base : Heap) (CX : CXT) (k : Nat) (f : Addr) (p1 : Str) (sp : Sp) : Prop where
  pos : FnR P w K mg base CX k f (StarW sp)
  key : ∀ (A : Around) (out : List Env) (s : Shared) (H : Hp) (u : Value) (v : V) (Q : VK) (E : XK), Room k A → Env0 P w K mg base A out s H → RelV v u → StarW sp [v] H Q E → codeAny (model P w) A (.call (.ref f) ⟨[], [(p1, u)]⟩) (CR CX out P w H s Q E) s
theorem star1 {P : Program} {w : World} {K : PySem.W.Frag} {mg : Str → Option Value} {base : Heap} {CX : CXT} {k : Nat} {f : Addr} {fd : FuncData} {x qual p1 pr : Str} {st : Stmt} {N : List Str} {sp : Sp} (F : Fun K x qual st f fd) (S : FnScope N [p1, pr] (defScope st)) (up : StX.CXUp CX)
    (b0 : ∀ (kV doc pm : Value) (an : Option Addr) (cdv ct a : Value), bindArgs (PySem.W.fnOf x qual (defArgs st) (defBody st) (defScope st) .none kV doc pm an cdv ct) ⟨[a], []⟩ = (newTuple [] >>= fun t => pure [(p1, a), (pr, t)]))
    (b1 : ∀ (kV doc pm : Value) (an : Option Addr) (cdv ct a b : Value) (bs : List Value), bindArgs (PySem.W.fnOf x qual (defArgs st) (defBody st) (defScope st) .none kV doc pm an cdv ct) ⟨a :: b :: bs, []⟩ = (newTuple (b :: bs) >>= fun t => pure [(p1, a), (pr, t)]))
    (bk : ∀ (kV doc pm : Value) (an : Option Addr) (cdv ct a : Value), bindArgs (PySem.W.fnOf x qual (defArgs st) (defBody st) (defScope st) .none kV doc pm an cdv ct) ⟨[], [(p1, a)]⟩ = (newTuple [] >>= fun t => pure [(p1, a), (pr, t)]))
    (body : ∀ (cdv : Value) (A : Around) (out : List Env) (s : Shared) (H : Hp) (vs : List V) (Q : VK) (E : XK), Room k (A.deeper (envOfC qual (defScope st) s.heap.objs.size f cdv)) → sp vs H Q E →
      ∃ t, PSs (cxOf CX P w K mg base N qual (defScope st) f cdv A out s H E) (defBody st) t ∧ t { nx := fun _ J => Q .non J, rt := Q } (start N vs) H) : Star1 P w K mg base CX (k + 1) f p1 sp := by
  obtain ⟨oc, od, kV, doc, pm, an, cdv, ct, osl, rfl, lk, code⟩ := F.ex
  refine ⟨fun A out s H us vs Q E hr en r h => ?_, fun A out s H u v Q E hr en r h => ?_⟩
  · obtain ⟨v, more, rfl, small, go⟩ := h
    have all := StX.fn_star (CX := CX) (base := base) (mg := mg) (P := P) (w := w) (ps := [p1]) (pv := pr) (sp := sp) (k := k) lk code S up (fun us rest e => by
      match us, rest, e with
      | [a], [], _ => exact b0 kV doc pm an cdv ct a
      | [a], b :: bs, _ => exact b1 kV doc pm an cdv ct a b bs) (fun A out s H vs Q E hr h => body cdv A out s H vs Q E hr h)
    exact all A out s H us _ Q E hr en r ⟨[v], more, rfl, rfl, Nat.le_trans small (by decide), go⟩
  · obtain ⟨v', more, e, _, go⟩ := h
    cases e
    have hn : H s.heap.objs.size = none := en.hok.fresh (Nat.le_refl _)
    have new : ObjOk P w (upd H s.heap.objs.size (.tup [])) (s.heap.push ({ cls := .type "tuple", data := .seq ([] : List Value).toArray } : Obj)) s.heap.objs.size (.tup []) := ⟨Nat.zero_le _, [], .nil, ⟨_, Heap.get?_push_size _ rfl, rfl, _, rfl⟩⟩
    have un := StX.un_laid (fs := frs out) (s := s) (o := ({ cls := .type "tuple", data := .seq ([] : List Value).toArray } : Obj)) (u := .tup []) hn
    refine StX.run_bnd (N := N) (ps := [p1, pr]) lk code S hr en (G := fun xs H2 => ∃ p, H p = none ∧ xs = [v, .ref p] ∧ H2 = upd H p (.tup [])) (fun A' Ex Q' q => ?_) fun s2 H2 xs ⟨p, np, e1, e2⟩ hr' => ?_
    · rw [bk]
      refine wpAny_bind (wpAny_newTuple (wpAny_pure ?_) (Nat.zero_le _))
      exact q _ _ [v, .ref s.heap.objs.size] [u, .ref s.heap.objs.size] (StX.env0_laid en new) un rfl (fun e s' => up out s H _ _ E e s' un (fun b o z => Heap.get?_push_of_some _ z) rfl) (.cons r (.cons rfl .nil)) rfl ⟨_, hn, rfl, rfl⟩
    · subst e1 e2
      exact body cdv A out s2 _ _ Q E hr' (go p np)
section
variable {X : Cx} {CX : CXT} {k : Nat} {f : Addr} {p1 x : Str} {sp : Sp} {E : XK} {e : Expr} {es : List Expr} {te : TE} {t : TA} {p pos kp : Pos}
/-- f(e, ..) -/
theorem pe_star (F : Star1 X.prog X.w X.K X.mg X.base CX k f p1 sp) (hr : Room k X.A) (gl : Gl X x) (hm : X.mg x = some (.ref f)) (hk : PySem.W.keepIn X.K (.ref f) = true) (hx : Passes CX X E) (ha : PA X (e :: es) t)
    (hst : starEach (e :: es) X.env = (false, eval e X.env) :: starEach es X.env := by rfl) (hpl : (backTo pos (starEach es X.env)).any (·.1) = false := by rfl) (hdb : (x == ("__debug__" : Str)) = false := by decide) :
    PE X (.Call (.Name x p) (e :: es) [] pos) (fun σ H Q => t σ H fun vs H1 => StarW sp vs H1 Q E) :=
  ⟨fun pins s σ H Q I h => wpAny_Call_Name_kw (ld_glob I gl hm (PySem.W.callWith_K (h₀ := X.base) I.ok.mod.kin hk (thn (ha.run pos pins s σ H _ I h) fun us s1 ⟨vs, H1, I1, r, q⟩ => ⟨I1.kIn, wpAny_call (run_fnR F.pos hr hx I1 r q)⟩) hst hpl) hdb)⟩
/-- f(a = e) -/
theorem pe_starK (F : Star1 X.prog X.w X.K X.mg X.base CX k f p1 sp) (hr : Room k X.A) (gl : Gl X x) (hm : X.mg x = some (.ref f)) (hk : PySem.W.keepIn X.K (.ref f) = true) (hx : Passes CX X E) (he : PE X e te)
    (hall : (backToKw pos (keywordEach [⟨some p1, e, kp⟩] X.env)).all (·.1.isSome) = true := by rfl) (hks : (backToKw pos (keywordEach [⟨some p1, e, kp⟩] X.env)).filterMap (·.1) = [p1] := by rfl)
    (hpl : ((backTo pos (starEach [] X.env)).any (·.1) || (backToKw pos (keywordEach [⟨some p1, e, kp⟩] X.env)).any (·.1.isNone)) = false := by rfl) (hdb : (x == ("__debug__" : Str)) = false := by decide) :
    PE X (.Call (.Name x p) [] [⟨some p1, e, kp⟩] pos) (fun σ H Q => te σ H fun v H1 => ∃ v', [v] = [v'] ∧ StarW sp [v'] H1 Q E) := by
  refine ⟨fun pins s σ H Q I h => ?_⟩
  refine wpAny_Call_Name_kw (ld_glob I gl hm ?_ hdb)
  refine PySem.W.callWith_KW0 (first := []) (h₀ := X.base) I.ok.mod.kin hk hall (thn ((pk_cons (kpos := kp) (nm := some p1) he pk_nil).run pos pins s σ H (fun zs H1 => ∃ v, zs = [v] ∧ StarW sp [v] H1 Q E) I h) fun ws s2 ⟨zs, H2, I2, rz, v, ez, q⟩ => ⟨I2.kIn, ?_⟩) hpl
  subst ez
  obtain ⟨u, rfl, ru⟩ := vals1 rz
  rw [hks]
  refine wpAny_call (codeAny_mono (F.key X.A X.stack s2 H2 u v Q E hr I2.env0 ru q) fun r s' hq => ?_)
  cases r with
  | error er => exact hx _ σ H2 s2 er s' I2 hq
  | ok fl =>
    cases fl with
    | ret w' => exact I2.after hq
    | next => exact False.elim hq
    | brk => exact False.elim hq
    | cont => exact False.elim hq
end
end Tz
namespace Tz
open PySem PySem.Spec PyProof.Rows L2 TzF TzRepr
/-! ### what a call does is heard: a tuple tells it -/
theorem pe_up {X : Cx} {e : Expr} {t : TE} (h : PE X e t) : PE X e (fun σ H Q => ∃ Q0 : VK, t σ H Q0 ∧ ∀ v J, Q0 v J → Q v J) :=
  ⟨fun pins s σ H Q I ⟨Q0, q, up⟩ => wpAny_mono (h.run pins s σ H Q0 I q) (fun u s' ⟨v, J, I', r, z⟩ => ⟨v, J, I', r, up v J z⟩) fun _ _ z => z⟩
/-- the tuple at p is new -/
def Tup (H : Hp) (ys : List V) (Q : VK) : Prop := ∀ p H', H p = none → Ex H H' → H' p = some (.tup ys) → Q (.ref p) H'
def Catch1 (X : Addr) (f tag : Str) (Q : VK) : XK := fun k d H => k = .ref X ∧ ∃ dd v, d = some dd ∧ H dd = some (.xd [(f, v)]) ∧ Tup H [.str tag, v] Q
def Catch2 (X : Addr) (f g tag : Str) (Q : VK) : XK := fun k d H => k = .ref X ∧ ∃ dd u v, d = some dd ∧ H dd = some (.xd [(g, v), (f, u)]) ∧ Tup H [.str tag, u, v] Q
theorem Tup.go {H : Hp} {ys : List V} {Q : VK} {p : Addr} (h : Tup H ys Q) (np : H p = none) : Q (.ref p) (upd H p (.tup ys)) := h p _ np (Ex.new np) upd_same
/-- one field of a caught error -/
theorem xf1 {H : Hp} {a dd X : Addr} {k : Value} {d : Option Addr} {f : Str} {v : V} {Q : VK} (e1 : k = .ref X) (e2 : d = some dd) (h : H dd = some (.xd [(f, v)])) (q : Q v H) :
    V.ref a = .ref a ∧ k = .ref X ∧ ∃ (z : Addr) (fs : List (Str × V)) (y : V), d = some z ∧ H z = some (.xd fs) ∧ fs.lookup f = some y ∧ Q y H := ⟨rfl, e1, dd, _, v, e2, h, by simp [List.lookup], q⟩
theorem xf2 {H : Hp} {a dd X : Addr} {k : Value} {d : Option Addr} {f g n : Str} {u v y : V} {Q : VK} (e1 : k = .ref X) (e2 : d = some dd) (h : H dd = some (.xd [(g, v), (f, u)])) (hl : List.lookup n [(g, v), (f, u)] = some y) (q : Q y H) :
    V.ref a = .ref a ∧ k = .ref X ∧ ∃ (z : Addr) (fs : List (Str × V)) (y : V), d = some z ∧ H z = some (.xd fs) ∧ fs.lookup n = some y ∧ Q y H := ⟨rfl, e1, dd, _, y, e2, h, hl, q⟩
/-! ### all but z, and but the tables, is as it was -/
def Go (z : Addr) (H H' : Hp) : Prop := ∀ a o, a ≠ z → (∀ ps, o ≠ .tbl ps) → H a = some o → H' a = some o
section
variable {z c a x : Addr} {H H1 H2 : Hp} {C : Addr} {w : Nat} {u : Int} {cells : List Int} {t : Nat}
theorem Go.refl : Go z H H := fun _ _ _ _ h => h
theorem Go.trans (a : Go z H H1) (b : Go z H1 H2) : Go z H H2 := fun x o n m h => b x o n m (a x o n m h)
theorem Fw.go (f : Fw z H H1) : Go z H H1 := fun a o n _ h => f a o n h
theorem Ex.go (f : Ex H H1) : Go z H H1 := fun a o _ _ h => f a o h
theorem Go.ext (f : LamX.ExtN H H1) : Go z H H1 := fun a o _ m h => f a o h m
theorem PenAt.ext (h : PenAt H z c cells t) (e : LamX.ExtN H H1) : PenAt H1 z c cells t := by
  obtain ⟨⟨i, l, h1, h2⟩, h3, h4, h5⟩ := h
  exact ⟨⟨i, l, e _ _ h1 (fun _ q => by cases q), h2⟩, e _ _ h3 (fun _ q => by cases q), h4, h5⟩
theorem WordAt.go (h : WordAt C H x w u) (g : Go z H H1) (n : x ≠ z) : WordAt C H1 x w u := by
  obtain ⟨⟨dx, h1⟩, h2, h3, h4, h5⟩ := h
  exact ⟨⟨dx, g _ _ n (fun _ q => by cases q) h1⟩, h2, h3, h4, h5⟩
theorem WordAt.ext (h : WordAt C H x w u) (e : LamX.ExtN H H1) : WordAt C H1 x w u := by
  obtain ⟨⟨dx, h1⟩, h2, h3, h4, h5⟩ := h
  exact ⟨⟨dx, e _ _ h1 (fun _ q => by cases q)⟩, h2, h3, h4, h5⟩
theorem PenAt.isl (h : PenAt H z c cells t) : ∃ xs, H z = some (.lst xs) := by
  obtain ⟨⟨i, l, h1, _⟩, _⟩ := h
  exact ⟨_, h1⟩
theorem tabs_go {T : List (Addr × Str)} (h : LamX.Tabs T H) (f : Fw z H H1) (hz : ∃ xs, H z = some (.lst xs)) : LamX.Tabs T H1 := fun p hp => by
  obtain ⟨xs, hz⟩ := hz
  obtain ⟨ps, h1, h2, h3⟩ := h p hp
  refine ⟨ps, f _ _ (ne_of h1 hz (by intro q; cases q)) h1, h2, fun pos cv hc => ?_⟩
  obtain ⟨c, e1, e2⟩ := h3 pos cv hc
  exact ⟨c, e1, f _ _ (ne_of e2 hz (by intro q; unfold LamX.CodeO at q; cases q)) e2⟩
end
/-! ### a thing beside the pen, its text known -/
theorem Flat.go {C z : Addr} {H H1 : Hp} {y : V} {t : Str} (s : Flat C y t H) (g : Go z H H1) (hz : ∃ xs, H z = some (.lst xs)) : Flat C y t H1 := by
  rcases s with s | s | ⟨a, dx, fs, h1, h2, w, u, W, h3⟩
  · exact .inl s
  · exact .inr (.inl s)
  · obtain ⟨xs, hz⟩ := hz
    have n : a ≠ z := ne_of h2 hz (by intro q; cases q)
    exact .inr (.inr ⟨a, dx, fs, h1, g _ _ n (fun _ q => by cases q) h2, w, u, W.go g n, h3⟩)
theorem Shown.go {C z : Addr} {H H1 : Hp} {y : V} {t : Str} (s : Shown C H y t) (g : Go z H H1) (hz : ∃ xs, H z = some (.lst xs)) (n : y ≠ .ref z) : Shown C H1 y t := by
  have each : ∀ {xs : List V} {ts : List Str}, Each (Flat C) xs ts H → Each (Flat C) xs ts H1 := fun p => ⟨p.1, fun i x t h1 h2 => (p.2 i x t h1 h2).go g hz⟩
  rcases s with s | ⟨a, h1, h2, h3⟩ | ⟨l, xs, ts, h1, h2, h3, h4⟩ | ⟨l, xs, ts, h1, h2, h3, h4⟩
  · exact .inl (s.go g hz)
  · exact .inr (.inl ⟨a, h1, g _ _ (fun q => n (by rw [h1, q])) (fun _ q => by cases q) h2, h3⟩)
  · exact .inr (.inr (.inl ⟨l, xs, ts, h1, g _ _ (fun q => n (by rw [h1, q])) (fun _ q => by cases q) h2, h3, each h4⟩))
  · exact .inr (.inr (.inr ⟨l, xs, ts, h1, g _ _ (fun q => n (by rw [h1, q])) (fun _ q => by cases q) h2, h3, each h4⟩))
theorem two_each {D : Rpr} {H : Hp} {a b : V} {t u : Str} (h1 : D a t H) (h2 : D b u H) : Each D [a, b] [t, u] H := ⟨rfl, fun i x s e1 e2 => by
  match i with
  | 0 => cases e1; cases e2; exact h1
  | 1 => cases e1; cases e2; exact h2
  | i + 2 => simp at e1⟩
theorem three_each {D : Rpr} {H : Hp} {a b c : V} {t u v : Str} (h1 : D a t H) (h2 : D b u H) (h3 : D c v H) : Each D [a, b, c] [t, u, v] H := ⟨rfl, fun i x s e1 e2 => by
  match i with
  | 0 => cases e1; cases e2; exact h1
  | 1 => cases e1; cases e2; exact h2
  | 2 => cases e1; cases e2; exact h3
  | i + 3 => simp at e1⟩
end Tz
namespace Tz
open PySem PySem.Spec PyProof.Rows L2 TzF TzRepr
def TTH (HE : VK → XK) : (XK → Hp → VK → Prop) → Hp → VK → Prop := fun tl H Q => ∀ H0, Ex H H0 → tl (HE Q) H0 (fun v H1 => Tup H1 [.str "made", v] Q)
def HE3 (B1 B2 U : Addr) (Q : VK) : XK := fun k d H => Catch1 B1 "width" "width" Q k d H ∨ (Catch1 B2 "value" "word" Q k d H ∨ Catch2 U "one" "other" "unlike" Q k d H)
section
variable {B1 B2 U : Addr} {Q : VK} {H : Hp} {y : V} {w w' : Int}
theorem fly_width (h : ∀ H1, Ex H H1 → Tup H1 [.str "width", y] Q) : Flies B1 [("width", y)] H (HE3 B1 B2 U Q) := fun d H' e q => .inl ⟨rfl, d, y, rfl, q, h H' e⟩
theorem fly_value (h : ∀ H1, Ex H H1 → Tup H1 [.str "word", y] Q) : Flies B2 [("value", y)] H (HE3 B1 B2 U Q) := fun d H' e q => .inr (.inl ⟨rfl, d, y, rfl, q, h H' e⟩)
theorem fly_unlike (h : ∀ H1, Ex H H1 → Tup H1 [.str "unlike", .int w, .int w'] Q) : Flies U [("other", .int w'), ("one", .int w)] H (HE3 B1 B2 U Q) := fun d H' e q => .inr (.inr ⟨rfl, d, _, _, rfl, q, h H' e⟩)
end
/-! ### totals of things -/
abbrev Itm := V × Res × Str
inductive Out where
  | made (v : Int) | word (y : V) (tx : Str) | unlike (w : Nat)
def outc (w : Nat) : Int → List Itm → Out
  | s, [] => .made s
  | s, (_, .val v, _) :: l => outc w (cr w (s + v)) l
  | _, (_, .unlike w', _) :: _ => .unlike w'
  | _, (y, .bad, tx) :: _ => .word y tx
def Out.ts (w : Nat) : Out → List Str
  | .made v => [reprText "made", wtext w v]
  | .word _ tx => [reprText "word", tx]
  | .unlike w' => [reprText "unlike", PyData.shown (.int (w : Int)), PyData.shown (.int (w' : Int))]
/-- what the sum of them does -/
def OutK (C B U : Addr) (w : Nat) (o : Out) (H : Hp) (Q : VK) (E : XK) : Prop := match o with
  | .made v => ∀ a H', Ex H H' → WordAt C H' a w v → Q (.ref a) H'
  | .word y _ => Flies B [("value", y)] H E
  | .unlike w' => Flies U [("other", .int w'), ("one", .int w)] H E
/-- the first one a word, the others anything -/
def Lead (C : Addr) (H : Hp) (y : V) (w : Nat) (u : Int) : Prop := ∃ x, y = .ref x ∧ WordAt C H x w u
def spTotal (C B U : Addr) : Sp := fun vs H Q E => ∃ y p its, vs = [y, .ref p] ∧ H p = some (.tup (its.map (·.1))) ∧
  ((∃ w u, Lead C H y w u ∧ (∀ i ∈ its, Side C H w i.1 i.2.1) ∧ OutK C B U w (outc w u its) H Q E) ∨ (∃ g, Kd C H y g ∧ g ≠ .own ∧ Flies B [("value", y)] H E))
end Tz
namespace Tz
open PySem PySem.Spec PyProof.Rows L2 TzF TzRepr
/-! ### rules whose reading names K itself: within comprehensions and lambdas -/
section
variable {X : Cx} {K : PySem.W.Frag} {e a : Expr} {te ta : TE} {n : Str} {pos : Pos}
theorem pe_fldK (hK : X.K = K) (he : PE X e te) (hb : attributeBase e n X.env (eval e X.env) = eval e X.env := by rfl) : PE X (.Attribute e n pos) (tFld K te n) := by
  subst hK
  exact pe_fld he hb
theorem pt_truthK (hK : X.K = K) (ha : PE X a ta) (he : ∀ whole, isTrue a X.env whole = (do let v ← whole; standAt a.pos; holding [v] (truthy v))) : PT X a (fun σ H Q => ta σ H fun x H' => ∃ k, TruV K x H' k ∧ Q k H') := by
  subst hK
  exact pt_truth ha he
end
theorem ix_listK {X : Cx} {K : PySem.W.Frag} (hK : X.K = K) : IxR X (rIxL K) := by
  subst hK
  exact ix_list
theorem ix_tupK {X : Cx} {K : PySem.W.Frag} (hK : X.K = K) : IxR X (rIxT K) := by
  subst hK
  exact ix_tup
/-! ### tests that are decided -/
theorem iteD {c A B : Prop} [Decidable c] (hc : c) (h : A) : if decide c = true then A else B := by
  rw [decide_eq_true hc]
  exact iteT h
theorem iteN {c A B : Prop} [Decidable c] (hc : ¬ c) (h : B) : if decide c = true then A else B := by
  rw [decide_eq_false hc]
  exact iteF h
end Tz
namespace TzNum
/-! orders of 2, common divisors, digits to the base 2 -/
def Dv (n k : Nat) : Prop := n ∣ 2 ^ k - 1
def Ord (n k : Nat) : Prop := 1 ≤ k ∧ Dv n k ∧ ∀ j, 1 ≤ j → j < k → ¬ Dv n j
theorem one_le (k : Nat) : 1 ≤ 2 ^ k := Nat.one_le_two_pow
theorem ord_eq {n k m : Nat} (h : Ord n k) (g : Ord n m) : k = m := by
  rcases Nat.lt_trichotomy k m with e | e | e
  · exact absurd h.2.1 (g.2.2 k h.1 e)
  · exact e
  · exact absurd g.2.1 (h.2.2 m g.1 e)
theorem cast_pow (k : Nat) : ((2 ^ k - 1 : Nat) : Int) = 2 ^ k - 1 := by
  have := one_le k
  rw [Int.natCast_sub this, Int.natCast_pow]
  rfl
theorem dv_iff {n k : Nat} {r : Int} (hr : r % n = 2 ^ k % n) : ((r - 1) % (n : Int) = 0) ↔ Dv n k := by
  have e : (r - 1) % (n : Int) = (2 ^ k - 1) % n := by rw [← Int.emod_sub_emod, hr, Int.emod_sub_emod]
  rw [e, ← cast_pow]
  unfold Dv
  rw [← Int.ofNat_dvd]
  exact Int.dvd_iff_emod_eq_zero.symm
theorem dv_add {n a b : Nat} (h : Dv n a) (g : Dv n b) : Dv n (a + b) := by
  have e : 2 ^ (a + b) - 1 = 2 ^ a * (2 ^ b - 1) + (2 ^ a - 1) := by
    have h1 := one_le a
    have h2 := one_le b
    rw [Nat.pow_add, Nat.mul_sub, Nat.mul_one]
    have : 2 ^ a ≤ 2 ^ a * 2 ^ b := Nat.le_mul_of_pos_right _ (by omega)
    omega
  unfold Dv
  rw [e]
  exact Nat.dvd_add (Nat.dvd_trans g (Nat.dvd_mul_left _ _)) h
theorem dv_mul {n k : Nat} (h : Dv n k) : ∀ m, Dv n (k * m)
  | 0 => ⟨0, by simp⟩
  | m + 1 => by
    rw [Nat.mul_succ]
    exact dv_add (dv_mul h m) h
/-- the widths k * m further on there is the same common divisor -/
theorem gcd_far {n k : Nat} (h : Dv n k) (s m : Nat) : Nat.gcd n (2 ^ (s + k * m) - 1) = Nat.gcd n (2 ^ s - 1) := by
  obtain ⟨c, hc⟩ := dv_mul h m
  have e : 2 ^ (s + k * m) - 1 = n * (2 ^ s * c) + (2 ^ s - 1) := by
    have h1 := one_le s
    have h2 := one_le (k * m)
    have e1 : n * (2 ^ s * c) = 2 ^ s * (2 ^ (k * m) - 1) := by rw [hc, Nat.mul_left_comm]
    rw [e1, Nat.pow_add, Nat.mul_sub, Nat.mul_one]
    have : 2 ^ s ≤ 2 ^ s * 2 ^ (k * m) := Nat.le_mul_of_pos_right _ (by omega)
    omega
  rw [e]
  refine Nat.dvd_antisymm (Nat.dvd_gcd (Nat.gcd_dvd_left _ _) ?_) (Nat.dvd_gcd (Nat.gcd_dvd_left _ _) ?_)
  · exact (Nat.dvd_add_right (Nat.dvd_trans (Nat.gcd_dvd_left _ _) (Nat.dvd_mul_right _ _))).mp (Nat.gcd_dvd_right n _)
  · exact Nat.dvd_add (Nat.dvd_trans (Nat.gcd_dvd_left _ _) (Nat.dvd_mul_right _ _)) (Nat.gcd_dvd_right _ _)
/-- powers of two play no part -/
theorem odd_pow {k : Nat} (h : 1 ≤ k) : (2 ^ k - 1) % 2 = 1 := by
  obtain ⟨m, rfl⟩ : ∃ m, k = m + 1 := ⟨k - 1, by omega⟩
  have := one_le m
  rw [Nat.pow_succ]
  omega
theorem coprime_two {n : Nat} (h : n % 2 = 1) : Nat.Coprime 2 n := by
  show Nat.gcd 2 n = 1
  rw [Nat.gcd_rec, h]
  rfl
theorem gcd_shift {n s k : Nat} (h : 1 ≤ k) : Nat.gcd (n * 2 ^ s) (2 ^ k - 1) = Nat.gcd n (2 ^ k - 1) :=
  Nat.Coprime.gcd_mul_right_cancel n (Nat.Coprime.pow_left s (coprime_two (odd_pow h)))
/-! ### there is an order -/
theorem pigeon : ∀ (n : Nat) (f : Nat → Nat), (∀ i, i ≤ n → f i < n) → ∃ i j, i < j ∧ j ≤ n ∧ f i = f j
  | 0, f, h => absurd (h 0 (Nat.le_refl 0)) (Nat.not_lt_zero _)
  | n + 1, f, h => by
    by_cases e : ∃ i, i ≤ n ∧ f i = f (n + 1)
    · obtain ⟨i, hi, q⟩ := e
      exact ⟨i, n + 1, by omega, Nat.le_refl _, q⟩
    · have ne : ∀ i, i ≤ n → f i ≠ f (n + 1) := fun i hi q => e ⟨i, hi, q⟩
      have top := h (n + 1) (Nat.le_refl _)
      obtain ⟨i, j, hij, hj, q⟩ := pigeon n (fun i => if f i = n then f (n + 1) else f i) fun i hi => by
        have h1 := h i (by omega)
        have h2 := ne i hi
        by_cases q : f i = n
        · show (if f i = n then f (n + 1) else f i) < n
          rw [if_pos q]
          omega
        · show (if f i = n then f (n + 1) else f i) < n
          rw [if_neg q]
          omega
      refine ⟨i, j, hij, by omega, ?_⟩
      have h1 := ne i (by omega)
      have h2 := ne j hj
      have q : (if f i = n then f (n + 1) else f i) = (if f j = n then f (n + 1) else f j) := q
      split at q <;> split at q <;> omega
theorem has_dv {n : Nat} (h : n % 2 = 1) : ∃ k, 1 ≤ k ∧ k ≤ n ∧ Dv n k := by
  have pos : 0 < n := by omega
  obtain ⟨i, j, hij, hj, q⟩ := pigeon n (fun i => 2 ^ i % n) fun i _ => Nat.mod_lt _ pos
  refine ⟨j - i, by omega, by omega, ?_⟩
  have d : n ∣ 2 ^ j - 2 ^ i := Nat.dvd_of_mod_eq_zero (Nat.sub_mod_eq_zero_of_mod_eq q.symm)
  have e : 2 ^ j - 2 ^ i = 2 ^ i * (2 ^ (j - i) - 1) := by
    rw [Nat.mul_sub, Nat.mul_one, ← Nat.pow_add]
    congr 2
    omega
  rw [e] at d
  exact Nat.Coprime.dvd_of_dvd_mul_left (Nat.Coprime.symm (Nat.Coprime.pow_left i (coprime_two h))) d
theorem least {p : Nat → Prop} : ∀ k, 1 ≤ k → p k → ∃ m, 1 ≤ m ∧ m ≤ k ∧ p m ∧ ∀ j, 1 ≤ j → j < m → ¬ p j := by
  intro k
  induction k using Nat.strongRecOn with
  | ind k ih =>
    intro h1 hp
    by_cases e : ∃ j, 1 ≤ j ∧ j < k ∧ p j
    · obtain ⟨j, a, b, c⟩ := e
      obtain ⟨m, m1, m2, m3⟩ := ih j b a c
      exact ⟨m, m1, by omega, m3⟩
    · exact ⟨k, h1, Nat.le_refl _, hp, fun j a b c => e ⟨j, a, b, c⟩⟩
theorem has_ord {n : Nat} (h : n % 2 = 1) : ∃ k, k ≤ n ∧ Ord n k := by
  obtain ⟨k, k1, kn, d⟩ := has_dv h
  obtain ⟨m, m1, mk, dm, no⟩ := least (p := Dv n) k k1 d
  exact ⟨m, by omega, m1, dm, no⟩
/-! ### orders that are reckoned -/
/-- r is 2 ^ k; the next so many powers do not leave 1 -/
def noneB (n : Nat) : Nat → Nat → Bool
  | 0, _ => true
  | f + 1, r => !Nat.beq ((2 * r % n + (n - 1)) % n) 0 && noneB n f (2 * r % n)
theorem dv_mod {n k : Nat} (h : 0 < n) : Nat.beq ((2 ^ k % n + (n - 1)) % n) 0 = true ↔ Dv n k := by
  rw [Nat.beq_eq]
  have e : (2 ^ k % n + (n - 1)) % n = (2 ^ k - 1) % n := by
    have h1 := one_le k
    have : 2 ^ k + (n - 1) = (2 ^ k - 1) + n := by omega
    rw [Nat.mod_add_mod, this, Nat.add_mod_right]
  rw [e]
  exact ⟨Nat.dvd_of_mod_eq_zero, Nat.mod_eq_zero_of_dvd⟩
theorem none_ok {n : Nat} (h : 0 < n) : ∀ (f k : Nat), noneB n f (2 ^ k % n) = true → ∀ j, k < j → j ≤ k + f → ¬ Dv n j
  | 0, k, _, j, h1, h2 => absurd h1 (by omega)
  | f + 1, k, q, j, h1, h2 => by
    have e : 2 * (2 ^ k % n) % n = 2 ^ (k + 1) % n := by rw [Nat.pow_succ, Nat.mul_comm (2 ^ k) 2, Nat.mul_mod_mod]
    obtain ⟨q1, q2⟩ := Bool.and_eq_true_iff.mp (show (!Nat.beq ((2 * (2 ^ k % n) % n + (n - 1)) % n) 0 && noneB n f (2 * (2 ^ k % n) % n)) = true from q)
    rw [e] at q1 q2
    by_cases ej : j = k + 1
    · subst ej
      intro d
      rw [(dv_mod h).mpr d] at q1
      cases q1
    · exact none_ok h f (k + 1) q2 j (by omega) (by omega)
theorem none_at {n : Nat} (h : 0 < n) {f : Nat} (q : noneB n f (1 % n) = true) : ∀ j, 1 ≤ j → j ≤ f → ¬ Dv n j := fun j h1 h2 => none_ok h f 0 (by rw [Nat.pow_zero]; exact q) j (by omega) (by omega)
theorem ord_at {n k : Nat} (h : 0 < n) (q : noneB n k (1 % n) = true) (d : (2 ^ (k + 1) - 1) % n = 0) : Ord n (k + 1) := ⟨by omega, Nat.dvd_of_mod_eq_zero d, fun j h1 h2 => none_at h q j h1 (by omega)⟩
/-- all bits -/
theorem ord_full {L : Nat} (h : 1 ≤ L) : Ord (2 ^ L - 1) L := by
  refine ⟨h, Nat.dvd_refl _, fun j h1 h2 d => ?_⟩
  have p := Nat.pow_lt_pow_right (a := 2) (by decide) h2
  have q := Nat.pow_le_pow_right (n := 2) (by decide) h1
  have := Nat.le_of_dvd (by omega) d
  omega
/-! ### common divisors, from rests -/
theorem gcd_cong {n r a : Nat} (ha : 1 ≤ a) (h : r % n = a % n) : Nat.gcd n ((r : Int) - 1).natAbs = Nat.gcd n (a - 1) := by
  have d : (n : Int) ∣ (r : Int) - a := by
    refine Int.dvd_of_emod_eq_zero (Int.emod_eq_emod_iff_emod_sub_eq_zero.mp ?_)
    rw [← Int.natCast_emod, ← Int.natCast_emod, h]
  have e : ((a - 1 : Nat) : Int) = a - 1 := by omega
  refine Nat.dvd_antisymm (Nat.dvd_gcd (Nat.gcd_dvd_left _ _) ?_) (Nat.dvd_gcd (Nat.gcd_dvd_left _ _) ?_)
  · have h1 : ((Nat.gcd n ((r : Int) - 1).natAbs : Nat) : Int) ∣ (r : Int) - 1 := Int.dvd_trans (Int.ofNat_dvd.mpr (Nat.gcd_dvd_right n _)) (Int.natAbs_dvd_self)
    have h2 : ((Nat.gcd n ((r : Int) - 1).natAbs : Nat) : Int) ∣ (r : Int) - a := Int.dvd_trans (Int.ofNat_dvd.mpr (Nat.gcd_dvd_left n _)) d
    rw [← Int.ofNat_dvd, e]
    have h3 := Int.dvd_sub h1 h2
    have e3 : (r : Int) - 1 - (r - a) = a - 1 := by omega
    rwa [e3] at h3
  · have h1 : ((Nat.gcd n (a - 1) : Nat) : Int) ∣ (a : Int) - 1 := by rw [← e]; exact Int.ofNat_dvd.mpr (Nat.gcd_dvd_right n _)
    have h2 : ((Nat.gcd n (a - 1) : Nat) : Int) ∣ (r : Int) - a := Int.dvd_trans (Int.ofNat_dvd.mpr (Nat.gcd_dvd_left n _)) d
    have h3 := Int.dvd_add h1 h2
    have e3 : (a : Int) - 1 + (r - a) = r - 1 := by omega
    rw [e3] at h3
    have := Int.natAbs_dvd_natAbs.mpr h3
    rwa [Int.natAbs_natCast] at this
/-! ### the digits -/
def val (l : List Nat) : Nat := l.foldl (fun a b => 2 * a + b) 0
theorem val_app (l : List Nat) (b : Nat) : val (l ++ [b]) = 2 * val l + b := by
  unfold val
  rw [List.foldl_append]
  rfl
theorem digits_core : ∀ (fuel n : Nat) (ds : List Char), n < fuel → ∃ l : List Nat, Nat.toDigitsCore 2 fuel n ds = l.map Nat.digitChar ++ ds ∧ (∀ b ∈ l, b < 2) ∧ val l = n ∧ ∀ k, 1 ≤ k → n < 2 ^ k → l.length ≤ k
  | 0, n, ds, h => absurd h (Nat.not_lt_zero _)
  | fuel + 1, n, ds, h => by
    have e : Nat.toDigitsCore 2 (fuel + 1) n ds = if n / 2 = 0 then Nat.digitChar (n % 2) :: ds else Nat.toDigitsCore 2 fuel (n / 2) (Nat.digitChar (n % 2) :: ds) := rfl
    rw [e]
    have lt := Nat.mod_lt n (show 0 < 2 by decide)
    by_cases z : n / 2 = 0
    · rw [if_pos z]
      refine ⟨[n % 2], rfl, fun b hb => by rw [List.mem_singleton.mp hb]; exact lt, ?_, fun k hk _ => hk⟩
      show 2 * 0 + n % 2 = n
      omega
    · rw [if_neg z]
      obtain ⟨l, h1, h2, h3, h4⟩ := digits_core fuel (n / 2) (Nat.digitChar (n % 2) :: ds) (by omega)
      refine ⟨l ++ [n % 2], by rw [h1, List.map_append, List.append_assoc]; rfl, fun b hb => ?_, by rw [val_app, h3]; omega, fun k hk hn => ?_⟩
      · rcases List.mem_append.mp hb with hb | hb
        · exact h2 b hb
        · rw [List.mem_singleton.mp hb]
          exact lt
      · obtain ⟨m, rfl⟩ : ∃ m, k = m + 1 := ⟨k - 1, by omega⟩
        rw [Nat.pow_succ] at hn
        have m1 : 1 ≤ m := by
          cases m with
          | zero => simp at hn; omega
          | succ m => omega
        have := h4 m m1 (by omega)
        rw [List.length_append]
        show l.length + 1 ≤ m + 1
        omega
theorem digits_of (n : Nat) : ∃ l : List Nat, (Nat.toDigits 2 n).map Char.toNat = l.map (48 + ·) ∧ (∀ b ∈ l, b < 2) ∧ val l = n ∧ ∀ k, 1 ≤ k → n < 2 ^ k → l.length ≤ k := by
  obtain ⟨l, h1, h2, h3⟩ := digits_core (n + 1) n [] (Nat.lt_succ_self n)
  refine ⟨l, ?_, h2, h3⟩
  unfold Nat.toDigits
  rw [h1, List.append_nil, List.map_map]
  refine List.map_congr_left fun b hb => ?_
  have := h2 b hb
  match b, this with
  | 0, _ => rfl
  | 1, _ => rfl
/-- one bit further -/
theorem step_bit {n r p b : Nat} (h : r % n = 2 ^ p % n) (hb : b < 2) : (r * r * (if b = 1 then 2 else 1) % n) % n = 2 ^ (2 * p + b) % n := by
  have e : 2 ^ (2 * p + b) = 2 ^ p * 2 ^ p * (if b = 1 then 2 else 1) := by
    rw [Nat.pow_add, Nat.two_mul, Nat.pow_add]
    match b, hb with
    | 0, _ => simp
    | 1, _ => simp
  have h2 : r * r % n = 2 ^ p * 2 ^ p % n := by rw [Nat.mul_mod, h, ← Nat.mul_mod]
  rw [Nat.mod_mod, e, Nat.mul_mod, h2, ← Nat.mul_mod]
theorem ord_great : Ord 73862057 5040 := ord_at (k := 5039) (by decide) (by decide +kernel) (by decide +kernel)
theorem ord_one : Ord 1 1 := ord_at (k := 0) (by decide) rfl rfl
theorem no_a : ∀ j, 1 ≤ j → j ≤ 5040 → ¬ Dv 167555 j := none_at (by decide) (by decide +kernel)
theorem no_b : ∀ j, 1 ≤ j → j ≤ 5040 → ¬ Dv 32805 j := none_at (by decide) (by decide +kernel)
theorem no_c : ∀ j, 1 ≤ j → j ≤ 5040 → ¬ Dv 837775 j := none_at (by decide) (by decide +kernel)
theorem no_d {u : Nat} (h : u < 4) : ∀ j, 1 ≤ j → j ≤ 5040 → ¬ Dv (19683 * (1 + 2 * u)) j := by
  match u, h with
  | 0, _ => exact none_at (by decide) (by decide +kernel)
  | 1, _ => exact none_at (by decide) (by decide +kernel)
  | 2, _ => exact none_at (by decide) (by decide +kernel)
  | 3, _ => exact none_at (by decide) (by decide +kernel)
theorem ord_three {p : Nat} (h : p < 9) : Ord (3 ^ p) (if p = 0 then 1 else 2 * (3 ^ p / 3)) := by
  match p, h with
  | 0, _ => exact ord_one
  | 1, _ => exact ord_at (k := 1) (by decide) (by decide +kernel) (by decide +kernel)
  | 2, _ => exact ord_at (k := 5) (by decide) (by decide +kernel) (by decide +kernel)
  | 3, _ => exact ord_at (k := 17) (by decide) (by decide +kernel) (by decide +kernel)
  | 4, _ => exact ord_at (k := 53) (by decide) (by decide +kernel) (by decide +kernel)
  | 5, _ => exact ord_at (k := 161) (by decide) (by decide +kernel) (by decide +kernel)
  | 6, _ => exact ord_at (k := 485) (by decide) (by decide +kernel) (by decide +kernel)
  | 7, _ => exact ord_at (k := 1457) (by decide) (by decide +kernel) (by decide +kernel)
  | 8, _ => exact ord_at (k := 4373) (by decide) (by decide +kernel) (by decide +kernel)

end TzNum
namespace TzBit
open PySem PySem.Spec PyProof.Rows L2 PySem.NumText PySem.Calls
/-! int(t, 2) of a text of bits -/
def IsBit (c : Nat) : Prop := c = 48 ∨ c = 49
theorem bit_hex {c : Nat} (h : IsBit c) : Hx.IsHex c := .inl (by unfold IsBit at h; omega)
theorem bit_val {c : Nat} (h : IsBit c) : Hx.hv c = c - 48 := by
  unfold Hx.hv
  exact if_pos (by unfold IsBit at h; omega)
theorem bit_step {ds : Array Nat} {b : Bool} {c : Nat} (h : IsBit c) : PySem.NumText.step 2 (ds, b) c = some (ds.push (c - 48), true) := by
  have hr : c ≠ 95 := by unfold IsBit at h; omega
  have lt : c - 48 < 2 := by unfold IsBit at h; omega
  unfold PySem.NumText.step
  rw [if_neg (fun z => hr (beq_iff_eq.mp z)), Hx.digit_hex (bit_hex h), bit_val h]
  exact if_pos lt
theorem bit_fold : ∀ (cs : List Nat) (ds : Array Nat), (∀ c ∈ cs, IsBit c) → cs.foldlM (PySem.NumText.step 2) (ds, true) = some (cs.foldl (fun a c => a.push (c - 48)) ds, true)
  | [], _, _ => rfl
  | c :: cs, ds, h => by
    rw [List.foldlM_cons, bit_step (h c List.mem_cons_self)]
    exact bit_fold cs (ds.push (c - 48)) fun d hd => h d (List.mem_cons_of_mem _ hd)
theorem bit_digits {cs : List Nat} (h : ∀ c ∈ cs, IsBit c) (hne : cs ≠ []) : digits? 2 cs = some (cs.foldl (fun a c => a.push (c - 48)) #[]) := by
  match cs, hne with
  | c :: cs, _ =>
    have q := bit_fold cs ((#[] : Array Nat).push (c - 48)) fun d hd => h d (List.mem_cons_of_mem _ hd)
    unfold digits?
    rw [List.foldlM_cons, bit_step (h c List.mem_cons_self)]
    show (cs.foldlM (PySem.NumText.step 2) ((#[] : Array Nat).push (c - 48), true)).bind _ = _
    rw [q]
    all_goals rfl
theorem bit_push : ∀ (cs : List Nat) (ds : Array Nat), (cs.foldl (fun a c => a.push (c - 48)) ds).foldl (fun a d => a * 2 + d) 0 = cs.foldl (fun a c => 2 * a + (c - 48)) (ds.foldl (fun a d => a * 2 + d) 0)
  | [], _ => rfl
  | c :: cs, ds => by
    rw [List.foldl_cons, bit_push cs (ds.push (c - 48)), List.foldl_cons]
    congr 1
    simp [Nat.mul_comm]
theorem bit_based {cs : List Nat} (h : ∀ c ∈ cs, IsBit c) : based 2 cs = (2, false, cs) := by
  match cs, h with
  | [], _ => rfl
  | [a], h =>
    rcases (show a = 48 ∨ a = 49 from h a List.mem_cons_self) with rfl | rfl <;> rfl
  | a :: c :: r, h =>
    rcases (show a = 48 ∨ a = 49 from h a List.mem_cons_self) with rfl | rfl <;>
    rcases (show c = 48 ∨ c = 49 from h c (List.mem_cons_of_mem _ List.mem_cons_self)) with rfl | rfl <;> rfl
theorem bit_read {cs : List Nat} (h : ∀ c ∈ cs, IsBit c) (hne : cs ≠ []) : (int_private% "readNumeral") 0 2 cs = (int_private% "Numeral.value") ((Tz.worth cs : Nat) : Int) := by
  have hx : ∀ c ∈ cs, Hx.IsHex c := fun c hc => bit_hex (h c hc)
  have hr : ∀ c ∈ cs.reverse, Hx.IsHex c := fun c hc => hx c (List.mem_reverse.mp hc)
  refine (readNumeral_eq 0 2 cs).trans ?_
  rw [Hx.dropB hx, Hx.signH hx]
  show judge 0 false (based 2 cs).1 (based 2 cs).2.1 (digits? (based 2 cs).1 (((based 2 cs).2.2.reverse.dropWhile blank).reverse)) = _
  rw [bit_based h]
  show judge 0 false 2 false (digits? 2 ((cs.reverse.dropWhile blank).reverse)) = _
  rw [Hx.dropB hr, List.reverse_reverse, bit_digits h hne]
  show (int_private% "Numeral.value") (((cs.foldl (fun a c => a.push (c - 48)) (#[] : Array Nat)).foldl (fun a d => a * 2 + d) 0 : Nat) : Int) = _
  have z : (#[] : Array Nat).foldl (fun a d => a * 2 + d) 0 = 0 := by first | rfl | simp
  rw [bit_push, z]
  all_goals rfl
theorem bit_gives {x : PySem.Str} {u t : Tok} (hl : x.length ≤ 640) (h : ∀ c ∈ x.cps.toList, IsBit c) (hne : x.cps.toList ≠ []) :
    Gives (Builtin.«int.__new__» ⟨[.type "int", .str x u, .int 2 t], []⟩) (.int ((Tz.worth x.cps.toList : Nat) : Int)) :=
  .of_wp fun M A E s Q hQ => by
    obtain ⟨hp, g, d, tk, os⟩ := s
    have f1 := F.conv_sub_int
    have f2 := F.madeHere_int
    have f6 : typeOf (.str x u) = pure (.type "str") := rfl
    obtain ⟨e1, e2⟩ := Hx.seen_hex fun c hc => bit_hex (h c hc)
    have hs : (numSeenOf x).length ≤ 640 := by
      rw [e2, Array.length_toList]
      exact hl
    have hr : (int_private% "readNumeral") 0 2 (numSeenOf x) = (int_private% "Numeral.value") ((Tz.worth x.cps.toList : Nat) : Int) := by
      rw [e2]
      exact bit_read h hne
    have ha : ((numSeenOf x).length == (numTextOf x).length) = true := by
      rw [e1, e2]
      exact beq_self_eq_true _
    have hk := Hx.Hid.mk (And.intro hs (And.intro hr ha))
    clear hs hr ha e1 e2 hl hne h
    repeat (any_goals (first
      | assumption
      | ((with_reducible show wpAny _ _ ((int_private% "intFromText") _ _ _) _ _ _); refine Hx.wp_textB hk.out.1 hk.out.2.1 hk.out.2.2 ?_)
      | wp_step))
    all_goals first | exact ⟨_, rfl, hQ⟩ | skip
theorem bit_call {prog : Program} {w : World} {A : Around} {E : Value → Shared → Prop} {s : Shared} {Q : Value → Shared → Prop} {x : PySem.Str} {u t : Tok} (hl : x.length ≤ 640) (h : ∀ c ∈ x.cps.toList, IsBit c) (hne : x.cps.toList ≠ [])
    (hQ : Q (.int ((Tz.worth x.cps.toList : Nat) : Int) s.toks) { s with toks := s.toks + 1 }) : wpAny (model prog w) A (call (.type "int") [.str x u, .int 2 t]) Q E s :=
  callType_new F.called_int F.newNe_int (Hx.typeCall_int_2 _ _) (Hx.newCall_int_2 _ _) (fun obj => F.initArgs_range_2 obj _ _) F.entry_int_new (bit_gives hl h hne).meets (show (Made.int ((Tz.worth x.cps.toList : Nat) : Int)).post _ s from ⟨rfl, hQ⟩)
/-- int(t, 2) -/
theorem call_int_bits {X : Cx} : CallR X (.type "int") (fun xs H Q => ∃ l : List Nat, xs = [.str (SX.S l), .int 2] ∧ l ≠ [] ∧ l.length ≤ 640 ∧ (∀ c ∈ l, IsBit c) ∧ Q (.int ((Tz.worth l : Nat) : Int)) H) := by
  intro pins s σ H xs us Q I r h
  obtain ⟨l, rfl, hne, hl, hx, q⟩ := h
  obtain ⟨u, w', rfl, r1, r2⟩ := vals2 r
  obtain ⟨t1, rfl⟩ := r1
  obtain ⟨t2, rfl⟩ := r2
  exact bit_call (x := SX.S l) (by rw [SX.S_len]; exact hl) hx hne ⟨.int ((Tz.worth l : Nat) : Int), H, I.tok _, ⟨_, rfl⟩, q⟩
end TzBit
namespace Tz
open PySem PySem.Spec PyProof.Rows L2 TzF TzRepr
/-! ### the text of a word's bits -/
theorem bt_get (v : Nat) : ∀ (n i : Nat), i < n → (bt v n)[i]? = some (48 + v / 2 ^ (n - 1 - i) % 2)
  | 0, i, h => absurd h (Nat.not_lt_zero i)
  | n + 1, 0, _ => by
    rw [bt]
    rfl
  | n + 1, i + 1, h => by
    have e := bt_get v n i (by omega)
    rw [bt, List.getElem?_cons_succ, e]
    congr 5
    omega
theorem join_ones : ∀ l : List Nat, TL.joinL [] (l.map fun c => [c]) = l
  | [] => rfl
  | [c] => rfl
  | c :: d :: r => by
    have e := join_ones (d :: r)
    rw [List.map_cons, List.map_cons, TL.joinL, ← List.map_cons (f := fun c => [c]), e]
    rfl
theorem join_bits (l : List Nat) : Txt.join ("" : Str) ((l.map fun c => SX.S [c])) = SX.S l := by
  have e := SX.join_S [] (l.map fun c => [c])
  rw [List.map_map, join_ones] at e
  exact e
theorem len_bits (l : List Nat) : ((l.map fun c => SX.S [c]).map (·.length)).sum = l.length := by
  induction l with
  | nil => rfl
  | cons c r ih =>
    rw [List.map_cons, List.map_cons, List.sum_cons, ih, SX.S_len, List.length_cons]
    show 1 + r.length = r.length + 1
    omega
def spStr (C : Addr) : Sp := fun vs H Q _ => ∃ x, ∃ w : Nat, ∃ u : Int, vs = [.ref x] ∧ WordAt C H x w u ∧ ∀ H', Ex H H' → Q (.str (SX.S (bt u.toNat w))) H'
theorem bit_is {u : Int} (u0 : 0 ≤ u) (k : Nat) : Builtin.bitAnd (u / 2 ^ k) 1 = ((u.toNat / 2 ^ k % 2 : Nat) : Int) := by
  have e : Builtin.bitAnd (u / 2 ^ k) (2 ^ 1 - 1) = (u / 2 ^ k) % 2 ^ 1 := PySem.W.kbt_mask _ 1
  have e1 : (2 : Int) ^ 1 - 1 = 1 := by decide
  have e2 : (2 : Int) ^ 1 = 2 := by decide
  rw [e1, e2] at e
  rw [e]
  have hu : u = (u.toNat : Int) := (Int.toNat_of_nonneg u0).symm
  conv => lhs; rw [hu]
  rw [Int.natCast_emod, Int.natCast_ediv, Int.natCast_pow]
  rfl
end Tz
namespace Tz
open PySem PySem.Spec PyProof.Rows L2 TzF TzRepr
/-- what a thing at y needs of the heap stays: all that is no list, and y's own object -/
def Stay (y : V) (H H' : Hp) : Prop := ∀ a o, H a = some o → (∀ ps, o ≠ .tbl ps) → ((∃ xs, o = .lst xs) → y = .ref a) → H' a = some o
theorem Stay.ext {y : V} {H H' : Hp} (e : LamX.ExtN H H') : Stay y H H' := fun a o h n _ => e a o h n
theorem Stay.ex {y : V} {H H' : Hp} (e : Ex H H') : Stay y H H' := fun a o h _ _ => e a o h
theorem Stay.go {y : V} {z : Addr} {H H' : Hp} (g : Go z H H') (hz : ∃ xs, H z = some (.lst xs)) (n : y ≠ .ref z) : Stay y H H' := fun a o h m l => g a o (fun e => by
  obtain ⟨xs, hz⟩ := hz
  subst e
  rw [hz] at h
  cases h
  exact n (l ⟨_, rfl⟩)) m h
theorem Stay.upd {y : V} {z : Addr} {H : Hp} {u : HO} (hz : ∃ xs, H z = some (.lst xs)) (n : y ≠ .ref z) : Stay y H (upd H z u) := Stay.go (z := z) (fun a o na _ h => by rw [upd_ne na]; exact h) hz n
section
variable {C : Addr} {H H' : Hp} {w : Nat} {u : Int} {y : V} {t : Str} {g : Tag} {r : Res}
theorem WordAt.stay {x : Addr} {y : V} (h : WordAt C H x w u) (s : Stay y H H') : WordAt C H' x w u := by
  obtain ⟨⟨dx, h1⟩, h2, h3, h4, h5⟩ := h
  exact ⟨⟨dx, s _ _ h1 (fun _ q => by cases q) (fun ⟨_, q⟩ => by cases q)⟩, h2, h3, h4, h5⟩
theorem Kd.stay (k : Kd C H y g) (s : Stay y H H') : Kd C H' y g := k.step fun a o h m e => s a o h m fun _ => e
theorem Side.stay (k : Side C H w y r) (s : Stay y H H') : Side C H' w y r := k.step fun a o h m e => s a o h m fun _ => e
theorem Flat.stay {x y : V} (f : Flat C x t H) (s : Stay y H H') : Flat C x t H' := by
  rcases f with f | f | ⟨a, dx, fs, h1, h2, w, u, W, h3⟩
  · exact .inl f
  · exact .inr (.inl f)
  · exact .inr (.inr ⟨a, dx, fs, h1, s _ _ h2 (fun _ q => by cases q) (fun ⟨_, q⟩ => by cases q), w, u, W.stay s, h3⟩)
theorem Shown.stay (d : Shown C H y t) (s : Stay y H H') : Shown C H' y t := by
  have each : ∀ {xs : List V} {ts : List Str}, Each (Flat C) xs ts H → Each (Flat C) xs ts H' := fun p => ⟨p.1, fun i x t h1 h2 => (p.2 i x t h1 h2).stay s⟩
  rcases d with d | ⟨a, h1, h2, h3⟩ | ⟨l, xs, ts, h1, h2, h3, h4⟩ | ⟨l, xs, ts, h1, h2, h3, h4⟩
  · exact .inl (d.stay s)
  · exact .inr (.inl ⟨a, h1, s _ _ h2 (fun _ q => by cases q) (fun _ => h1), h3⟩)
  · exact .inr (.inr (.inl ⟨l, xs, ts, h1, s _ _ h2 (fun _ q => by cases q) (fun _ => h1), h3, each h4⟩))
  · exact .inr (.inr (.inr ⟨l, xs, ts, h1, s _ _ h2 (fun _ q => by cases q) (fun _ => h1), h3, each h4⟩))
end
/-! ### what is due -/
def Verd (C : Addr) (H : Hp) (w : Nat) (i0 : Itm) (its : List Itm) (o : Out) : Prop :=
  (∃ u, Lead C H i0.1 w u ∧ (∀ i ∈ its, Side C H w i.1 i.2.1 ∧ Shown C H i.1 i.2.2) ∧ o = outc w u its) ∨ (∃ g, Kd C H i0.1 g ∧ g ≠ .own ∧ Shown C H i0.1 i0.2.2 ∧ o = .word i0.1 i0.2.2)
theorem Verd.stay {C : Addr} {H H' : Hp} {w : Nat} {i0 : Itm} {its : List Itm} {o : Out} (h : Verd C H w i0 its o) (s0 : Stay i0.1 H H') (s : ∀ i ∈ its, Stay i.1 H H') : Verd C H' w i0 its o := by
  rcases h with ⟨u, ⟨x, e, W⟩, h, eo⟩ | ⟨g, d, ng, sh, eo⟩
  · exact .inl ⟨u, ⟨x, e, W.stay s0⟩, fun i hi => ⟨(h i hi).1.stay (s i hi), (h i hi).2.stay (s i hi)⟩, eo⟩
  · exact .inr ⟨g, d.stay s0, ng, sh.stay s0, eo⟩
theorem outc_word {C : Addr} {H : Hp} {w : Nat} {y : V} {tx : Str} : ∀ {its : List Itm} {u : Int}, (∀ i ∈ its, Side C H w i.1 i.2.1 ∧ Shown C H i.1 i.2.2) → outc w u its = .word y tx → Shown C H y tx
  | [], _, _, e => by cases e
  | (x, .val v, t) :: l, u, h, e => outc_word (fun i hi => h i (List.mem_cons_of_mem _ hi)) e
  | (x, .unlike w', t) :: l, u, h, e => by cases e
  | (x, .bad, t) :: l, u, h, e => by
    cases e
    exact (h _ List.mem_cons_self).2
theorem outc_unlike {C : Addr} {H : Hp} {w w' : Nat} : ∀ {its : List Itm} {u : Int}, (∀ i ∈ its, Side C H w i.1 i.2.1 ∧ Shown C H i.1 i.2.2) → outc w u its = .unlike w' → w' ≤ 64
  | [], _, _, e => by cases e
  | (x, .val v, t) :: l, u, h, e => outc_unlike (fun i hi => h i (List.mem_cons_of_mem _ hi)) e
  | (x, .unlike w2, t) :: l, u, h, e => by
    cases e
    have s := (h _ List.mem_cons_self).1
    cases s with
    | unlike W ne => exact W.w64
  | (x, .bad, t) :: l, u, h, e => by cases e
section
variable {K : PySem.W.Frag} {C B1 B2 U p : Addr} {H H' : Hp} {w : Nat} {o : Out} {Q : VK}
theorem th_str {s : Str} : Thg K C p (.str s) (reprText s) H := .inl (.inr (.inl ⟨s, rfl, rfl⟩))
theorem small_log {n : Nat} (h : n ≤ 64) : ((n : Int)).natAbs.log2 < 1920 := by
  have : ((n : Int)).natAbs < 2 ^ 64 := by
    have : n < 2 ^ 64 := Nat.lt_of_le_of_lt h (by decide)
    simpa using this
  have := PySem.Flt.log2_lt_of (by decide) this
  omega
theorem th_nat {n : Nat} (h : n ≤ 64) : Thg K C p (.int (n : Int)) (PyData.shown (.int (n : Int))) H := .inl (.inl (.inr (.inr ⟨_, rfl, small_log h, rfl⟩)))
theorem th_word {a : Addr} {u : Int} (W : WordAt C H a w u) : Thg K C p (.ref a) (wtext w u) H := by
  obtain ⟨dx, h⟩ := W.ob
  exact .inl (.inr (.inr ⟨a, dx, _, rfl, h, w, u, W, rfl⟩))
/-- a tuple that tells it, new at p -/
def Tells (K : PySem.W.Frag) (C : Addr) (w : Nat) (o : Out) (H : Hp) (Q : VK) : Prop := ∀ p H' ys, Ex H H' → H p = none → H' p = some (.tup ys) → Each (Thg K C p) ys (o.ts w) H' → Q (.ref p) H'
theorem Tells.ex (k : Tells K C w o H Q) (e : Ex H H') : Tells K C w o H' Q := fun p H2 ys e2 np h t => k p H2 ys (e.trans e2) (back e np) h t
theorem out_heard (k : Tells K C w o H Q) (w64 : w ≤ 64) (sh : ∀ y tx, o = .word y tx → Shown C H y tx) (un : ∀ w', o = .unlike w' → w' ≤ 64) : OutK C B2 U w o H (fun v H2 => Tup H2 [.str "made", v] Q) (HE3 B1 B2 U Q) := by
  cases o with
  | made v => exact fun a H' e W p H2 np e2 hp => k p H2 _ (e.trans e2) (back e np) hp (two_each th_str (th_word (W.ex e2)))
  | word y tx => exact fly_value fun H1 e1 p H2 np e2 hp => k p H2 _ (e1.trans e2) (back e1 np) hp (two_each th_str (mon_Thg _ _ _ _ e2 (((sh y tx rfl).ex e1).at np)))
  | unlike w' => exact fly_unlike fun H1 e1 p H2 np e2 hp => k p H2 _ (e1.trans e2) (back e1 np) hp (three_each th_str (th_nat w64) (th_nat (un w' rfl)))
end
def spAsked (K : PySem.W.Frag) (C : Addr) (TL : List (Addr × Str)) : Sp := fun vs H Q _ => ∃ l i0 its w o, vs = [.ref l] ∧ H l = some (.lst ((i0 :: its).map (·.1))) ∧ its.length ≤ 3 ∧ LamX.Tabs TL H ∧ w ≤ 64 ∧ Verd C H w i0 its o ∧
  ∀ H1, LamX.ExtN H H1 → LamX.Tabs TL H1 → Tells K C w o H1 Q
def spDue (K : PySem.W.Frag) (C : Addr) : Sp := fun vs H Q _ => ∃ l i0 its w o, vs = [.ref l] ∧ H l = some (.lst ((i0 :: its).map (·.1))) ∧ its.length ≤ 3 ∧ w ≤ 64 ∧ Verd C H w i0 its o ∧ Tells K C w o H Q
/-- a thing that is drawn -/
def spThing (C : Addr) : Sp := fun vs H Q _ => ∃ z c cells t, ∃ w : Nat, vs = [.ref z, .int w] ∧ PenAt H z c cells t ∧ t ≤ 80000 ∧ 1 ≤ w ∧ w ≤ 64 ∧
  ∀ y r tx H', Side C H' w y r → Shown C H' y tx → tx.length ≤ 100 → (∀ a, y = .ref a → H a = none) → PenAt H' z c cells (t + 6) → Fw z H H' → Q y H'
theorem at0 {y : V} {ys : List V} : atI (y :: ys) 0 = some y := by
  have h : (y :: ys)[0]? = some y := rfl
  exact atI_nat h
theorem cut1 (y : V) (ys : List V) : cutV (y :: ys) (some 1) none = ys := by
  unfold cutV
  have e : HT.sIx (y :: ys).length 0 (some (1 : Int)) = min 1 (y :: ys).length := HT.sIx_nat (y :: ys).length 0 1
  rw [HT.sIx_none, e, List.length_cons, Nat.min_eq_left (by omega), List.drop_succ_cons, List.drop_zero, List.take_of_length_le (by omega)]
theorem Fw.back {z p : Addr} {H H' : Hp} (f : Fw z H H') (np : H' p = none) (n : p ≠ z) : H p = none := by
  cases q : H p with
  | none => rfl
  | some o =>
    rw [f _ _ n q] at np
    cases np
section
variable {C : Addr} {H : Hp}
theorem sh_int {i : Int} (h : i.natAbs.log2 < 1920) : Shown C H (.int i) (PyData.shown (.int i)) := .inl (.inl (.inr (.inr ⟨i, rfl, h, rfl⟩)))
theorem sh_bl (b : Bool) : Shown C H (.bl b) (PyData.shown (.bool b)) := .inl (.inl (.inr (.inl ⟨b, rfl, rfl⟩)))
theorem sh_non : Shown C H .non "None" := .inl (.inl (.inl ⟨rfl, rfl⟩))
theorem sh_str (s : Str) : Shown C H (.str s) (reprText s) := .inl (.inr (.inl ⟨s, rfl, rfl⟩))
theorem sh_word {a : Addr} {w : Nat} {u : Int} (W : WordAt C H a w u) : Shown C H (.ref a) (wtext w u) := by
  obtain ⟨dx, h⟩ := W.ob
  exact .inl (.inr (.inr ⟨a, dx, _, rfl, h, w, u, W, rfl⟩))
theorem sh_dic {a : Addr} (h : H a = some (.dK [])) : Shown C H (.ref a) "{}" := .inr (.inl ⟨a, rfl, h, rfl⟩)
theorem log_64 {i : Int} (h0 : 0 ≤ i) (h1 : i ≤ 18446744073709551616) : i.natAbs.log2 < 1920 := by
  have : i.natAbs < 2 ^ 65 := by omega
  have := PySem.Flt.log2_lt_of (by decide) this
  omega
theorem len_64 {i : Int} (h0 : 0 ≤ i) (h1 : i ≤ 18446744073709551616) : (PyData.shown (.int i)).length ≤ 100 := by
  rw [PyData.shown_int]
  exact Nat.le_trans (PyProof.Rows.toString_length_le h0 (k := 20) (by decide) (by omega)) (by decide)
theorem len_bl (b : Bool) : (PyData.shown (.bool b)).length ≤ 100 := by
  rw [PyData.shown_bool]
  cases b <;> decide +kernel
end
theorem minus1 : (-1 : Int).natAbs.log2 < 1920 ∧ (PyData.shown (.int (-1))).length ≤ 100 := by
  refine ⟨by decide, ?_⟩
  rw [PyData.shown_int]
  decide +kernel
def spLawT (K : PySem.W.Frag) (TL : List (Addr × Str)) : Sp := fun vs H Q _ => ∃ (a : Addr) (ns : List Int), vs = [.ref a] ∧ SqL K H a (ns.map V.int) ∧ ns.length ≤ 63 ∧ LamX.Tabs TL H ∧ ∀ H', Q (.bl true) H'
theorem outc_short {C : Addr} {H : Hp} {w : Nat} (w1 : 1 ≤ w) (w64 : w ≤ 64) : ∀ {its : List Itm} {s : Int}, 0 ≤ s → s ≤ mw w → (∀ i ∈ its, Side C H w i.1 i.2.1 ∧ i.2.2.length ≤ 10000) → ∀ t ∈ (outc w s its).ts w, t.length ≤ 10000
  | [], s, s0, s1, _, t, ht => by
    have m64 := mw_64 w64
    have ht : t ∈ [reprText "made", wtext w s] := ht
    rcases List.mem_cons.mp ht with rfl | ht
    · decide +kernel
    · rw [List.mem_singleton.mp ht]
      exact Nat.le_trans (wtext_len w64 s0 (by omega)) (by decide)
  | (x, .val v, tx) :: l, s, s0, s1, h, t, ht => by
    have b := (h _ List.mem_cons_self).1.val_bd
    have cb := cr_bd w1 (s + v)
    exact outc_short w1 w64 cb.1 cb.2 (fun i hi => h i (List.mem_cons_of_mem _ hi)) t ht
  | (x, .unlike w', tx) :: l, s, s0, s1, h, t, ht => by
    have sd := (h _ List.mem_cons_self).1
    have hw : w' ≤ 64 := by
      cases sd with
      | unlike W ne => exact W.w64
    have ht : t ∈ [reprText "unlike", PyData.shown (.int (w : Int)), PyData.shown (.int (w' : Int))] := ht
    rcases List.mem_cons.mp ht with rfl | ht
    · decide +kernel
    · rcases List.mem_cons.mp ht with rfl | ht
      · exact Nat.le_trans (len_64 (by omega) (by omega)) (by decide)
      · rw [List.mem_singleton.mp ht]
        exact Nat.le_trans (len_64 (by omega) (by omega)) (by decide)
  | (x, .bad, tx) :: l, s, s0, s1, h, t, ht => by
    have ht : t ∈ [reprText "word", tx] := ht
    rcases List.mem_cons.mp ht with rfl | ht
    · decide +kernel
    · rw [List.mem_singleton.mp ht]
      exact (h _ List.mem_cons_self).2
theorem ts_len (w : Nat) (o : Out) : (o.ts w).length ≤ 100 := by
  cases o <;> (show _ ≤ 100; simp [Out.ts])
theorem word_short {w : Nat} {y : V} {tx : Str} (h : tx.length ≤ 10000) : ∀ t ∈ (Out.word y tx).ts w, t.length ≤ 10000 := fun t ht => by
  have ht : t ∈ [reprText "word", tx] := ht
  rcases List.mem_cons.mp ht with rfl | ht
  · decide +kernel
  · rw [List.mem_singleton.mp ht]
    exact h
theorem bits_short {u w : Nat} (h : w ≤ 64) : (reprText (SX.S (bt u w))).length ≤ 10000 := by
  have e := StrLaws.reprText_len (SX.S (bt u w)) fun c hc => by
    have z : c ∈ bt u w := hc
    rcases bt_mem z with rfl | rfl <;> decide
  have l : (SX.S (bt u w)).length = w := by rw [SX.S_len, bt_len]
  have s : (reprText (SX.S (bt u w))).length ≤ 10 * (SX.S (bt u w)).length + 2 := by
    refine Nat.le_trans (Nat.le_of_eq ?_) e
    simp [Str.length]
  omega
theorem Kd.told {C a : Addr} {H : Hp} {y : V} {g : Tag} (d : Kd C H y g) (e : y = .ref a) : ¬ H a = none := fun n => by
  cases d with
  | non => cases e
  | bl b => cases e
  | int i => cases e
  | str z => cases e
  | lst h => cases e; rw [n] at h; cases h
  | tup h => cases e; rw [n] at h; cases h
  | dic h => cases e; rw [n] at h; cases h
  | own W =>
    obtain ⟨_, h⟩ := W.ob
    cases e
    rw [n] at h
    cases h
theorem Side.told {C a : Addr} {H : Hp} {w : Nat} {y : V} {r : Res} (s : Side C H w y r) (e : y = .ref a) : ¬ H a = none := by
  obtain ⟨g, d⟩ := s.kd
  exact d.told e
end Tz
namespace Tz
open PySem PySem.Spec PyProof.Rows L2 TzF TzRepr
/-! ### what makes no word -/
def NoWidth (y : V) : Prop := ∀ n, y = .int n → ¬ (1 ≤ n ∧ n ≤ 64)
def NoVal (w : Nat) (y : V) : Prop := ∀ n, y = .int n → ¬ (0 ≤ n ∧ n ≤ mw w)
/-- no text of 1 to 64 bits -/
def NoBits (y : V) : Prop := ∀ z, y = .str z → (z.length ≤ sizeLine ∧ (z.length = 0 ∨ 64 < z.length)) ∨ (z.length ≤ 64 ∧ ∃ c ∈ z.cps.toList, ¬ TzBit.IsBit c)
def isb (c : Nat) : Bool := decide (c ∈ ("01" : Str).cps.toList)
theorem isb_iff (c : Nat) : c ∈ ("01" : Str).cps.toList ↔ TzBit.IsBit c := by
  have e : ("01" : Str).cps.toList = [48, 49] := by decide +kernel
  rw [e]
  unfold TzBit.IsBit
  simp
def spWidthX (C B : Addr) : Sp := fun vs H Q E => ∃ y g, vs = [y] ∧ Kd C H y g ∧ NoWidth y ∧ Flies B [("width", y)] H E
def spInitX (C B1 B2 : Addr) : Sp := fun vs H Q E => ∃ p dx y g v gv, vs = [.ref p, y, v] ∧ H p = some (.ins C dx []) ∧ Kd C H y g ∧ Kd C H v gv ∧
  ((NoWidth y ∧ Flies B1 [("width", y)] H E) ∨ ∃ w : Nat, y = .int w ∧ 1 ≤ w ∧ w ≤ 64 ∧ NoVal w v ∧ Flies B2 [("value", v)] H E)
def spBitsX (C : Addr) : Sp := fun vs H Q _ => ∃ y g, vs = [y] ∧ Kd C H y g ∧ NoBits y ∧ ∀ H', Ex H H' → Q (.bl false) H'
def spOddW (C B : Addr) : Sp := fun vs H Q E => ∃ y g, vs = [y] ∧ Kd C H y g ∧ NoWidth y ∧ Flies B [("width", y)] H E
def spReadX (C B : Addr) : Sp := fun vs H Q E => ∃ y g, vs = [.ref C, y] ∧ Kd C H y g ∧ NoBits y ∧ Flies B [("value", y)] H E
/-! ### isinstance of a caught error that has fields -/
def rIsEd (K : PySem.W.Frag) (a : Addr) (k : Value) (d : Option Addr) : List V → Hp → VK → Prop := fun xs H Q => ∃ (D dd : Addr) (fs : List (Str × V)) (c : V) (cv : Value) (b : Bool),
  k = .ref D ∧ ExcC K D ∧ d = some dd ∧ H dd = some (.xd fs) ∧ xs = [.ref a, c] ∧ (∀ u, RelV c u → u = cv) ∧ PySem.W.kitOne K (.ref D) cv = some b ∧ Q (.bl b) H
theorem call_isEd {X : Cx} {a : Addr} {k : Value} {d : Option Addr} {oe : Obj} {pn : List (Addr × Obj)} (hz : Zc k d oe) (hf : ∃ vs, oe.data = .fields vs) : CallR (X.suite a ((a, oe) :: pn)) (.builtin "isinstance") (rIsEd X.K a k d) := by
  intro pins s σ H xs us Q I r h
  obtain ⟨D, dd, fs, c, cv, b, rfl, C, rfl, ea, rfl, hcv, e, q⟩ := h
  cases r with
  | cons rx rr =>
    cases rr with
    | cons rt rr =>
      cases rr
      cases rx
      have ec := hcv _ rt
      subst ec
      obtain ⟨ha, _⟩ := I.pin (a, oe) (List.mem_append.mpr (.inl List.mem_cons_self))
      obtain ⟨vs, hd⟩ := hf
      have hx : ObjOk X.prog X.w H s.heap dd (.xd fs) := I.hok dd _ ea
      obtain ⟨mA, hns, hr⟩ := hx
      obtain ⟨od, ho, hl⟩ := lookIn_ns hns
      have J : PySem.W.InstAt s.heap a oe D (some od) := ⟨ha, hz.1, by unfold PySem.W.notCls; rw [hd] <;> rfl, by rw [hz.2]; exact ho⟩
      have hcl : (PySem.W.clsIn X.K D).isSome = true := by
        obtain ⟨cd, hc, _⟩ := PySem.W.any_some C.hd
        rw [hc]
        rfl
      exact PySem.W.kia_one (PySem.W.kitx_exc hcl C.hg C.hk C.hs C.ha C.hn C.ht C.hm) I.kIn J e (fun z => nomatch z) fun tk => ⟨.bl b, H, I.kept (t' := tk) fun _ _ z => z, rfl, q⟩
/-- what a caught error is asked -/
def TTE (HE : VK → XK) : (XK → Hp → VK → Prop) → Hp → VK → Prop := fun tl H Q => tl (HE Q) H (fun _ H1 => Q (.bl false) H1)
def HEE (B1 B2 : Addr) (Q : VK) : XK := fun k d H => ∃ (D dd : Addr) (fs : List (Str × V)), (D = B1 ∨ D = B2) ∧ k = .ref D ∧ d = some dd ∧ H dd = some (.xd fs) ∧ ∀ H1, Ex H H1 → Q (.bl true) H1
theorem fly_e1 {B1 B2 : Addr} {Q : VK} {H : Hp} {fs : List (Str × V)} (h : ∀ H1, Ex H H1 → Q (.bl true) H1) : Flies B1 fs H (HEE B1 B2 Q) := fun d H' e q => ⟨B1, d, fs, .inl rfl, rfl, rfl, q, fun H1 e1 => h H1 (e.trans e1)⟩
theorem fly_e2 {B1 B2 : Addr} {Q : VK} {H : Hp} {fs : List (Str × V)} (h : ∀ H1, Ex H H1 → Q (.bl true) H1) : Flies B2 fs H (HEE B1 B2 Q) := fun d H' e q => ⟨B2, d, fs, .inr rfl, rfl, rfl, q, fun H1 e1 => h H1 (e.trans e1)⟩
/-! ### things -/
section
variable {C a : Addr} {H : Hp}
theorem fl_int {i : Int} (h : i.natAbs.log2 < 1920) : Flat C (.int i) (PyData.shown (.int i)) H := .inl (.inr (.inr ⟨i, rfl, h, rfl⟩))
theorem fl_str (s : Str) : Flat C (.str s) (reprText s) H := .inr (.inl ⟨s, rfl, rfl⟩)
theorem each1 {D : Rpr} {x : V} {t : Str} (h : D x t H) : Each D [x] [t] H := ⟨rfl, fun i y s e1 e2 => by
  match i with
  | 0 => cases e1; cases e2; exact h
  | i + 1 => simp at e1⟩
theorem each0 {D : Rpr} : Each D [] [] H := ⟨rfl, fun i y s e1 e2 => by simp at e1⟩
theorem sh_lst1 {x : V} {t : Str} (h : H a = some (.lst [x])) (f : Flat C x t H) : Shown C H (.ref a) (listText [t]) := .inr (.inr (.inl ⟨a, _, _, rfl, h, rfl, each1 f⟩))
theorem sh_tup1 {x : V} {t : Str} (h : H a = some (.tup [x])) (f : Flat C x t H) : Shown C H (.ref a) (tupleText [t]) := .inr (.inr (.inr ⟨a, _, _, rfl, h, rfl, each1 f⟩))
theorem sh_tup0 (h : H a = some (.tup [])) : Shown C H (.ref a) (tupleText []) := .inr (.inr (.inr ⟨a, _, _, rfl, h, rfl, each0⟩))
theorem sh_tup2 {x y : V} {t u : Str} (h : H a = some (.tup [x, y])) (f : Flat C x t H) (g : Flat C y u H) : Shown C H (.ref a) (tupleText [t, u]) := .inr (.inr (.inr ⟨a, _, _, rfl, h, rfl, two_each f g⟩))
end
/-- a thing that is drawn, of no use -/
def Odd1 (C : Addr) (bad : V → Prop) (H H' : Hp) (y : V) (tx : Str) : Prop := (∃ g, Kd C H' y g) ∧ bad y ∧ Shown C H' y tx ∧ tx.length ≤ 1000 ∧ ∀ a, y = .ref a → H a = none
def DrawnK (C : Addr) (bad : V → Prop) (z c : Addr) (cells : List Int) (t : Nat) (H : Hp) (Q : VK) : Prop := ∀ y tx H', Odd1 C bad H H' y tx → PenAt H' z c cells (t + 1) → Fw z H H' → Q y H'
def spNoWidth (C : Addr) : Sp := fun vs H Q _ => ∃ z c cells t, vs = [.ref z] ∧ PenAt H z c cells t ∧ t ≤ 80000 ∧ DrawnK C NoWidth z c cells t H Q
def spNoValue (C : Addr) : Sp := fun vs H Q _ => ∃ z c cells t, ∃ w : Nat, vs = [.ref z, .int w] ∧ PenAt H z c cells t ∧ t ≤ 80000 ∧ 1 ≤ w ∧ w ≤ 64 ∧ DrawnK C (NoVal w) z c cells t H Q
def spNoText (C : Addr) : Sp := fun vs H Q _ => ∃ z c cells t, ∃ w : Nat, vs = [.ref z, .int w] ∧ PenAt H z c cells t ∧ t ≤ 80000 ∧ 1 ≤ w ∧ w ≤ 64 ∧ DrawnK C NoBits z c cells t H Q
theorem NoBits.off {y : V} (h : ∀ z, y ≠ .str z) : NoBits y := fun z e => absurd e (h z)
theorem NoWidth.off {y : V} (h : ∀ n, y ≠ .int n) : NoWidth y := fun n e => absurd e (h n)
theorem NoVal.off {w : Nat} {y : V} (h : ∀ n, y ≠ .int n) : NoVal w y := fun n e => absurd e (h n)
theorem op_mul_str {X : Cx} : OpR X (binaryOp .Mult) (fun x y H Q => ∃ z n, x = .str z ∧ y = .int n ∧ MulOk z n ∧ Q (.str (Txt.mul z n)) H) := by
  intro pins s σ H x y v u Q I rx ry h
  obtain ⟨z, n, rfl, rfl, ok, q⟩ := h
  obtain ⟨t, rfl⟩ := rx
  obtain ⟨t', rfl⟩ := ry
  exact SB.mul ok fun t'' k => ⟨.str _, H, I.tok _, ⟨_, rfl⟩, q⟩
def bb : List Nat := (List.replicate 33 [48, 49]).flatten
theorem bb_mul : Txt.mul ("01" : Str) 33 = SX.S bb := by decide +kernel
theorem bb_bit : ∀ c ∈ bb, TzBit.IsBit c := by
  unfold TzBit.IsBit
  decide +kernel
theorem cutS_to {l : List Nat} {n : Nat} (h : n ≤ l.length) : cutS (SX.S l) none (some (n : Int)) = SX.S (l.take n) := by rw [C8.cutS_slice, SX.slice_to (by omega), Int.toNat_natCast]
theorem nob {s : Str} (c : Nat) (hl : s.length ≤ 64) (hc : c ∈ s.cps.toList) (nb : ¬ TzBit.IsBit c) : NoBits (.str s) := fun z e => by
  cases e
  exact .inr ⟨hl, c, hc, nb⟩
theorem rep_short {l : List Nat} (h : ∀ c ∈ l, c < 16 ^ 8) (n : l.length ≤ 90) : (reprText (SX.S l)).length ≤ 1000 := by
  have e := StrLaws.reprText_len (SX.S l) h
  have q : (SX.S l).length = l.length := SX.S_len l
  have s : (reprText (SX.S l)).length ≤ 10 * (SX.S l).length + 2 := by
    refine Nat.le_trans (Nat.le_of_eq ?_) e
    simp [Str.length]
  omega
theorem short2 {a b : Str} (ha : a.length ≤ 1000) (hb : b.length ≤ 1000) : (tupleText [a, b]).length ≤ sizeLine := short_tup (fun t ht => by
  rcases List.mem_cons.mp ht with rfl | ht
  · omega
  · rw [List.mem_singleton.mp ht]
    omega) (by show 2 ≤ 100; decide)
theorem exn {H H' : Hp} (e : Ex H H') : LamX.ExtN H H' := fun a o h _ => e a o h
structure ExcK (K : PySem.W.Frag) (D : Addr) : Prop where
  ha : PySem.W.findIn K (.ref D) "__class__" = some (some (.builtin "object.__class__"))
  hm : PySem.W.mroIn K D (.type "object") = some true
  kv : PySem.W.kitOne K (.ref D) (.type "ValueError") = some true
def excB (K : PySem.W.Frag) (D : Addr) : Bool := eqV (PySem.W.findIn K (.ref D) "__class__") (some (some (.builtin "object.__class__"))) && (decide (PySem.W.mroIn K D (.type "object") = some true) && decide (PySem.W.kitOne K (.ref D) (.type "ValueError") = some true))
theorem excK_ok {K : PySem.W.Frag} {D : Addr} (h : excB K D = true) : ExcK K D := by
  obtain ⟨h1, h⟩ := two h
  obtain ⟨h2, h3⟩ := two h
  exact ⟨of_decide_eq_true h1, of_decide_eq_true h2, of_decide_eq_true h3⟩
theorem new_two {C x dx : Addr} {H : Hp} (nx : H x = none) (ndx : H dx = none) (ne : dx ≠ x) : Ex H (upd (upd H dx (.own x)) x (.ins C dx [])) := fun b o h => by
  rw [upd_ne (ne_of_none h nx), upd_ne (ne_of_none h ndx)]
  exact h
end Tz
namespace TzFmt
open PySem PySem.Spec PyProof.Rows L2
/-- the digits of n to the base 2 -/
def bin (n : Nat) : PySem.Str := ⟨((Nat.toDigits 2 n).map Char.toNat).toArray⟩
def fb : PySem.Builtin.Float.FormatSpec := { align := 62, type := some 98 }
theorem pf (name : String) : PySem.Builtin.Float.parseFormatSpec ("b" : PySem.Str).cps.toList name 62 = .ok fb := by rfl
theorem field_b (n : Nat) : intField' fb false [] ((Nat.toDigits 2 n).map fun c => (if (98 : Nat) == 88 then c.toUpper else c).toNat) [] 4 = bin n := by
  have e1 : ((Nat.toDigits 2 n).map fun c => (if (98 : Nat) == 88 then c.toUpper else c).toNat) = (Nat.toDigits 2 n).map Char.toNat := rfl
  rw [e1]
  have e2 : ((Nat.toDigits 2 n).map Char.toNat).isEmpty = false := by
    have := tDigits_len_ge 2 n
    cases h : Nat.toDigits 2 n with
    | nil => rw [h] at this; simp at this
    | cons a l => rfl
  unfold bin
  generalize (Nat.toDigits 2 n).map Char.toNat = ds at e2
  unfold intField'
  have e3 : fb.width = none := rfl
  have e4 : fb.fill = 32 := rfl
  have e5 : fb.align = 62 := rfl
  have e6 : fb.grouping = none := rfl
  have e7 : fb.sign = none := rfl
  have e8 : (-1 - ((0 : Nat) : Int) - (ds.length : Int)).toNat = 0 := by omega
  simp [e2, e3, e4, e5, e6, e7]
  all_goals omega
section
variable {prog : Program} {w : World} {A : Around} {E : Value → Shared → Prop} {s : Shared}
theorem format_b {n : Nat} {t : Tok} {Q : Value → Shared → Prop} (hl : (bin n).length ≤ sizeLine) (h : Q (.str (bin n) (s.toks + 1)) { s with toks := s.toks + 1 + 1 }) : wpAny (model prog w) A (formatField (.int n t) "b") Q E s := by
  show wpAny _ _ (holding [.int (n : Int) t] (pyFormat (.int n t) "b")) Q E s
  refine wpAny_holding ?_
  unfold pyFormat
  refine wpAny_bind (wpAny_mkStr ?_ (by decide))
  refine wpAny_bind (m := callSpecial? (.int (n : Int) t) (Str.ofString "__format__") [.str "b" s.toks]) ?_
  refine wpAny_callSpecial?_slot (name := Str.ofString "__format__") (typeIs_int _ (n : Int) t) slot_int_format (wpAny_call (codeAny_call_builtin slot_int_format.plain entry_int_format (slot_int_format.check _ _ _ _ _ _ _ _ (typeIs_int _ (n : Int) t) (args_int_format _ _) ?_)))
  unfold Builtin.«int.__format__»
  simp only [selfAndOne, noKeywords, Builtin.Int.intOfSelf, asInt?, asStr?, List.isEmpty_nil, if_true, pure_bind, bind_pure, bind_assoc, show (Value.str "b" s.toks == Value.none) = false from rfl, show (("b" : PySem.Str).length == 0) = false from rfl, Bool.false_eq_true, if_false]
  refine wpAny_bind (wpAny_typeNameOf (T := "str") (typeIs_str _ "b" _) (by decide) fun _ => ?_)
  refine wpAny_bind (wpAny_typeNameOfCut_int ?_)
  simp only [pf]
  have hty : fb.type.getD (if (("b" : PySem.Str).cps.back? == some 0) = true then 0 else 100) = 98 := rfl
  simp only [hty]
  rw [if_pos (by decide)]
  have e0 : decide ((n : Int) < 0) = false := decide_eq_false (by omega)
  have fin := field_b n
  have h1 : fb.precision.isSome = false := rfl
  have h2 : fb.noNeg0 = false := rfl
  have h3 : fb.alt = false := rfl
  have h4 : fb.width = none := rfl
  have h5 : fb.fill = 32 := rfl
  have h6 : fb.align = 62 := rfl
  have h7 : fb.grouping = none := rfl
  have h8 : fb.sign = none := rfl
  generalize fb = f at h1 h2 h3 h4 h5 h6 h7 h8 fin
  show wpAny _ _ (if _ then _ else _) _ _ _
  rw [if_neg (by simp [h1])]
  show wpAny _ _ (if _ then _ else _) _ _ _
  rw [if_neg (by simp [h2])]
  show wpAny _ _ (if _ then _ else _) _ _ _
  rw [if_neg (by decide)]
  show wpAny _ _ (if _ then _ else _) _ _ _
  rw [if_neg (by decide)]
  show wpAny _ _ (if _ then _ else _) _ _ _
  rw [if_neg (by simp [h4])]
  show wpAny _ _ (retStr _) _ _ _
  unfold retStr
  rw [h3, if_neg (by decide), e0]
  have e2 : ((Nat.toDigits 2 (n : Int).natAbs).map fun c => (if (98 : Nat) == 88 then c.toUpper else c).toNat).isEmpty = false := by
    have := tDigits_len_ge 2 n
    show ((Nat.toDigits 2 n).map _).isEmpty = false
    cases h : Nat.toDigits 2 n with
    | nil => rw [h] at this; simp at this
    | cons a l => rfl
  have e3 : bin n = ⟨((Nat.toDigits 2 (n : Int).natAbs).map fun c => (if (98 : Nat) == 88 then c.toUpper else c).toNat).toArray⟩ := rfl
  rw [e3] at hl h
  generalize ((Nat.toDigits 2 (n : Int).natAbs).map fun c => (if (98 : Nat) == 88 then c.toUpper else c).toNat) = ds at e2 hl h
  have e8 : (-1 - (ds.length : Int)).toNat = 0 := by omega
  refine wpAny_bind (wpAny_mkStr (wpAny_pure ?_) ?hs2)
  case hs2 =>
    conv => lhs; arg 1; whnf
    simp only [h4, h5, h6, h7, h8]
    simp [e2, e8]
    generalize instDecidableEqBool (f.align == 60) true = d
    cases d <;> simpa using hl
  dsimp only
  refine wpAny_bind (wpAny_isInstance (typeIs_str _ _ _) isSubtype_str_str (wpAny_pure ?_))
  conv => arg 1; arg 1; whnf
  simp only [h4, h5, h6, h7, h8]
  simp [e2, e8]
  generalize instDecidableEqBool (f.align == 60) true = d
  cases d <;> simpa using h
end
end TzFmt
namespace TzTry
open PySem PySem.Spec PyProof.Rows L2
/-! an error that is caught and kept by another name: what stands behind the try is judged with the error at hand -/
/-- no end at all -/
def never : Ends := ⟨fun _ _ => False, fun _ _ => False, fun _ _ => False, fun _ _ => False⟩
/-- the only end is the last row's -/
def thenK (i : Nat) (t : TS) (D : Ends) : Ends := ⟨fun z J => t D (z.set i none) J, fun _ _ => False, fun _ _ => False, fun _ _ => False⟩
def wKeep (K : PySem.W.Frag) (D : Ends) (c : Value) (i : Nat) (ts t1 : Addr → Value → Option Addr → TS) : WX := fun k d z J => PySem.W.exmOne K k c = some true ∧ ∀ a, J a = none → ts a k d (thenK i (t1 a k d) D) (z.set i (some (.ref a))) J
section
variable {X : Cx} {body rest : List Stmt} {pos p1 p2 : Pos} {tb : WX → TS} {x n : Str} {i : Nat} {c : Value} {ts t1 : Addr → Value → Option Addr → TS} {st : Stmt} {sts : List Stmt}
theorem sp_tr {pins pn : List (Addr × Obj)} {p : Addr × Obj} {D : Ends} {fl : Flow} {s : Shared} (ok : X.Ok) (h : SP (X.tr (p :: (X.pn ++ pins)) X.xe) [] D fl s) : SP X pins D fl s := by
  have out : ∀ {σ H}, L2.Inv (X.tr (p :: (X.pn ++ pins)) X.xe) [] σ H s → L2.Inv X pins σ H s := fun I => ⟨ok, I.os, I.bare, I.base, I.loc, I.cell, I.free, I.freeC, fun q hq => I.pin q (List.mem_append_left _ (List.mem_cons_of_mem _ hq)), I.hok, I.len⟩
  cases fl with
  | next =>
    obtain ⟨z, J, I, q⟩ := h
    exact ⟨z, J, out I, q⟩
  | brk =>
    obtain ⟨z, J, I, q⟩ := h
    exact ⟨z, J, out I, q⟩
  | cont =>
    obtain ⟨z, J, I, q⟩ := h
    exact ⟨z, J, out I, q⟩
  | ret v =>
    obtain ⟨y, z, J, I, r, q⟩ := h
    exact ⟨y, z, J, out I, r, q⟩
theorem pss_keep (top : X.stack = X.env :: X.outer) (fr : X.env.frame = some X.env.locals) (nd : X.N.Nodup)
    (tries : ∀ (W : WX) (ps : List (Addr × Obj)) (out : Value → Shared → Prop), Takes (X.tr ps out) W → PassesOwn (model X.prog X.w) X.A X.env out → PSs (X.tr ps out) body (tb W))
    (known : Names X x c) (slot : X.N[i]? = some n) (loc : X.env.kindOf n = some .local)
    (suite : ∀ (a : Addr) (o : Obj) (k : Value) (d : Option Addr) (ps : List (Addr × Obj)), Zc k d o → (∃ us, o.data = .fields us) → PSs (X.suite a ((a, o) :: ps)) (st :: sts) (ts a k d))
    (behind : ∀ (a : Addr) (o : Obj) (k : Value) (d : Option Addr) (ps : List (Addr × Obj)), Zc k d o → (∃ us, o.data = .fields us) → PSs (X.tr ((a, o) :: ps) X.xe) rest (t1 a k d)) :
    PSs X (.Try body [.ExceptHandler (some (.Name x p1)) (some n) (st :: sts) p2] [] [] pos :: rest) (fun D z J => tb (atN X (wKeep X.K D c i ts t1)) never z J) := by
  refine ⟨fun pins s z J D I0 want => ?_⟩
  have fine := I0.ok
  have frames : X.A.frames = some (X.env :: X.outer) := by rw [fine.frames, top]
  have key : wpAny (model X.prog X.w) X.A (exec (.Try body [.ExceptHandler (some (.Name x p1)) (some n) (st :: sts) p2] [] [] pos) X.env) (fun fl s1 => fl = .next ∧ wpAny (model X.prog X.w) X.A (execs rest X.env) (SP X pins D) X.xe s1) X.xe s := by
    refine wpAny_Try_except ?_
    have inner := (tries (atN X (wKeep X.K D c i ts t1)) (X.pn ++ pins) (fun u s1 => wpAny (model X.prog X.w) X.A (noteFrame u X.env) (fun _ s2 => wpAny (model X.prog X.w) X.A (setFlight u none) (fun _ s3 => wpAny (model X.prog X.w) X.A (handleBy u X.env [.ExceptHandler (some (.Name x p1)) (some n) (st :: sts) p2]) (fun fl s1 => fl = .next ∧ wpAny (model X.prog X.w) X.A (execs rest X.env) (SP X pins D) X.xe s1) X.xe s3) X.xe s2) X.xe s1) (fun u s2 caught => ?_) PassesOwn.looking).run [] s z J never (I0.toTry _) want
    · refine wpAny_mono inner (fun fl s1 ends => ?_) fun u s1 q => q
      cases fl with
      | next =>
        obtain ⟨_, _, _, q⟩ := ends
        exact q.elim
      | brk =>
        obtain ⟨_, _, _, q⟩ := ends
        exact q.elim
      | cont =>
        obtain ⟨_, _, _, q⟩ := ends
        exact q.elim
      | ret v =>
        obtain ⟨_, _, _, _, _, q⟩ := ends
        exact q.elim
    · obtain ⟨a, B, sb, pins1, z1, J1, k, d, rfl, Ib, nb, upto, sky, na, os, bare, w⟩ := caught
      have I1 : L2.Inv X pins z1 J1 sb := Ib.ofTry fine
      rw [top] at sky
      show wpAny (model X.prog X.w) X.A (noteFrame (.ref a) X.env) _ _ _
      refine Sky.land Zc.steady frames fr sky fun h3 fl3 up3 => ?_
      have I3 : L2.Inv X pins z1 J1 { s2 with heap := h3 } := I1.landed nb fl3.1 (upto.trans up3) os bare
      obtain ⟨o3, us3, at3, zc3, dt3⟩ := fl3.there
      have apart : a ∉ frs (X.env :: X.outer) := fun hm => by
        obtain ⟨_, o', e', nf⟩ := fl3.2.2.1.mem hm
        rw [at3] at e'
        cases e'
        exact nf _ dt3
      have aL : a ≠ X.env.locals := fun q => apart (List.mem_filterMap.mpr ⟨X.env, List.mem_cons_self, by rw [fr, q]⟩)
      have aF : a ∉ X.fs := fun hm => by
        obtain ⟨e, he, q⟩ := List.mem_filterMap.mp hm
        exact apart (List.mem_filterMap.mpr ⟨e, List.mem_cons_of_mem _ he, q⟩)
      have S3 := I3.suite at3 dt3 na aL aF
      obtain ⟨is, yes⟩ := w I1.len
      refine wpAny_handleBy_cons (codeAny_handlers_test ?_) (by intro q; cases q)
      have T1 : PySem.W.Looks (model X.prog X.w) h3 (typeOf (.ref a)) k := fun A Q E s4 keeps q => wpAny_typeOf_ref (keeps _ _ at3) (by rw [zc3.1]; exact q)
      have T2 := PySem.W.exm_one (M := model X.prog X.w) I3.kIn T1 is
      have named : ∀ {Q : Value → Shared → Prop} {E : Value → Shared → Prop}, Q c { s2 with heap := h3 } → wpAny (model X.prog X.w) (X.A.mark (some (.ref a))) (eval (.Name x p1) X.env) Q E { s2 with heap := h3 } := fun {Q E} q => by
        obtain ⟨g, dbg, hm | ⟨hm, hv, hn⟩⟩ := known
        · exact ld_glob (X := X.suite a ((a, o3) :: (X.pn ++ pins))) S3 g hm q dbg
        · exact ld_blt (X := X.suite a ((a, o3) :: (X.pn ++ pins))) S3 g hm hv q hn dbg
      refine named (T2.here ?_)
      refine codeAny_handlers_suite_as ?_
      refine HandSPX.lands_againZ fl3 fun h4 fl4 up4 => ?_
      have I4 : L2.Inv X pins z1 J1 { s2 with heap := h4 } := I1.landed nb fl4.1 ((upto.trans up3).trans up4) os bare
      obtain ⟨o4, us4, at4, zc4, dt4⟩ := fl4.there
      have S4 := I4.suite at4 dt4 na aL aF
      refine store_ok (X := X.suite a ((a, o4) :: (X.pn ++ pins))) (v := .ref a) S4 nd slot (.inl loc) rfl (fun s5 S5 => ?_) (.inr loc)
      refine wpAny_mono ((suite a o4 k d (X.pn ++ pins) zc4 ⟨_, dt4⟩).run [] s5 _ J1 _ S5 (yes a na)) (fun fl s6 ends => ?_) fun _ _ q => False.elim q
      cases fl with
      | next =>
        obtain ⟨z6, J6, S6, q⟩ := ends
        have P6 : L2.Inv (X.tr ((a, o4) :: (X.pn ++ pins)) X.xe) [] z6 J6 s6 := ⟨fine.toTry _ _, S6.os, S6.bare, S6.base, S6.loc, S6.cell, S6.free, S6.freeC, S6.pin, S6.hok, S6.len⟩
        refine gone_ok (X := X.tr ((a, o4) :: (X.pn ++ pins)) X.xe) P6 nd slot loc fun s7 I7 => ⟨rfl, ?_⟩
        exact wpAny_mono ((behind a o4 k d (X.pn ++ pins) zc4 ⟨_, dt4⟩).run [] s7 _ J6 D I7 q) (fun fl s8 e => sp_tr (pn := []) fine e) fun _ _ e => e
      | brk =>
        obtain ⟨_, _, _, q⟩ := ends
        exact q.elim
      | cont =>
        obtain ⟨_, _, _, q⟩ := ends
        exact q.elim
      | ret v =>
        obtain ⟨_, _, _, _, _, q⟩ := ends
        exact q.elim
  refine wpAny_execs_cons (wpAny_mono key (fun fl s1 e => ?_) fun _ _ e => e)
  obtain ⟨rfl, q⟩ := e
  exact q
end
end TzTry
namespace Tz
open PySem PySem.Spec PyProof.Rows L2 TzF TzRepr
theorem call_isKept {X : Cx} {a : Addr} {k : Value} {d : Option Addr} {oe : Obj} (hp : (a, oe) ∈ X.pn) (hz : Zc k d oe) (hf : ∃ vs, oe.data = .fields vs) : CallR X (.builtin "isinstance") (rIsEd X.K a k d) := by
  intro pins s σ H xs us Q I r h
  obtain ⟨D, dd, fs, c, cv, b, rfl, C, rfl, ea, rfl, hcv, e, q⟩ := h
  cases r with
  | cons rx rr =>
    cases rr with
    | cons rt rr =>
      cases rr
      cases rx
      have ec := hcv _ rt
      subst ec
      obtain ⟨ha, _⟩ := I.pin (a, oe) (List.mem_append.mpr (.inl hp))
      obtain ⟨vs, hd⟩ := hf
      have hx : ObjOk X.prog X.w H s.heap dd (.xd fs) := I.hok dd _ ea
      obtain ⟨mA, hns, hr⟩ := hx
      obtain ⟨od, ho, hl⟩ := lookIn_ns hns
      have J : PySem.W.InstAt s.heap a oe D (some od) := ⟨ha, hz.1, by unfold PySem.W.notCls; rw [hd] <;> rfl, by rw [hz.2]; exact ho⟩
      have hcl : (PySem.W.clsIn X.K D).isSome = true := by
        obtain ⟨cd, hc, _⟩ := PySem.W.any_some C.hd
        rw [hc]
        rfl
      exact PySem.W.kia_one (PySem.W.kitx_exc hcl C.hg C.hk C.hs C.ha C.hn C.ht C.hm) I.kIn J e (fun z => nomatch z) fun tk => ⟨.bl b, H, I.kept (t' := tk) fun _ _ z => z, rfl, q⟩
theorem pe_xfKept {X : Cx} {a C : Addr} {oe : Obj} {cls : Value} {d : Option Addr} {e : Expr} {te : TE} {pos : Pos} {n : Str} (hp : (a, oe) ∈ X.pn) (T : XfC X.K C) (hno : PySem.W.findIn X.K (.ref C) n = some none)
    (hz : Zc cls d oe) (hf : ∃ vs, oe.data = .fields vs) (he : PE X e te) (hb : attributeBase e n X.env (eval e X.env) = eval e X.env := by rfl) : PE X (.Attribute e n pos) (tXf a cls d C n te) := by
  refine ⟨fun pins s σ H Q I h => attr_of hb (thn (he.run pins s σ H _ I h) fun u s1 hh => ?_)⟩
  obtain ⟨x, H1, I1, rx, ex, ec, dd, fs, v, ed, ea, l, q⟩ := hh
  subst ex ec ed
  obtain rfl : u = Value.ref a := rx
  obtain ⟨ha, _⟩ := I1.pin (a, oe) (List.mem_append_left _ hp)
  obtain ⟨vs, hd⟩ := hf
  obtain ⟨mA, hns, hr⟩ := (show ObjOk X.prog X.w H1 s1.heap dd (.xd fs) from I1.hok dd _ ea)
  obtain ⟨od, ho, hl⟩ := lookIn_ns hns
  obtain ⟨u, hu, ru⟩ := RelO.some_of (v := v) (o := mA n) (by rw [← l]; exact hr n)
  exact HandSPX.exc_get I1.kIn (show PySem.W.InstAt s1.heap a oe C (some od) from ⟨ha, hz.1, by unfold PySem.W.notCls; rw [hd] <;> rfl, by rw [hz.2]; exact ho⟩) T.ga T.gg T.exC (PySem.W.findObj_own T.hdC hno rfl (by rw [hl, hu])) (handed_of ru) ⟨v, H1, I1.tok _, ru, q⟩
/-- f'{x:b}' -/
def tFmtB (te ts : TE) : TE := fun σ H Q => te σ H fun x H1 => ∃ n : Nat, x = .int n ∧ (TzFmt.bin n).length ≤ sizeLine ∧ ts σ H1 fun y H2 => y = .str "b" ∧ Q (.str (TzFmt.bin n)) H2
theorem pe_fmtb {X : Cx} {e sp : Expr} {te ts : TE} {pos : Pos} (he : PE X e te) (hs : PE X sp ts) : PE X (.FormattedValue e (-1) (some sp) pos) (tFmtB te ts) := by
  refine ⟨fun pins s σ H Q I h => wpAny_FormattedValue_spec (thn (he.run pins s σ H _ I h) fun v s1 hv => ?_)⟩
  obtain ⟨x, H1, I1, r1, n, rfl, hl, q⟩ := hv
  obtain ⟨t, rfl⟩ := r1
  refine thn (hs.run pins s1 σ H1 _ I1 q) fun u s2 hu => ?_
  obtain ⟨y, H2, I2, r2, rfl, q⟩ := hu
  obtain ⟨t2, rfl⟩ := r2
  exact ⟨_, _, rfl, TzFmt.format_b hl ⟨.str (TzFmt.bin n), H2, I2.tok _, ⟨_, rfl⟩, q⟩⟩
end Tz
namespace Tz
open PySem PySem.Spec PyProof.Rows L2 TzF TzRepr TzNum
def big : Nat := 1267650600228229401496703205376
def spOrderOf (B : Addr) : Sp := fun vs H Q E => ∃ n : Nat, vs = [.int n] ∧ 1 ≤ n ∧ n ≤ big ∧
  ((∃ k : Nat, k ≤ 5040 ∧ Ord n k ∧ Q (.int k) H) ∨ ((∀ j, 1 ≤ j → j ≤ 5040 → ¬ Dv n j) ∧ Flies B [("most", .int 5040), ("what", .str "length")] H E))
def spShared : Sp := fun vs H Q _ => ∃ n w : Nat, vs = [.int n, .int w] ∧ 1 ≤ n ∧ n ≤ big ∧ w ≤ big ∧ Q (.int ((Nat.gcd n (2 ^ w - 1) : Nat) : Int)) H
def spDrawX : Sp := fun vs H Q _ => ∃ z c cells t many, vs = [.ref z, .int many] ∧ PenAt H z c cells t ∧ t ≤ 100000 ∧ 0 < many ∧ many ≤ 10000000000000000000000000 ∧
  ∀ n H', 0 ≤ n → n < many → PenAt H' z c cells (t + 1) → Fw z H H' → Q (.int n) H'
def spPick : Sp := fun vs H Q _ => ∃ z c cells t l, ∃ xs : List V, vs = [.ref z, .ref l] ∧ PenAt H z c cells t ∧ t ≤ 100000 ∧ H l = some (.lst xs) ∧ 0 < xs.length ∧ xs.length ≤ 100 ∧ l ≠ z ∧
  ∀ (j : Nat) y H', xs[j]? = some y → PenAt H' z c cells (t + 1) → Fw z H H' → Q y H'
def spLGcd : Sp := fun vs H Q _ => ∃ a b : Nat, vs = [.int a, .int b] ∧ a ≤ big ∧ b ≤ big ∧ Q (.int ((Nat.gcd a b : Nat) : Int)) H
def spLOrder : Sp := fun vs H Q _ => ∃ n m : Nat, vs = [.int n] ∧ 1 ≤ n ∧ Ord n m ∧ ∀ H', Ex H H' → Q (.int m) H'
theorem draw_pwA {cell ix a b : Int} (h0 : 0 ≤ ix) (h1 : ix ≤ 100000) (ha : 0 ≤ a) (ha2 : a ≤ 1000000) (hb : 0 ≤ b) (hb2 : b ≤ 1000000) : CPow (cell % 2147483563 + a * ix + b) 3 := by
  have h := emod_bd (a := cell) (m := 2147483563) (by decide)
  have m := mul_bd ha ha2 h0 h1
  exact cpow_of (by omega) (by omega) (by decide) (by decide)
theorem draw_pwB {m ix c d e : Int} (h0 : 0 ≤ ix) (h1 : ix ≤ 100000) (m0 : 0 ≤ m) (m1 : m < 2147483629) (hc : 0 ≤ c) (hc2 : c ≤ 1000000) (hd : 0 ≤ d) (hd2 : d ≤ 1000000) (he : 0 ≤ e) (he2 : e ≤ 1000000) :
    CPow (m * (2 * ix + c) + d * ix * ix + e) 5 := by
  have a := mul_bd m0 (A := 2147483629) (by omega) (b := 2 * ix + c) (by omega) (B := 1200000) (by omega)
  have b := mul_bd hd hd2 h0 h1
  have g := mul_bd b.1 b.2 h0 h1
  exact cpow_of (by omega) (by omega) (by decide) (by decide)
theorem passE0 {X : Cx} : Passes (L2.CX X.prog X.w) X E0 := fun _ _ _ _ _ _ _ ⟨_, _, _, _, _, _, _, _, _, _, _, _, h⟩ => h.elim
def kwA {α : Type} : List α → List α → List α
  | [], [b] => [b]
  | _, _ => []
theorem kwA_vals {vs : List V} {us : List Value} {zs : List V} {ws : List Value} (r : Vals vs us) (z : Vals zs ws) : Vals (kwA vs zs) (kwA us ws) := by
  cases r with
  | nil =>
    cases z with
    | nil => exact .nil
    | cons h z =>
      cases z with
      | nil => exact .cons h .nil
      | cons _ _ => exact .nil
  | cons _ _ => exact .nil
def kwB {α : Type} : List α → List α → List α
  | [], [a, b] => [a, b]
  | _, _ => []
theorem kwB_vals {vs : List V} {us : List Value} {zs : List V} {ws : List Value} (r : Vals vs us) (z : Vals zs ws) : Vals (kwB vs zs) (kwB us ws) := by
  cases r with
  | nil =>
    cases z with
    | nil => exact .nil
    | cons h z =>
      cases z with
      | nil => exact .nil
      | cons g z =>
        cases z with
        | nil => exact .cons h (.cons g .nil)
        | cons _ _ => exact .nil
  | cons _ _ => exact .nil
/-- f(k = e, ..), by keywords alone -/
theorem pe_callK0 {X : Cx} {CX : CXT} {k : Nat} {f : Addr} {fd : FuncData} {ps ks : List Str} {sp : Sp} {E : XK} {x : Str} {p pos : Pos} {kws : List Keyword} {tk : TA} {g : List Value → List Value → List Value} {gV : List V → List V → List V}
    (F : FnOk X.prog X.w X.K X.mg X.base CX k f fd ps sp) (hr : Room k X.A) (gl : Gl X x) (hm : X.mg x = some (.ref f)) (hk : PySem.W.keepIn X.K (.ref f) = true) (hb : KBinds X.K fd ps ks g gV) (hx : Passes CX X E) (hkw : PK X kws tk)
    (hall : (backToKw pos (keywordEach kws X.env)).all (·.1.isSome) = true := by rfl) (hks : (backToKw pos (keywordEach kws X.env)).filterMap (·.1) = ks := by rfl) (hdb : (x == ("__debug__" : Str)) = false := by decide)
    (hpl : ((backTo pos (starEach [] X.env)).any (·.1) || (backToKw pos (keywordEach kws X.env)).any (·.1.isNone)) = false := by rfl) : PE X (.Call (.Name x p) [] kws pos) (fun σ H Q => tk σ H fun zs H2 => sp (gV [] zs) H2 Q E) := by
  refine ⟨fun pins s σ H Q I h => wpAny_Call_Name_kw (ld_glob I gl hm ?_ hdb)⟩
  refine PySem.W.callWith_KW0 (first := []) (h₀ := X.base) I.ok.mod.kin hk hall (thn (hkw.run pos pins s σ H _ I h) fun ws s2 ⟨zs, H2, I2, rz, q⟩ => ⟨I2.kIn, ?_⟩) hpl
  rw [hks]
  exact run_fnk (us := []) (vs := []) F hr hb hx I2 .nil rz q
def spRefused : Sp := fun vs H Q _ => ∃ n : Nat, vs = [.int n] ∧ 1 ≤ n ∧ n ≤ big ∧ (∀ j, 1 ≤ j → j ≤ 5040 → ¬ Dv n j) ∧ ∀ H', Ex H H' → Q (.bl true) H'
/-- the error of order_of, in flight -/
def Long (B : Addr) (H0 : Hp) : XK := fun k d J => Ex H0 J ∧ k = .ref B ∧ ∃ dd, d = some dd ∧ J dd = some (.xd [("most", .int 5040), ("what", .str "length")])
theorem fly_long {B : Addr} {H : Hp} : Flies B [("most", .int 5040), ("what", .str "length")] H (Long B H) := fun d H' e q => ⟨e, rfl, d, rfl, q⟩
theorem what_data {K : PySem.W.Frag} {H : Hp} {p : Addr} (h : H p = some (.tup [.str "length", .int 5040])) : Dp K H (.ref p) (.tuple [.str "length", .int 5040]) := .tup (.inl (.inl h)) (.cons (.str _) (.cons (.int _) .nil))
end Tz
namespace Tz
open PySem PySem.Spec PyProof.Rows L2 TzF TzRepr Mx
/-! ### matrices on the heap: rows that are lists (b = false) or tuples (b = true) -/
def ro (b : Bool) (vs : List V) : HO := if b then .tup vs else .lst vs
def cells (m : Nat) (f : Nat → V) : List V := (List.range m).map f
abbrev rint (m : Nat) (f : Nat → Int) : List V := cells m fun j => V.int (f j)
theorem cells_len {m : Nat} {f : Nat → V} : (cells m f).length = m := by
  unfold cells
  rw [List.length_map, List.length_range]
theorem cells_get {m i : Nat} {f : Nat → V} (h : i < m) : (cells m f)[i]? = some (f i) := by
  unfold cells
  rw [List.getElem?_map, List.getElem?_range h]
  rfl
theorem cells_at {m i : Nat} {f : Nat → V} {x : V} (h : (cells m f)[i]? = some x) : i < m ∧ x = f i := by
  have l := (List.getElem?_eq_some_iff.mp h).1
  rw [cells_len] at l
  rw [cells_get l] at h
  exact ⟨l, (Option.some.inj h).symm⟩
theorem cells_congr {m : Nat} {f g : Nat → V} (h : ∀ i, i < m → f i = g i) : cells m f = cells m g := by
  unfold cells
  exact List.map_congr_left fun i hi => h i (List.mem_range.mp hi)
theorem cells_snoc {m : Nat} {f : Nat → V} : cells (m + 1) f = cells m f ++ [f m] := by
  unfold cells
  rw [List.range_succ, List.map_append]
  rfl
theorem rint_map {m : Nat} {f : Nat → Int} : rint m f = ((List.range m).map f).map V.int := by
  unfold rint cells
  rw [List.map_map]
  rfl
structure MatX (bo b : Bool) (H : Hp) (p : Addr) (xs : List Addr) (n m : Nat) (f : Fn2) : Prop where
  at_ : H p = some (ro bo (xs.map V.ref))
  len : xs.length = n
  row : ∀ (i : Nat) (x : Addr), xs[i]? = some x → H x = some (ro b (rint m (f i)))
theorem MatX.ex {bo b : Bool} {H H' : Hp} {p : Addr} {xs : List Addr} {n m : Nat} {f : Fn2} (h : MatX bo b H p xs n m f) (e : Ex H H') : MatX bo b H' p xs n m f := ⟨e _ _ h.at_, h.len, fun i x q => e _ _ (h.row i x q)⟩
theorem MatX.congr {bo b : Bool} {H : Hp} {p : Addr} {xs : List Addr} {n m : Nat} {f g : Fn2} (h : MatX bo b H p xs n m f) (e : ∀ i j, i < n → j < m → f i j = g i j) : MatX bo b H p xs n m g := ⟨h.at_, h.len, fun i x q => by
  have l := (List.getElem?_eq_some_iff.mp q).1
  rw [h.len] at l
  rw [h.row i x q, show rint m (f i) = rint m (g i) from cells_congr fun j hj => by rw [e i j l hj]]⟩
theorem MatX.get {bo b : Bool} {H : Hp} {p : Addr} {xs : List Addr} {n m i : Nat} {f : Fn2} (h : MatX bo b H p xs n m f) (hi : i < n) : ∃ x, xs[i]? = some x ∧ H x = some (ro b (rint m (f i))) := by
  have l : i < xs.length := by rw [h.len]; exact hi
  exact ⟨xs[i], List.getElem?_eq_getElem l, h.row i _ (List.getElem?_eq_getElem l)⟩
/-- a new matrix, all of it new -/
def NewX (bo b : Bool) (n m : Nat) (f : Fn2) (H : Hp) (Q : VK) : Prop := ∀ p xs H', H p = none → (∀ x ∈ xs, H x = none ∧ x ≠ p) → xs.Nodup → Ex H H' → MatX bo b H' p xs n m f → Q (.ref p) H'
theorem back_none {H H' : Hp} (e : Ex H H') {q : Addr} (h : H' q = none) : H q = none := by
  cases z : H q with
  | none => rfl
  | some o => rw [e _ _ z] at h; cases h
theorem sqT {K : PySem.W.Frag} {H : Hp} {a : Addr} {xs : List V} (h : H a = some (.tup xs)) : SqT K H a xs := Or.inl (Or.inl h)
/-! ### comprehensions that make values, or new rows -/
section
variable {J : It} {n : Nat} {G : Hp → Prop} {Y : Nat → Hp → V → Hp → Prop}
theorem lc_vals (w : Walk J n G Y) {g : TG} {te : TE} {vs : List Nat} {σ : L2.St} {H1 : Hp} {D : Addr} {Qd : Hp → Prop} (f : Nat → V) (nD : H1 D = none) (hn : n ≤ 1000) (hG : ∀ H, Ex H1 H → G H)
    (hs : ∀ i x H H', i < n → Ex H1 H → Y i H x H' → ∀ R : VK, (∀ y H4, y = f i → Ex H H4 → R y H4) → g x (wipe σ vs) H' fun σ2 H2 => wipe σ2 vs = wipe σ vs ∧ te σ2 H2 R)
    (hd : ∀ H, Ex H1 H → H D = some (.lst (cells n f)) → Qd H) :
    ∃ W : Nat → Nat → Hp → Prop, (∃ m, W 0 m (upd H1 D (.lst []))) ∧ ∀ i m H, W i m H →
      (J.stop i H ∧ Qd H) ∨ (J.go i H ∧ ∃ Nx : Hp → Prop, (∀ H', Nx H' → ∃ m', m' < m ∧ W (i + 1) m' H') ∧ ∀ x H', J.yld i H x H' → g x (wipe σ vs) H' fun σ2 H2 => wipe σ2 vs = wipe σ vs ∧ tYes σ2 H2 fun b H3 =>
        if b = true then te σ2 H3 fun y H4 => ∃ acc, H4 D = some (.lst acc) ∧ acc.length < sizeLine ∧ Nx (upd H4 D (.lst (acc ++ [y]))) else Nx H3) := by
  refine lc_it w (fun i H => Ex H1 H ∧ H D = some (.lst (cells i f))) ⟨Ex.new nD, upd_same⟩ (fun i H _ h => hG H h.1) ?_ (fun H h => hd H h.1 h.2)
  intro i x H H' hi ⟨e, hD⟩ y
  simp only [tYes, if_true]
  refine hs i x H H' hi e y _ fun y H4 hy e4 => ?_
  subst hy
  refine ⟨_, e4 _ _ hD, by rw [cells_len]; exact Nat.lt_of_lt_of_le (show _ < 1000 by omega) (by decide), fun a o q => ?_, ?_⟩
  · rw [upd_ne (fun z => by subst z; rw [nD] at q; cases q)]
    exact e4 _ _ (e _ _ q)
  · rw [upd_same, cells_snoc]
theorem lc_rows (w : Walk J n G Y) {g : TG} {te : TE} {vs : List Nat} {σ : L2.St} {H1 : Hp} {D : Addr} {Qd : Hp → Prop} {b : Bool} {m : Nat} (f : Fn2) (nD : H1 D = none) (hn : n ≤ 1000) (hG : ∀ H, Ex H1 H → G H)
    (hs : ∀ i x H H', i < n → Ex H1 H → Y i H x H' → ∀ R : VK, (∀ q H4, H q = none → Ex H H4 → H4 q = some (ro b (rint m (f i))) → R (.ref q) H4) → g x (wipe σ vs) H' fun σ2 H2 => wipe σ2 vs = wipe σ vs ∧ te σ2 H2 R)
    (hd : ∀ xs H, Ex H1 H → (∀ x ∈ xs, H1 x = none ∧ x ≠ D) → xs.Nodup → MatX false b H D xs n m f → Qd H) :
    ∃ W : Nat → Nat → Hp → Prop, (∃ m, W 0 m (upd H1 D (.lst []))) ∧ ∀ i m H, W i m H →
      (J.stop i H ∧ Qd H) ∨ (J.go i H ∧ ∃ Nx : Hp → Prop, (∀ H', Nx H' → ∃ m', m' < m ∧ W (i + 1) m' H') ∧ ∀ x H', J.yld i H x H' → g x (wipe σ vs) H' fun σ2 H2 => wipe σ2 vs = wipe σ vs ∧ tYes σ2 H2 fun b H3 =>
        if b = true then te σ2 H3 fun y H4 => ∃ acc, H4 D = some (.lst acc) ∧ acc.length < sizeLine ∧ Nx (upd H4 D (.lst (acc ++ [y]))) else Nx H3) := by
  refine lc_it w (fun i H => Ex H1 H ∧ ∃ xs, (∀ x ∈ xs, H1 x = none ∧ x ≠ D) ∧ xs.Nodup ∧ MatX false b H D xs i m f) ⟨Ex.new nD, [], (fun x h => by cases h), List.nodup_nil, upd_same, rfl, fun i x q => by simp at q⟩ (fun i H _ h => hG H h.1) ?_ (fun H ⟨e, xs, a, d, M⟩ => hd xs H e a d M)
  intro i x H H' hi ⟨e, xs, hx, nd, M⟩ y
  simp only [tYes, if_true]
  refine hs i x H H' hi e y _ fun q H4 nq e4 hq => ?_
  have qD : q ≠ D := fun z => by
    subst z
    rw [M.at_] at nq
    cases nq
  have qx : q ∉ xs := fun h => by
    obtain ⟨j, hj, rfl⟩ := List.mem_iff_getElem.mp h
    rw [M.row j _ (List.getElem?_eq_getElem hj)] at nq
    cases nq
  have nq1 : H1 q = none := back_none e nq
  refine ⟨_, e4 _ _ M.at_, by rw [List.length_map, M.len]; exact Nat.lt_of_lt_of_le (show _ < 1000 by omega) (by decide), fun a o h => ?_, xs ++ [q], fun z hz => ?_, ?_, ?_, ?_, fun j z hz => ?_⟩
  · rw [upd_ne (fun z => by subst z; rw [nD] at h; cases h)]
    exact e4 _ _ (e _ _ h)
  · rcases List.mem_append.mp hz with h | h
    · exact hx z h
    · rw [List.mem_singleton.mp h]
      exact ⟨nq1, qD⟩
  · exact List.nodup_append.mpr ⟨nd, List.nodup_cons.mpr ⟨List.not_mem_nil, List.nodup_nil⟩, fun a ha c hc => by
      rw [List.mem_singleton.mp hc]
      exact fun z => qx (z ▸ ha)⟩
  · rw [upd_same, List.map_append]
    rfl
  · rw [List.length_append, M.len]
    rfl
  · by_cases hj : j < xs.length
    · rw [List.getElem?_append_left hj] at hz
      rw [upd_ne (hx z (List.mem_of_getElem? hz)).2]
      exact e4 _ _ (M.row j z hz)
    · have l := (List.getElem?_eq_some_iff.mp hz).1
      rw [List.length_append, List.length_singleton] at l
      have ej : j = xs.length := by omega
      subst ej
      rw [List.getElem?_append_right (Nat.le_refl _), Nat.sub_self] at hz
      cases hz
      rw [upd_ne qD, hq, M.len]
end
/-! ### walks -/
section
variable {K : PySem.W.Frag} {a p : Addr} {m : Nat} {f : Nat → V} {xs : List Addr}
theorem walk_cellsL : Walk (Itl K a) m (fun H => H a = some (.lst (cells m f))) (YFn f) := by
  have := (walk_list (K := K) (a := a) (xs := cells m f)).mono (G' := fun H => H a = some (.lst (cells m f))) (Y' := YFn f) (fun H h => sq h) fun i H x H' hi _ y => ⟨y.1, (cells_at y.2).2⟩
  rwa [cells_len] at this
theorem walk_cellsT : Walk (Itt K a) m (fun H => H a = some (.tup (cells m f))) (YFn f) := by
  have := (walk_tup (K := K) (a := a) (xs := cells m f)).mono (G' := fun H => H a = some (.tup (cells m f))) (Y' := YFn f) (fun H h => sqT h) fun i H x H' hi _ y => ⟨y.1, (cells_at y.2).2⟩
  rwa [cells_len] at this
def YRow (xs : List Addr) : Nat → Hp → V → Hp → Prop := fun i H x H' => H' = H ∧ ∃ a, xs[i]? = some a ∧ x = .ref a
theorem yrow {i : Nat} {x : V} (y : (xs.map V.ref)[i]? = some x) : ∃ a, xs[i]? = some a ∧ x = .ref a := by
  rw [List.getElem?_map] at y
  cases h : xs[i]? with
  | none => rw [h] at y; cases y
  | some a => rw [h] at y; exact ⟨a, rfl, (Option.some.inj y).symm⟩
theorem walk_rowsL {n : Nat} (hn : xs.length = n) : Walk (Itl K p) n (fun H => H p = some (.lst (xs.map V.ref))) (YRow xs) := by
  have := (walk_list (K := K) (a := p) (xs := xs.map V.ref)).mono (G' := fun H => H p = some (.lst (xs.map V.ref))) (Y' := YRow xs) (fun H h => sq h) fun i H x H' hi _ y => ⟨y.1, yrow y.2⟩
  rwa [List.length_map, hn] at this
theorem walk_rowsT {n : Nat} (hn : xs.length = n) : Walk (Itt K p) n (fun H => H p = some (.tup (xs.map V.ref))) (YRow xs) := by
  have := (walk_tup (K := K) (a := p) (xs := xs.map V.ref)).mono (G' := fun H => H p = some (.tup (xs.map V.ref))) (Y' := YRow xs) (fun H h => sqT h) fun i H x H' hi _ y => ⟨y.1, yrow y.2⟩
  rwa [List.length_map, hn] at this
end
end Tz
namespace Tz
open PySem PySem.Spec PyProof.Rows L2 TzF TzRepr Mx
/-! ### the program's own matrices -/
def Sm (n m : Nat) (f : Fn2) : Prop := ∀ i j, i < n → j < m → -(2 ^ 64) < f i j ∧ f i j < 2 ^ 64
def spIdentity : Sp := fun vs H Q _ => ∃ n : Nat, vs = [.int n] ∧ n ≤ 8 ∧ NewX false false n n dl H Q
def spTimesCol (b : Bool) : Sp := fun vs H Q _ => ∃ (p c : Addr) (xs : List Addr) (h n : Nat) (f : Fn2) (g : Nat → Int), vs = [.ref p, .ref c] ∧ MatX false false H p xs h n f ∧ h ≤ 8 ∧ n ≤ 8 ∧ Sm h n f ∧ H c = some (ro b (rint n g)) ∧
  ∀ q H', H q = none → Ex H H' → H' q = some (.lst (rint h fun i => sg n fun k => f i k * g k)) → Q (.ref q) H'
def spTimesM (b1 b2 : Bool) : Sp := fun vs H Q _ => ∃ (p q : Addr) (xs ys : List Addr) (h n m : Nat) (f g : Fn2), vs = [.ref p, .ref q, .int m] ∧ MatX b1 b1 H p xs h n f ∧ MatX b2 b2 H q ys n m g ∧ h ≤ 8 ∧ n ≤ 8 ∧ m ≤ 8 ∧ Sm n m g ∧
  NewX false false h m (ml n f g) H Q
end Tz
namespace Tz
open PySem PySem.Spec PyProof.Rows L2 TzF TzRepr Mx
/-! ### rules within comprehensions -/
section
variable {X : Cx} {K : PySem.W.Frag}
def rLenS (K : PySem.W.Frag) : List V → Hp → VK → Prop := fun xs H Q => ∃ p ys, xs = [.ref p] ∧ (SqL K H p ys ∨ SqT K H p ys) ∧ Q (.int ys.length) H
def rListO (K : PySem.W.Frag) : List V → Hp → VK → Prop := fun xs H Q => ∃ p ys, xs = [.ref p] ∧ (SqL K H p ys ∨ SqT K H p ys) ∧ ∀ l, H l = none → Q (.ref l) (upd H l (.lst ys))
def rTupO (K : PySem.W.Frag) : List V → Hp → VK → Prop := fun xs H Q => ∃ p ys, xs = [.ref p] ∧ ((SqL K H p ys ∧ ∀ l, H l = none → Q (.ref l) (upd H l (.tup ys))) ∨ (SqT K H p ys ∧ Q (.ref p) H))
theorem cr_lenK (hK : X.K = K) : CallR X (.builtin "len") (rLenS K) := by
  subst hK
  exact call_len_seq
theorem cr_listK (hK : X.K = K) : CallR X (.type "list") (rListO K) := by
  subst hK
  exact call_list_of
theorem cr_tupK (hK : X.K = K) : CallR X (.type "tuple") (rTupO K) := by
  subst hK
  exact call_tuple_of
theorem cr_sumK (hK : X.K = K) (hc : X.calm = true) : CallR X (.builtin "sum") (rSum K) := by
  subst hK
  exact cr_sum hc
theorem cr_allK (hK : X.K = K) (hc : X.calm = true) : CallR X (.builtin "all") (rAll K) := by
  subst hK
  exact cr_all hc
theorem cr_isiK (hK : X.K = K) : CallR X (.builtin "isinstance") (rIsi K) := by
  subst hK
  exact call_isi
end
section
variable {X : Cx} {K : PySem.W.Frag} {e e2 : Expr} {te : TE} {ta : TA} {p pos tpos : Pos} {elts : List Expr} {kk : Nat}
theorem pi_listK {tg l : Expr} (hK : X.K = K) (hl : PE X l te) : PI X tg l (iList K te) := by
  subst hK
  exact pi_list hl
theorem pi_tupK {tg l : Expr} (hK : X.K = K) (hl : PE X l te) : PI X tg l (iTup K te) := by
  subst hK
  exact pi_tup hl
theorem pi_zipAK (hK : X.K = K) (hg : Gl X "zip") (hm : X.mg "zip" = none) (ha : PA X [e, e2] ta)
    (hs : starEach [e, e2] X.env = (false, eval e X.env) :: starEach [e2] X.env := by rfl) (hpl : (backTo pos (starEach [e2] X.env)).any (·.1) = false := by rfl) :
    PI X (.Tuple elts kk tpos) (.Call (.Name "zip" p) [e, e2] [] pos) (RZ.iZipA K ta) := by
  subst hK
  exact RZ.pi_zipA hg hm ha hs hpl
theorem pi_zipMK (hK : X.K = K) (hg : Gl X "zip") (hm : X.mg "zip" = none) (ha : PA X [e, e2] ta)
    (hs : starEach [e, e2] X.env = (false, eval e X.env) :: starEach [e2] X.env := by rfl) (hpl : (backTo pos (starEach [e2] X.env)).any (·.1) = false := by rfl) :
    PI X (.Tuple elts kk tpos) (.Call (.Name "zip" p) [e, e2] [] pos) (TzZip.iZipM K ta) := by
  subst hK
  exact TzZip.pi_zipM hg hm ha hs hpl
end
end Tz
namespace Tz
open PySem PySem.Spec PyProof.Rows L2 TzF TzRepr Mx
def YTwo (f g : Nat → V) : Nat → Hp → V → Hp → Prop := fun i H v H' => ∃ T, v = .ref T ∧ H T = none ∧ H' = upd H T (.tup [f i, g i])
theorem ytwo {n i : Nat} {f g : Nat → V} {H H' : Hp} {v : V} (hi : i < n) (y : YPair (fun i => (cells n f)[i]?) (fun i => (cells n g)[i]?) i H v H') : YTwo f g i H v H' := by
  obtain ⟨T, x, y, rfl, hT, e, hx, hy⟩ := y
  dsimp only at hx hy
  rw [cells_get hi] at hx hy
  cases hx
  cases hy
  exact ⟨T, rfl, hT, e⟩
theorem walk_zipL {K : PySem.W.Frag} {a c : Addr} {n : Nat} {f g : Nat → V} : Walk (Itz K a c) n (fun H => H a = some (.lst (cells n f)) ∧ H c = some (.lst (cells n g))) (YTwo f g) :=
  (walk_zip (K := K) (a := a) (b := c) (xs := cells n f) (ys := cells n g) (by rw [cells_len, cells_len, Nat.min_self])).mono (fun H h => ⟨sq h.1, sq h.2⟩) fun i H x H' hi _ y => ytwo hi y
theorem walk_zipLT {K : PySem.W.Frag} {a c : Addr} {n : Nat} {f g : Nat → V} : Walk (TzZip.ItM K a c) n (fun H => H a = some (.lst (cells n f)) ∧ H c = some (.tup (cells n g))) (YTwo f g) :=
  (TzZip.walkM (K := K) (a := a) (b := c) (xs := cells n f) (ys := cells n g) (by rw [cells_len, cells_len, Nat.min_self])).mono (fun H h => ⟨sq h.1, sqT h.2⟩) fun i H x H' hi _ y => ytwo hi y
/-- the sum of a new list of ints -/
theorem sumC {K : PySem.W.Frag} {H : Hp} {D : Addr} {n : Nat} {f : Nat → Int} {Q : VK} (h : H D = some (.lst (rint n f))) (q : Q (.int (sg n f)) H) : rSum K [.ref D] H Q :=
  ⟨D, (List.range n).map f, rfl, by rw [← rint_map]; exact sq h, by rw [sum_range]; exact q⟩
end Tz
namespace Tz
open PySem PySem.Spec PyProof.Rows L2 TzF TzRepr Mx
/-! ### whole numbers among ints and bools -/
def wh : V → Bool
  | .int _ => true
  | _ => false
def IB (v : V) : Prop := (∃ n, v = .int n) ∨ ∃ b, v = .bl b
def spWholeC : Sp := fun vs H Q _ => ∃ v, vs = [v] ∧ IB v ∧ Q (.bl (wh v)) H
def spFromC : Sp := fun vs H Q _ => ∃ n lo hi : Int, vs = [.int n, .int lo, .int hi] ∧ ∀ b, (b = true ↔ lo ≤ n ∧ n ≤ hi) → Q (.bl b) H
end Tz
namespace Tz
open PySem PySem.Spec PyProof.Rows L2 TzF TzRepr Mx
/-! ### rows that are no fault -/
def Bd (b : Int) (n m : Nat) (f : Fn2) : Prop := ∀ i j, i < n → j < m → -b ≤ f i j ∧ f i j ≤ b
def spIsRow : Sp := fun vs H Q _ => ∃ (x : Addr) (m : Nat) (f : Nat → Int), vs = [.ref x] ∧ H x = some (.lst (rint m f)) ∧ m ≤ 6 ∧ (∀ j, j < m → -1000000 ≤ f j ∧ f j ≤ 1000000) ∧ ∀ H', Ex H H' → Q (.bl true) H'
def spCheckRows : Sp := fun vs H Q _ => ∃ (p : Addr) (xs : List Addr) (n m : Nat) (f : Fn2), vs = [.ref p] ∧ MatX false false H p xs n m f ∧ 1 ≤ n ∧ n ≤ 8 ∧ m ≤ 6 ∧ Bd 1000000 n m f ∧ ∀ H', Ex H H' → Q .non H'
end Tz
namespace Tz
open PySem PySem.Spec PyProof.Rows L2 TzF TzRepr Mx
theorem allC {K : PySem.W.Frag} {H : Hp} {D : Addr} {n : Nat} {f : Nat → Bool} {Q : VK} (h : H D = some (.lst (cells n fun j => .bl (f j)))) (q : Q (.bl ((List.range n).all f)) H) : rAll K [.ref D] H Q := by
  refine ⟨D, (List.range n).map f, rfl, ?_, ?_⟩
  · have e : ((List.range n).map f).map V.bl = cells n fun j => .bl (f j) := by
      unfold cells
      rw [List.map_map]
      rfl
    rw [e]
    exact sq h
  · rw [List.all_map]
    exact q
end Tz
namespace Tz
theorem iteNn {c A B : Prop} [Decidable c] (hc : ¬ c) (h : A) : if (!decide c) = true then A else B := by
  rw [decide_eq_false hc]
  exact h
theorem iteNd {c A B : Prop} [Decidable c] (hc : c) (h : B) : if (!decide c) = true then A else B := by
  rw [decide_eq_true hc]
  exact h
end Tz
namespace Tz
open PySem PySem.Spec PyProof.Rows L2 TzF TzRepr Mx
/-! ### parts: what is asked whether it is a square matrix -/
/-- a row of a part: a tuple of ints and bools, or a list -/
inductive RowV (H : Hp) (n : Nat) : V → Bool → Prop where
  | tup {x : Addr} {m : Nat} {f : Nat → V} (h : H x = some (.tup (cells m f))) (hm : m ≤ 8) (ib : ∀ j, j < m → IB (f j)) : RowV H n (.ref x) (decide (m = n) && (List.range m).all fun j => wh (f j))
  | lst {x : Addr} {ys : List V} (h : H x = some (.lst ys)) : RowV H n (.ref x) false
/-- a value of which the tuple type alone tells that it is no matrix -/
inductive NoTup (H : Hp) : V → Prop where
  | non : NoTup H .non
  | int (i : Int) : NoTup H (.int i)
  | str (z : Str) : NoTup H (.str z)
  | lst {a : Addr} {xs : List V} (h : H a = some (.lst xs)) : NoTup H (.ref a)
  | dic {a : Addr} {kvs : List (Key × V)} (h : H a = some (.dK kvs)) : NoTup H (.ref a)
theorem NoTup.ex {H H' : Hp} {v : V} (h : NoTup H v) (e : Ex H H') : NoTup H' v := by
  cases h with
  | non => exact .non
  | int i => exact .int i
  | str z => exact .str z
  | lst h => exact .lst (e _ _ h)
  | dic h => exact .dic (e _ _ h)
/-- no tuple: isinstance says no -/
theorem NoTup.ty {K : PySem.W.Frag} {H : Hp} {v : V} (h : NoTup H v) : ∃ t, TyX K H v t ∧ PySem.W.kitOne K t (.type "tuple") = some false := by
  cases h with
  | non => exact ⟨_, .base .non, kit_ty (by decide +kernel)⟩
  | int i => exact ⟨_, .base (.int _), kit_ty (by decide +kernel)⟩
  | str z => exact ⟨_, .base (.str _), kit_ty (by decide +kernel)⟩
  | lst h => exact ⟨_, .base (.lst h), kit_ty (by decide +kernel)⟩
  | dic h => exact ⟨_, .base (.dK h), kit_ty (by decide +kernel)⟩
theorem RowV.ex {H H' : Hp} {n : Nat} {v : V} {b : Bool} (h : RowV H n v b) (e : Ex H H') : RowV H' n v b := by
  cases h with
  | tup h hm ib => exact .tup (e _ _ h) hm ib
  | lst h => exact .lst (e _ _ h)
inductive PartV (H : Hp) (n : Nat) : V → Bool → Prop where
  | no {v : V} (h : NoTup H v) : PartV H n v false
  | tup {p : Addr} {m : Nat} {vs : Nat → V} {bs : Nat → Bool} (h : H p = some (.tup (cells m vs))) (hm : m ≤ 8) (r : ∀ i, i < m → RowV H n (vs i) (bs i)) : PartV H n (.ref p) (decide (m = n) && (List.range m).all bs)
theorem PartV.ex {H H' : Hp} {n : Nat} {v : V} {b : Bool} (h : PartV H n v b) (e : Ex H H') : PartV H' n v b := by
  cases h with
  | no h => exact .no (h.ex e)
  | tup h hm r => exact .tup (e _ _ h) hm fun i hi => (r i hi).ex e
def spIsSquare : Sp := fun vs H Q _ => ∃ (v : V) (n : Nat) (b : Bool), vs = [v, .int n] ∧ PartV H n v b ∧ ∀ H', Ex H H' → Q (.bl b) H'
end Tz
namespace Tz
open PySem PySem.Spec PyProof.Rows L2 TzF TzRepr Mx
def walk_zipTT {K : PySem.W.Frag} {a b : Addr} {xs ys : List V} {n : Nat} (hn : n = min xs.length ys.length) : Walk (RZ.ItzT K a b) n (fun H => SqT K H a xs ∧ SqT K H b ys) (YPair (fun i => xs[i]?) (fun i => ys[i]?)) := by
  subst hn
  refine ⟨fun i _ hi q => ?_, fun _ q => ⟨xs, ys, q.1, q.2, by omega⟩, fun i H v H' _ q y => ?_⟩
  · have h1 : i < xs.length := by omega
    have h2 : i < ys.length := by omega
    exact ⟨xs, ys, xs[i], ys[i], q.1, q.2, by simp [h1], by simp [h2]⟩
  · obtain ⟨T, x, z, h1, h2, h3, h4, h5⟩ := y
    exact ⟨T, x, z, h1, h2, h3, h4 xs q.1, h5 ys q.2⟩
/-! ### divisors -/
def iv : V → Int
  | .int n => n
  | .bl b => if b then 1 else 0
  | _ => 0
def ge1 (v : V) : Bool := wh v && decide (1 ≤ iv v)
inductive DivV (H : Hp) : V → Bool → Prop where
  | no {v : V} (h : NoTup H v) : DivV H v false
  | tup {p : Addr} {m : Nat} {f : Nat → V} (h : H p = some (.tup (cells m f))) (hm : m ≤ 8) (ib : ∀ j, j < m → IB (f j)) :
      DivV H (.ref p) (((List.range m).all fun j => ge1 (f j)) && (List.range (m - 1)).all fun j => decide (iv (f (j + 1)) % iv (f j) = 0))
theorem DivV.ex {H H' : Hp} {v : V} {b : Bool} (h : DivV H v b) (e : Ex H H') : DivV H' v b := by
  cases h with
  | no h => exact .no (h.ex e)
  | tup h hm ib => exact .tup (e _ _ h) hm ib
def spAreDiv : Sp := fun vs H Q _ => ∃ (v : V) (b : Bool), vs = [v] ∧ DivV H v b ∧ ∀ H', Ex H H' → Q (.bl b) H'
theorem cells_tail {m : Nat} {f : Nat → V} : (cells m f).drop 1 = cells (m - 1) fun j => f (j + 1) := by
  refine List.ext_getElem? fun i => ?_
  rw [List.getElem?_drop]
  by_cases h : i < m - 1
  · rw [cells_get (show 1 + i < m by omega), cells_get h, Nat.add_comm]
  · rw [List.getElem?_eq_none (by rw [cells_len]; omega), List.getElem?_eq_none (by rw [cells_len]; omega)]
end Tz
namespace Tz
open PySem PySem.Spec PyProof.Rows L2 TzF TzRepr Mx
theorem allS {K : PySem.W.Frag} {H : Hp} {D : Addr} {n : Nat} {f : Nat → Bool} (h : H D = some (.lst (cells n fun j => .bl (f j)))) : SqL K H D (((List.range n).map f).map V.bl) := by
  have e : ((List.range n).map f).map V.bl = cells n fun j => .bl (f j) := by
    unfold cells
    rw [List.map_map]
    rfl
  rw [e]
  exact sq h
theorem allV {n : Nat} {f : Nat → Bool} : ((List.range n).map f).all id = (List.range n).all f := by
  rw [List.all_map]
  rfl
end Tz
namespace Tz
open PySem PySem.Spec PyProof.Rows L2 TzF TzRepr Mx
theorem cutT {xs : List V} : cutV xs (some 1) none = xs.drop 1 := by
  unfold cutV
  show (xs.drop (min 1 xs.length)).take (xs.length - min 1 xs.length) = xs.drop 1
  cases xs with
  | nil => rfl
  | cons y ys =>
    have e : min 1 (y :: ys).length = 1 := by rw [List.length_cons]; omega
    rw [e]
    exact List.take_of_length_le (by rw [List.length_drop]; omega)
end Tz
namespace Tz
open PySem PySem.Spec PyProof.Rows L2 TzF TzRepr Mx
theorem cells_set {m i : Nat} {f : Nat → V} {v : V} : (cells m f).set i v = cells m fun j => if j = i then v else f j := by
  refine List.ext_getElem? fun j => ?_
  by_cases h : j < m
  · rw [cells_get h, List.getElem?_set]
    by_cases e : i = j
    · subst e
      rw [if_pos rfl, if_pos (by rw [cells_len]; exact h), if_pos rfl]
    · rw [if_neg e, cells_get h, if_neg fun z => e z.symm]
  · rw [List.getElem?_eq_none (by rw [List.length_set, cells_len]; omega), List.getElem?_eq_none (by rw [cells_len]; omega)]
theorem cells_const {m : Nat} {v : V} : List.replicate m v = cells m fun _ => v := by
  refine List.ext_getElem? fun j => ?_
  by_cases h : j < m
  · rw [cells_get h, List.getElem?_replicate, if_pos h]
  · rw [List.getElem?_eq_none (by rw [List.length_replicate]; omega), List.getElem?_eq_none (by rw [cells_len]; omega)]
theorem nodup_ix : ∀ {xs : List Addr}, xs.Nodup → ∀ {i j : Nat} {x : Addr}, xs[i]? = some x → xs[j]? = some x → i = j
  | [], _, i, _, _, h, _ => by simp at h
  | y :: ys, nd, 0, 0, _, _, _ => rfl
  | y :: ys, nd, 0, j + 1, x, h1, h2 => by
    simp at h1 h2
    subst h1
    exact absurd (List.mem_of_getElem? h2) (List.nodup_cons.mp nd).1
  | y :: ys, nd, i + 1, 0, x, h1, h2 => by
    simp at h1 h2
    subst h2
    exact absurd (List.mem_of_getElem? h1) (List.nodup_cons.mp nd).1
  | y :: ys, nd, i + 1, j + 1, x, h1, h2 => by
    simp at h1 h2
    exact congrArg (· + 1) (nodup_ix (List.nodup_cons.mp nd).2 h1 h2)
/-- one row written anew -/
theorem MatX.setRow {bo b : Bool} {H : Hp} {p x : Addr} {xs : List Addr} {n m i : Nat} {f : Fn2} {r : Nat → Int} (M : MatX bo b H p xs n m f) (nd : xs.Nodup) (np : x ≠ p) (hx : xs[i]? = some x) :
    MatX bo b (upd H x (ro b (rint m r))) p xs n m (fun i' j => if i' = i then r j else f i' j) := by
  refine ⟨by rw [upd_ne fun e => np e.symm]; exact M.at_, M.len, fun j z hz => ?_⟩
  by_cases e : j = i
  · subst e
    rw [hz] at hx
    cases hx
    rw [upd_same]
    exact congrArg (fun l => some (ro b l)) (cells_congr fun k _ => congrArg V.int (if_pos rfl).symm)
  · have ne : z ≠ x := fun q => by
      subst q
      exact e (nodup_ix nd hz hx)
    rw [upd_ne ne, M.row j z hz]
    exact congrArg (fun l => some (ro b l)) (cells_congr fun k _ => congrArg V.int (if_neg e).symm)
/-- another matrix stays when a row of this one is written -/
theorem MatX.off {bo b : Bool} {H : Hp} {p x : Addr} {xs : List Addr} {n m : Nat} {f : Fn2} {o : HO} (M : MatX bo b H p xs n m f) (np : x ≠ p) (nx : x ∉ xs) : MatX bo b (upd H x o) p xs n m f :=
  ⟨by rw [upd_ne fun e => np e.symm]; exact M.at_, M.len, fun j z hz => by rw [upd_ne fun e => nx (by rw [← e]; exact List.mem_of_getElem? hz)]; exact M.row j z hz⟩
def diag (m : Nat) (g : Nat → Int) : Fn2 := fun i j => if i = j ∧ i < m then g i else 0
def spOnDiag : Sp := fun vs H Q _ => ∃ (d : Addr) (m h b : Nat) (g : Nat → Int), vs = [.ref d, .int h, .int b] ∧ H d = some (.tup (rint m g)) ∧ m ≤ h ∧ m ≤ b ∧ h ≤ 8 ∧ b ≤ 8 ∧ NewX false false h b (diag m g) H Q
end Tz
namespace Tz
open PySem PySem.Spec PyProof.Rows L2 TzF TzRepr Mx
theorem flat_one {n : Nat} {v : V} : (List.replicate n [v]).flatten = cells n fun _ => v := by
  rw [← cells_const]
  induction n with
  | zero => rfl
  | succ n ih => rw [List.replicate_succ, List.flatten_cons, ih]; rfl
theorem rint_set {m i : Nat} {f : Nat → Int} {n : Int} : (rint m f).set i (V.int n) = rint m fun j => if j = i then n else f j := by
  rw [show rint m f = cells m fun j => V.int (f j) from rfl, cells_set]
  refine cells_congr fun j _ => ?_
  show (if j = i then V.int n else V.int (f j)) = V.int (if j = i then n else f j)
  by_cases q : j = i
  · rw [if_pos q, if_pos q]
  · rw [if_neg q, if_neg q]
end Tz
namespace Tz
theorem ixN_of {n i : Nat} (h : i < n) : L2.ixN n (i : Int) = some i := by
  unfold L2.ixN
  rw [if_pos (by omega), if_pos (by omega)]
  rfl
end Tz
namespace Tz
open PySem PySem.Spec PyProof.Rows L2 TzF TzRepr Mx
/-! ### what == tells of matrices -/
def drow (m : Nat) (f : Nat → Int) : List PyData := (List.range m).map fun j => PyData.int (f j)
def dmat (n m : Nat) (f : Fn2) : PyData := .list ((List.range n).map fun i => PyData.list (drow m (f i)))
theorem dp_cells {K : PySem.W.Frag} {H : Hp} {f : Nat → V} {g : Nat → PyData} : ∀ (l : List Nat), (∀ i ∈ l, Dp K H (f i) (g i)) → DpAll K H (l.map f) (l.map g)
  | [], _ => .nil
  | i :: l, h => .cons (h i List.mem_cons_self) (dp_cells l fun j hj => h j (List.mem_cons_of_mem _ hj))
theorem dp_row {K : PySem.W.Frag} {H : Hp} {m : Nat} {f : Nat → Int} : DpAll K H (rint m f) (drow m f) := dp_cells _ fun i _ => Dp.int _
theorem dp_refs {K : PySem.W.Frag} {H : Hp} : ∀ (xs : List Addr) (ds : List PyData), xs.length = ds.length → (∀ (i : Nat) (x : Addr) (d : PyData), xs[i]? = some x → ds[i]? = some d → Dp K H (.ref x) d) → DpAll K H (xs.map V.ref) ds
  | [], [], _, _ => .nil
  | [], _ :: _, h, _ => by cases h
  | _ :: _, [], h, _ => by cases h
  | x :: xs, d :: ds, h, q => .cons (q 0 x d rfl rfl) (dp_refs xs ds (by simpa using h) fun i y e h1 h2 => q (i + 1) y e (by simpa using h1) (by simpa using h2))
theorem dp_mat {K : PySem.W.Frag} {H : Hp} {p : Addr} {xs : List Addr} {n m : Nat} {f : Fn2} (M : MatX false false H p xs n m f) : Dp K H (.ref p) (dmat n m f) := by
  refine Dp.lst (sq M.at_) (dp_refs xs _ (by rw [List.length_map, List.length_range, M.len]) fun i x d hx hd => ?_)
  have l := (List.getElem?_eq_some_iff.mp hx).1
  rw [M.len] at l
  rw [List.getElem?_map, List.getElem?_range l] at hd
  cases hd
  exact Dp.lst (sq (M.row i x hx)) dp_row
theorem eqvAll_map {F G : Nat → PyData} : ∀ l : List Nat, PyData.eqvAll (l.map F) (l.map G) = l.all fun i => PyData.eqv (F i) (G i)
  | [] => by rw [List.map_nil, List.map_nil, PyData.eqvAll, List.all_nil]
  | i :: l => by rw [List.map_cons, List.map_cons, PyData.eqvAll, eqvAll_map l, List.all_cons]
theorem eqv_int (a b : Int) : PyData.eqv (.int a) (.int b) = true ↔ a = b := by
  rw [PyData.eqv]
  exact beq_iff_eq
theorem eqv_row {m : Nat} {f g : Nat → Int} : PyData.eqv (.list (drow m f)) (.list (drow m g)) = true ↔ ∀ j, j < m → f j = g j := by
  rw [PyData.eqv, drow, drow, eqvAll_map, List.all_eq_true]
  exact ⟨fun h j hj => (eqv_int _ _).mp (h j (List.mem_range.mpr hj)), fun h j hj => (eqv_int _ _).mpr (h j (List.mem_range.mp hj))⟩
theorem eqv_mat {n m : Nat} {f g : Fn2} : PyData.eqv (dmat n m f) (dmat n m g) = true ↔ ∀ i j, i < n → j < m → f i j = g i j := by
  rw [dmat, dmat, PyData.eqv, eqvAll_map, List.all_eq_true]
  exact ⟨fun h i j hi hj => eqv_row.mp (h i (List.mem_range.mpr hi)) j hj, fun h i hi => eqv_row.mpr fun j hj => h i j (List.mem_range.mp hi) hj⟩
theorem lay_map {F : Nat → PyData} : ∀ l : List Nat, (∀ i, PyData.canLay0 (F i) = true) → PyData.canLayAll0 (l.map F) = true
  | [], _ => by rw [List.map_nil, PyData.canLayAll0]
  | i :: l, h => by rw [List.map_cons, PyData.canLayAll0, h i, lay_map l h] <;> rfl
theorem deep_map {F : Nat → PyData} {k : Nat} : ∀ l : List Nat, (∀ i, PyData.depth (F i) ≤ k) → PyData.depthAll (l.map F) ≤ k
  | [], _ => by rw [List.map_nil, PyData.depthAll]; exact Nat.zero_le _
  | i :: l, h => by
    rw [List.map_cons, PyData.depthAll]
    exact Nat.max_le.mpr ⟨h i, deep_map l h⟩
theorem lay_row {m : Nat} {f : Nat → Int} : PyData.canLayAll0 (drow m f) = true := lay_map _ fun i => by rw [PyData.canLay0]
theorem deep_row {m : Nat} {f : Nat → Int} : PyData.depthAll (drow m f) ≤ 0 := deep_map _ fun i => by rw [PyData.depth]; exact Nat.le_refl _
theorem shaped_mat {n m : Nat} {f : Fn2} : SeqAt.shaped (dmat n m f) = true := by
  have h1 : PyData.canLayAll0 ((List.range n).map fun i => PyData.list (drow m (f i))) = true := lay_map _ fun i => by rw [PyData.canLay0]; exact lay_row
  have h2 : PyData.depthAll ((List.range n).map fun i => PyData.list (drow m (f i))) ≤ 1 := deep_map _ fun i => by
    rw [PyData.depth]
    have := deep_row (m := m) (f := f i)
    omega
  unfold SeqAt.shaped
  rw [dmat, PyData.canLay0, h1, PyData.depth]
  exact decide_eq_true (show _ ≤ 64 by omega)
end Tz
namespace Tz
open PySem PySem.Spec PyProof.Rows L2 TzF TzRepr Mx
/-! ### stairs as an object -/
def stf (l r lb rb dv : V) : List (Str × V) := putF "_divisors" dv (putF "right_back" rb (putF "left_back" lb (putF "right" r (putF "left" l []))))
section
variable {l r lb rb dv : V}
theorem stf_left : (stf l r lb rb dv).lookup ("left" : Str) = some l := by
  unfold stf
  rw [lookup_putF, if_neg (by decide +kernel), lookup_putF, if_neg (by decide +kernel), lookup_putF, if_neg (by decide +kernel), lookup_putF, if_neg (by decide +kernel), lookup_putF, if_pos rfl]
theorem stf_right : (stf l r lb rb dv).lookup ("right" : Str) = some r := by
  unfold stf
  rw [lookup_putF, if_neg (by decide +kernel), lookup_putF, if_neg (by decide +kernel), lookup_putF, if_neg (by decide +kernel), lookup_putF, if_pos rfl]
theorem stf_left_back : (stf l r lb rb dv).lookup ("left_back" : Str) = some lb := by
  unfold stf
  rw [lookup_putF, if_neg (by decide +kernel), lookup_putF, if_neg (by decide +kernel), lookup_putF, if_pos rfl]
theorem stf_right_back : (stf l r lb rb dv).lookup ("right_back" : Str) = some rb := by
  unfold stf
  rw [lookup_putF, if_neg (by decide +kernel), lookup_putF, if_pos rfl]
theorem stf_div : (stf l r lb rb dv).lookup ("_divisors" : Str) = some dv := by
  unfold stf
  rw [lookup_putF, if_pos rfl]
end
def spStInit (C : Addr) : Sp := fun vs H Q _ => ∃ p dx l r lb rb dv, vs = [.ref p, l, r, lb, rb, dv] ∧ H p = some (.ins C dx []) ∧ ∀ H', H' p = some (.ins C dx (stf l r lb rb dv)) → (∀ b o, H b = some o → b ≠ p → H' b = some o) → Q .non H'
def spStDiv (C : Addr) : Sp := fun vs H Q _ => ∃ p dx l r lb rb dv, vs = [.ref p] ∧ H p = some (.ins C dx (stf l r lb rb dv)) ∧ Q dv H
/-- what stands beside the rows: whether it is their stairs -/
inductive NoSt (H : Hp) : V → Prop where
  | non : NoSt H .non
  | int (i : Int) : NoSt H (.int i)
  | str (z : Str) : NoSt H (.str z)
  | lst {a : Addr} {xs : List V} (h : H a = some (.lst xs)) : NoSt H (.ref a)
  | tup {a : Addr} {xs : List V} (h : H a = some (.tup xs)) : NoSt H (.ref a)
theorem NoSt.ex {H H' : Hp} {v : V} (h : NoSt H v) (e : Ex H H') : NoSt H' v := by
  cases h with
  | non => exact .non
  | int i => exact .int i
  | str z => exact .str z
  | lst h => exact .lst (e _ _ h)
  | tup h => exact .tup (e _ _ h)
theorem NoSt.ty {K : PySem.W.Frag} {C : Addr} (A : Alone K C) {H : Hp} {v : V} (h : NoSt H v) : ∃ t, TyX K H v t ∧ PySem.W.kitOne K t (.ref C) = some false := by
  cases h with
  | non => exact ⟨_, .base .non, Tag.kitC A .non⟩
  | int i => exact ⟨_, .base (.int _), Tag.kitC A .int⟩
  | str z => exact ⟨_, .base (.str _), Tag.kitC A .str⟩
  | lst h => exact ⟨_, .base (.lst h), Tag.kitC A .lst⟩
  | tup h => exact ⟨_, .base (.tup h), Tag.kitC A .tup⟩
inductive StV (C : Addr) (H : Hp) (h b : Nat) (A : Fn2) : V → Bool → Prop where
  | no {v : V} (k : NoSt H v) : StV C H h b A v false
  | div {a dx : Addr} {l r lb rb dv : V} (o : H a = some (.ins C dx (stf l r lb rb dv))) (d : DivV H dv false) : StV C H h b A (.ref a) false
  | part {a dx : Addr} {l r lb rb dv : V} {bd b1 b2 b3 b4 : Bool} (o : H a = some (.ins C dx (stf l r lb rb dv))) (d : DivV H dv bd) (P1 : PartV H h l b1) (P2 : PartV H b r b2) (P3 : PartV H h lb b3) (P4 : PartV H b rb b4) (no : (b1 && b3 && b2 && b4) = false) : StV C H h b A (.ref a) false
  | full {a dx pl pr plb prb pd : Addr} {xl xr xlb xrb : List Addr} {f1 f2 g1 g2 : Fn2} {m : Nat} {g : Nat → Int} {t : Bool} (o : H a = some (.ins C dx (stf (.ref pl) (.ref pr) (.ref plb) (.ref prb) (.ref pd)))) (d : H pd = some (.tup (rint m g))) (dd : DivV H (.ref pd) true)
      (L : MatX true true H pl xl h h f1) (R : MatX true true H pr xr b b f2) (LB : MatX true true H plb xlb h h g1) (RB : MatX true true H prb xrb b b g2) (s1 : Sm h h f1) (s2 : Sm b b f2) (s3 : Sm h h g1) (s4 : Sm b b g2) (m8 : m ≤ 8)
      (q : t = true ↔ (∀ i j, i < h → j < h → ml h f1 g1 i j = dl i j) ∧ (∀ i j, i < b → j < b → ml b f2 g2 i j = dl i j) ∧ (m ≤ h ∧ m ≤ b) ∧ ∀ i j, i < h → j < b → ml b (ml h f1 A) f2 i j = diag m g i j) : StV C H h b A (.ref a) t
def spAreStairs (C : Addr) : Sp := fun vs H Q _ => ∃ (rp : Addr) (v : V) (xs : List Addr) (h b : Nat) (A : Fn2) (t : Bool), vs = [.ref rp, v] ∧ MatX false false H rp xs h b A ∧ 1 ≤ h ∧ h ≤ 8 ∧ b ≤ 6 ∧ Bd 1000000 h b A ∧ StV C H h b A v t ∧ ∀ H', Ex H H' → Q (.bl t) H'
/-- a matrix of ints is a part that is square -/
theorem MatX.part {H : Hp} {p : Addr} {xs : List Addr} {n k : Nat} {f : Fn2} (M : MatX true true H p xs n k f) (n8 : n ≤ 8) (k8 : k ≤ 8) (z : Nat) : PartV H z (.ref p) (decide (n = z) && (List.range n).all fun _ => decide (k = z)) := by
  have e : xs.map V.ref = cells n fun i => .ref (xs.getD i 0) := by
    refine List.ext_getElem? fun i => ?_
    by_cases h : i < n
    · rw [cells_get h, List.getElem?_map, List.getElem?_eq_getElem (by rw [M.len]; exact h), List.getD_eq_getElem?_getD, List.getElem?_eq_getElem (by rw [M.len]; exact h)]
      rfl
    · rw [List.getElem?_eq_none (by rw [List.length_map, M.len]; omega), List.getElem?_eq_none (by rw [cells_len]; omega)]
  refine .tup (vs := fun i => .ref (xs.getD i 0)) (by rw [← e]; exact M.at_) n8 fun i hi => ?_
  obtain ⟨x, h0, hx⟩ := M.get hi
  rw [List.getD_eq_getElem?_getD, h0]
  have := RowV.tup (n := z) (show H x = some (.tup (cells k fun j => .int (f i j))) from hx) k8 fun j _ => .inl ⟨_, rfl⟩
  have e2 : (decide (k = z) && (List.range k).all fun j => wh (V.int (f i j))) = decide (k = z) := by
    rw [show ((List.range k).all fun j => wh (V.int (f i j))) = true from List.all_eq_true.mpr fun _ _ => rfl, Bool.and_true]
  rw [e2] at this
  exact this
theorem MatX.sqr {H : Hp} {p : Addr} {xs : List Addr} {n : Nat} {f : Fn2} (M : MatX true true H p xs n n f) (n8 : n ≤ 8) : PartV H n (.ref p) true := by
  have := M.part n8 n8 n
  have e : (decide (n = n) && (List.range n).all fun _ => decide (n = n)) = true := by
    rw [decide_eq_true rfl, Bool.true_and]
    exact List.all_eq_true.mpr fun _ _ => rfl
  rwa [e] at this
end Tz
namespace Tz
open PySem PySem.Spec PyProof.Rows L2 TzF TzRepr Mx
theorem StV.ex {C : Addr} {H H' : Hp} {h b : Nat} {A : Fn2} {v : V} {t : Bool} (s : StV C H h b A v t) (e : Ex H H') : StV C H' h b A v t := by
  cases s with
  | no k => exact .no (k.ex e)
  | div o d => exact .div (e _ _ o) (d.ex e)
  | part o d P1 P2 P3 P4 no => exact .part (e _ _ o) (d.ex e) (P1.ex e) (P2.ex e) (P3.ex e) (P4.ex e) no
  | full o d dd L R LB RB s1 s2 s3 s4 m8 q => exact .full (e _ _ o) (e _ _ d) (dd.ex e) (L.ex e) (R.ex e) (LB.ex e) (RB.ex e) s1 s2 s3 s4 m8 q
end Tz
namespace Tz
open PySem PySem.Spec PyProof.Rows L2 TzF TzRepr Mx
/-! ### rows of cells: ints and bools -/
structure CellX (bo b : Bool) (H : Hp) (p : Addr) (xs : List Addr) (n m : Nat) (f : Nat → Nat → V) : Prop where
  at_ : H p = some (ro bo (xs.map V.ref))
  len : xs.length = n
  row : ∀ (i : Nat) (x : Addr), xs[i]? = some x → H x = some (ro b (cells m (f i)))
theorem CellX.ex {bo b : Bool} {H H' : Hp} {p : Addr} {xs : List Addr} {n m : Nat} {f : Nat → Nat → V} (h : CellX bo b H p xs n m f) (e : Ex H H') : CellX bo b H' p xs n m f := ⟨e _ _ h.at_, h.len, fun i x q => e _ _ (h.row i x q)⟩
theorem MatX.cell {bo b : Bool} {H : Hp} {p : Addr} {xs : List Addr} {n m : Nat} {f : Fn2} (h : MatX bo b H p xs n m f) : CellX bo b H p xs n m fun i j => .int (f i j) := ⟨h.at_, h.len, h.row⟩
theorem CellX.mat {bo b : Bool} {H : Hp} {p : Addr} {xs : List Addr} {n m : Nat} {f : Fn2} (h : CellX bo b H p xs n m fun i j => .int (f i j)) : MatX bo b H p xs n m f := ⟨h.at_, h.len, h.row⟩
/-- a list of new rows that grows -/
structure Grow (b : Bool) (H1 H : Hp) (D : Addr) (xs : List Addr) (i m : Nat) (f : Nat → Nat → V) : Prop where
  ex : Ex H1 H
  new : ∀ x ∈ xs, H1 x = none ∧ x ≠ D
  nd : xs.Nodup
  mat : CellX false b H D xs i m f
theorem Grow.start {b : Bool} {H1 : Hp} {D : Addr} {m : Nat} {f : Nat → Nat → V} (nD : H1 D = none) : Grow b H1 (upd H1 D (.lst [])) D [] 0 m f :=
  ⟨Ex.new nD, fun x h => (nomatch h), List.nodup_nil, upd_same, rfl, fun i x q => by simp at q⟩
theorem Grow.push {b : Bool} {H1 H H4 : Hp} {D q : Addr} {xs : List Addr} {i m : Nat} {f : Nat → Nat → V} (g : Grow b H1 H D xs i m f) (nD : H1 D = none) (nq : H q = none) (e4 : Ex H H4) (hq : H4 q = some (ro b (cells m (f i)))) : Grow b H1 (upd H4 D (.lst (xs.map V.ref ++ [.ref q]))) D (xs ++ [q]) (i + 1) m f := by
  obtain ⟨e, hx, nd, M⟩ := g
  have qD : q ≠ D := fun z => by
    subst z
    rw [M.at_] at nq
    cases nq
  have qx : q ∉ xs := fun h => by
    obtain ⟨j, hj, rfl⟩ := List.mem_iff_getElem.mp h
    rw [M.row j _ (List.getElem?_eq_getElem hj)] at nq
    cases nq
  refine ⟨fun a o h => ?_, fun z hz => ?_, ?_, ?_, ?_, fun j z hz => ?_⟩
  · rw [upd_ne (fun z => by subst z; rw [nD] at h; cases h)]
    exact e4 _ _ (e _ _ h)
  · rcases List.mem_append.mp hz with h | h
    · exact hx z h
    · rw [List.mem_singleton.mp h]
      exact ⟨back_none e nq, qD⟩
  · exact List.nodup_append.mpr ⟨nd, List.nodup_cons.mpr ⟨List.not_mem_nil, List.nodup_nil⟩, fun a ha c hc => by
      rw [List.mem_singleton.mp hc]
      exact fun z => qx (z ▸ ha)⟩
  · rw [upd_same, List.map_append]
    rfl
  · rw [List.length_append, M.len]
    rfl
  · by_cases hj : j < xs.length
    · rw [List.getElem?_append_left hj] at hz
      rw [upd_ne (hx z (List.mem_of_getElem? hz)).2]
      exact e4 _ _ (M.row j z hz)
    · have l := (List.getElem?_eq_some_iff.mp hz).1
      rw [List.length_append, List.length_singleton] at l
      have ej : j = xs.length := by omega
      subst ej
      rw [List.getElem?_append_right (Nat.le_refl _), Nat.sub_self] at hz
      cases hz
      rw [upd_ne qD, hq, M.len]
section
variable {J : It} {n : Nat} {G : Hp → Prop} {Y : Nat → Hp → V → Hp → Prop}
theorem lc_rowsC (w : Walk J n G Y) {g : TG} {te : TE} {vs : List Nat} {σ : L2.St} {H1 : Hp} {D : Addr} {Qd : Hp → Prop} {b : Bool} {m : Nat} (f : Nat → Nat → V) (nD : H1 D = none) (hn : n ≤ 1000) (hG : ∀ H, Ex H1 H → G H)
    (hs : ∀ i x H H', i < n → Ex H1 H → Y i H x H' → ∀ R : VK, (∀ q H4, H q = none → Ex H H4 → H4 q = some (ro b (cells m (f i))) → R (.ref q) H4) → g x (wipe σ vs) H' fun σ2 H2 => wipe σ2 vs = wipe σ vs ∧ te σ2 H2 R)
    (hd : ∀ xs H, Grow b H1 H D xs n m f → Qd H) :
    ∃ W : Nat → Nat → Hp → Prop, (∃ m, W 0 m (upd H1 D (.lst []))) ∧ ∀ i m H, W i m H →
      (J.stop i H ∧ Qd H) ∨ (J.go i H ∧ ∃ Nx : Hp → Prop, (∀ H', Nx H' → ∃ m', m' < m ∧ W (i + 1) m' H') ∧ ∀ x H', J.yld i H x H' → g x (wipe σ vs) H' fun σ2 H2 => wipe σ2 vs = wipe σ vs ∧ tYes σ2 H2 fun b H3 =>
        if b = true then te σ2 H3 fun y H4 => ∃ acc, H4 D = some (.lst acc) ∧ acc.length < sizeLine ∧ Nx (upd H4 D (.lst (acc ++ [y]))) else Nx H3) := by
  refine lc_it w (fun i H => ∃ xs, Grow b H1 H D xs i m f) ⟨[], Grow.start nD⟩ (fun i H _ ⟨_, h⟩ => hG H h.ex) ?_ (fun H ⟨xs, h⟩ => hd xs H h)
  intro i x H H' hi ⟨xs, h⟩ y
  simp only [tYes, if_true]
  refine hs i x H H' hi h.ex y _ fun q H4 nq e4 hq => ?_
  exact ⟨_, e4 _ _ h.mat.at_, by rw [List.length_map, h.mat.len]; exact Nat.lt_of_lt_of_le (show _ < 1000 by omega) (by decide), xs ++ [q], h.push nD nq e4 hq⟩
end
/-! ### an int times an int or a bool -/
def rMulIB : R2 := fun x y H Q => ∃ i, x = .int i ∧ IB y ∧ (-(2 ^ 64) < iv y ∧ iv y < 2 ^ 64) ∧ Q (.int (i * iv y)) H
theorem op_mulIB {X : Cx} : OpR X (binaryOp .Mult) rMulIB := by
  intro pins s σ H x y v u Q I rx ry h
  obtain ⟨i, rfl, ib, bd, q⟩ := h
  obtain ⟨t, rfl⟩ := rx
  obtain ⟨n, rfl⟩ | ⟨c, rfl⟩ := ib
  · obtain ⟨t', rfl⟩ := ry
    exact mul_int ⟨.int (i * n), H, I.tok _, ⟨_, rfl⟩, q⟩ (CMul.ok (.inr bd))
  · cases ry
    exact PySem.IntBool.mul_int_bool ⟨.int (i * iv (.bl c)), H, I.tok _, ⟨_, rfl⟩, q⟩
def spLTimes : Sp := fun vs H Q _ => ∃ (p q : Addr) (xs ys : List Addr) (h n m : Nat) (f : Fn2) (g : Nat → Nat → V), vs = [.ref p, .ref q, .int m] ∧ MatX false false H p xs h n f ∧ CellX false false H q ys n m g ∧ h ≤ 8 ∧ n ≤ 8 ∧ m ≤ 8 ∧ (∀ i j, i < n → j < m → IB (g i j)) ∧ Sm n m (fun i j => iv (g i j)) ∧
  NewX false false h m (ml n f fun i j => iv (g i j)) H Q
def spFrozen : Sp := fun vs H Q _ => ∃ (p : Addr) (xs : List Addr) (n m : Nat) (f : Fn2), vs = [.ref p] ∧ MatX false false H p xs n m f ∧ n ≤ 8 ∧ ∀ q ys H', Ex H H' → MatX true true H' q ys n m f → Q (.ref q) H'
end Tz
namespace Tz
open PySem PySem.Spec PyProof.Rows L2 TzF TzRepr Mx
/-! ### matrices that are changed in place -/
/-- all but the objects of ys stand as they stood -/
def OffX (ys : List Addr) (H H' : Hp) : Prop := ∀ a o, a ∉ ys → H a = some o → H' a = some o
theorem OffX.ex {ys : List Addr} {H H' : Hp} (e : Ex H H') : OffX ys H H' := fun a o _ h => e a o h
theorem OffX.step {ys : List Addr} {H H' : Hp} {x : Addr} {o : HO} (h : OffX ys H H') (hx : x ∈ ys) : OffX ys H (upd H' x o) := fun a u n q => by
  rw [upd_ne fun z => n (by rw [z]; exact hx)]
  exact h a u n q
theorem OffX.trans {ys : List Addr} {H H' H'' : Hp} (h : OffX ys H H') (g : OffX ys H' H'') : OffX ys H H'' := fun a o n q => g a o n (h a o n q)
theorem MatX.offs {bo b : Bool} {H H' : Hp} {p : Addr} {xs ys : List Addr} {n m : Nat} {f : Fn2} (M : MatX bo b H p xs n m f) (h : OffX ys H H') (np : p ∉ ys) (nx : ∀ x ∈ xs, x ∉ ys) : MatX bo b H' p xs n m f :=
  ⟨h _ _ np M.at_, M.len, fun i x q => h _ _ (nx x (List.mem_of_getElem? q)) (M.row i x q)⟩
/-- another list put in as a row -/
theorem MatX.putRow {H : Hp} {p D : Addr} {xs : List Addr} {n m a : Nat} {f : Fn2} {r : Nat → Int} (M : MatX false false H p xs n m f) (xp : ∀ x ∈ xs, x ≠ p) (hD : H D = some (.lst (rint m r))) (Dp : D ≠ p) :
    MatX false false (upd H p (.lst ((xs.map V.ref).set a (.ref D)))) p (xs.set a D) n m (fun i j => if i = a then r j else f i j) := by
  refine ⟨?_, by rw [List.length_set]; exact M.len, fun i x hx => ?_⟩
  · rw [upd_same, ← List.map_set]
    rfl
  · rw [List.getElem?_set] at hx
    by_cases e : a = i
    · rw [if_pos e] at hx
      by_cases l : a < xs.length
      · rw [if_pos l] at hx
        cases hx
        rw [upd_ne Dp, hD]
        exact congrArg (fun l => some (ro false l)) (cells_congr fun k _ => congrArg V.int (if_pos e.symm).symm)
      · rw [if_neg l] at hx
        cases hx
    · rw [if_neg e] at hx
      rw [upd_ne (xp x (List.mem_of_getElem? hx)), M.row i x hx]
      exact congrArg (fun l => some (ro false l)) (cells_congr fun k _ => congrArg V.int (if_neg fun z => e z.symm).symm)
theorem mem_set {xs : List Addr} {a : Nat} {D x : Addr} (h : x ∈ xs.set a D) : x = D ∨ x ∈ xs := by
  rcases List.mem_or_eq_of_mem_set h with h | h
  · exact .inr h
  · exact .inl h
/-- one row of the loop over the rows -/
theorem rowStep {H1 H' : Hp} {p x : Addr} {xs : List Addr} {n m k : Nat} {f G : Fn2} {r : Nat → Int} (M : MatX false false H' p xs n m (fun i j => if i < k then G i j else f i j)) (o : OffX xs H1 H') (nd : xs.Nodup) (np : ∀ x ∈ xs, x ≠ p) (hx : xs[k]? = some x)
    (hr : ∀ j, j < m → r j = G k j) : MatX false false (upd H' x (.lst (rint m r))) p xs n m (fun i j => if i < k + 1 then G i j else f i j) ∧ OffX xs H1 (upd H' x (.lst (rint m r))) := by
  have mx := List.mem_of_getElem? hx
  refine ⟨(M.setRow (r := r) nd (np x mx) hx).congr fun i j hi hj => ?_, o.step mx⟩
  by_cases e : i = k
  · rw [if_pos e, if_pos (by omega), hr j hj, e]
  · rw [if_neg e]
    by_cases l : i < k
    · rw [if_pos l, if_pos (by omega)]
    · rw [if_neg l, if_neg (by omega)]
theorem MatX.allRows {H : Hp} {p : Addr} {xs : List Addr} {n m : Nat} {f G : Fn2} (M : MatX false false H p xs n m (fun i j => if i < n then G i j else f i j)) : MatX false false H p xs n m G :=
  M.congr fun i j hi _ => if_pos hi
/-- what leads there and what leads back, both of them made here -/
structure LeadX (H0 H : Hp) (tp bp : Addr) (xs ys : List Addr) (n : Nat) (f g : Fn2) : Prop where
  tm : MatX false false H tp xs n n f
  bm : MatX false false H bp ys n n g
  tn : H0 tp = none
  bn : H0 bp = none
  yn : ∀ y ∈ ys, H0 y = none
  xn : ∀ x ∈ xs, H0 x = none
  tb : tp ≠ bp
  xt : ∀ x ∈ xs, x ≠ tp
  xb : ∀ x ∈ xs, x ≠ bp
  yt : ∀ y ∈ ys, y ≠ tp
  yb : ∀ y ∈ ys, y ≠ bp
  xy : ∀ x ∈ xs, x ∉ ys
  nd : ys.Nodup
theorem LeadX.ex {H0 H H' : Hp} {tp bp : Addr} {xs ys : List Addr} {n : Nat} {f g : Fn2} (L : LeadX H0 H tp bp xs ys n f g) (e : Ex H H') : LeadX H0 H' tp bp xs ys n f g :=
  ⟨L.tm.ex e, L.bm.ex e, L.tn, L.bn, L.yn, L.xn, L.tb, L.xt, L.xb, L.yt, L.yb, L.xy, L.nd⟩
theorem LeadX.congr {H0 H : Hp} {tp bp : Addr} {xs ys : List Addr} {n : Nat} {f g f2 g2 : Fn2} (L : LeadX H0 H tp bp xs ys n f g) (e1 : ∀ i j, i < n → j < n → f i j = f2 i j) (e2 : ∀ i j, i < n → j < n → g i j = g2 i j) : LeadX H0 H tp bp xs ys n f2 g2 :=
  ⟨L.tm.congr e1, L.bm.congr e2, L.tn, L.bn, L.yn, L.xn, L.tb, L.xt, L.xb, L.yt, L.yb, L.xy, L.nd⟩
/-- a row of the one that leads there -/
theorem LeadX.put {H0 H : Hp} {tp bp D : Addr} {xs ys : List Addr} {n a : Nat} {f g : Fn2} {r : Nat → Int} (L : LeadX H0 H tp bp xs ys n f g) (hD : H D = some (.lst (rint n r))) (Dt : D ≠ tp) (Db : D ≠ bp) (Dy : D ∉ ys) (D0 : H0 D = none) :
    LeadX H0 (upd H tp (.lst ((xs.map V.ref).set a (.ref D)))) tp bp (xs.set a D) ys n (fun i j => if i = a then r j else f i j) g :=
  ⟨L.tm.putRow L.xt hD Dt, L.bm.off L.tb (fun h => L.yt _ h rfl), L.tn, L.bn, L.yn, fun x h => by
    rcases mem_set h with e | h
    · rw [e]; exact D0
    · exact L.xn x h, L.tb, fun x h => by
    rcases mem_set h with e | h
    · rw [e]; exact Dt
    · exact L.xt x h, fun x h => by
    rcases mem_set h with e | h
    · rw [e]; exact Db
    · exact L.xb x h, L.yt, L.yb, fun x h => by
    rcases mem_set h with e | h
    · rw [e]; exact Dy
    · exact L.xy x h, L.nd⟩
/-- the rows of the one that leads back -/
theorem LeadX.back {H0 H H' : Hp} {tp bp : Addr} {xs ys : List Addr} {n : Nat} {f g G : Fn2} (L : LeadX H0 H tp bp xs ys n f g) (o : OffX ys H H') (M : MatX false false H' bp ys n n G) : LeadX H0 H' tp bp xs ys n f G :=
  ⟨L.tm.offs o (fun h => L.yt _ h rfl) L.xy, M, L.tn, L.bn, L.yn, L.xn, L.tb, L.xt, L.xb, L.yt, L.yb, L.xy, L.nd⟩
/-- a row that stands in neither -/
theorem LeadX.new {H0 H : Hp} {tp bp D : Addr} {xs ys : List Addr} {n : Nat} {f g : Fn2} (L : LeadX H0 H tp bp xs ys n f g) (nD : H D = none) : D ≠ tp ∧ D ≠ bp ∧ D ∉ ys := by
  refine ⟨fun e => ?_, fun e => ?_, fun h => ?_⟩
  · rw [e, L.tm.at_] at nD
    cases nD
  · rw [e, L.bm.at_] at nD
    cases nD
  · obtain ⟨j, hj, e⟩ := List.mem_iff_getElem.mp h
    rw [← e, L.bm.row j _ (List.getElem?_eq_getElem hj)] at nD
    cases nD
theorem fw_upd {z x : Addr} {H0 H : Hp} {o : HO} (f : Fw z H0 H) (n : H0 x = none) : Fw z H0 (upd H x o) := fun a u az q => by
  rw [upd_ne fun e => by rw [e, n] at q; cases q]
  exact f a u az q
theorem fw_off {z : Addr} {ys : List Addr} {H0 H H' : Hp} (f : Fw z H0 H) (n : ∀ y ∈ ys, H0 y = none) (o : OffX ys H H') : Fw z H0 H' := fun a u az q => o a u (fun h => by rw [n a h] at q; cases q) (f a u az q)
theorem PenAt.offs {H H' : Hp} {z c : Addr} {cs : List Int} {t : Nat} {ys : List Addr} (P : PenAt H z c cs t) (o : OffX ys H H') (nz : z ∉ ys) (nc : c ∉ ys) : PenAt H' z c cs t := by
  obtain ⟨⟨i, l, h1, h2⟩, h3, h4, h5⟩ := P
  exact ⟨⟨i, l, o _ _ nz h1, h2⟩, o _ _ nc h3, h4, h5⟩
theorem PenAt.isn {H : Hp} {z c a : Addr} {cs : List Int} {t : Nat} (P : PenAt H z c cs t) (n : H a = none) : a ≠ z ∧ a ≠ c := P.off n
theorem MatX.mem {bo b : Bool} {H : Hp} {p x : Addr} {xs : List Addr} {n m : Nat} {f : Fn2} (M : MatX bo b H p xs n m f) (h : x ∈ xs) : ∃ o, H x = some o := by
  obtain ⟨j, hj, e⟩ := List.mem_iff_getElem.mp h
  exact ⟨_, by rw [← e]; exact M.row j _ (List.getElem?_eq_getElem hj)⟩
theorem some_none {H : Hp} {x y : Addr} (h : ∃ o, H x = some o) (n : H y = none) : x ≠ y := fun e => by
  obtain ⟨o, h⟩ := h
  rw [e, n] at h
  cases h
theorem LeadX.start {H H1 H2 : Hp} {tp bp : Addr} {xs ys : List Addr} {n : Nat} {f g : Fn2} (nt : H tp = none) (hx : ∀ x ∈ xs, H x = none ∧ x ≠ tp) (e1 : Ex H H1) (M1 : MatX false false H1 tp xs n n f) (nb : H1 bp = none) (hy : ∀ x ∈ ys, H1 x = none ∧ x ≠ bp) (ny : ys.Nodup) (e2 : Ex H1 H2)
    (M2 : MatX false false H2 bp ys n n g) : LeadX H H2 tp bp xs ys n f g :=
  ⟨M1.ex e2, M2, nt, back_none e1 nb, fun y h => back_none e1 (hy y h).1, fun x h => (hx x h).1, some_none ⟨_, M1.at_⟩ nb, fun x h => (hx x h).2, fun x h => some_none (M1.mem h) nb, fun y h => (some_none ⟨_, M1.at_⟩ (hy y h).1).symm, fun y h => (hy y h).2, fun x h h2 => some_none (M1.mem h) (hy x h2).1 rfl, ny⟩
theorem LeadX.fw {H0 H H' : Hp} {tp bp z : Addr} {xs ys : List Addr} {n : Nat} {f g : Fn2} (L : LeadX H0 H tp bp xs ys n f g) (hz : ∃ o, H0 z = some o) (w : Fw z H H') : LeadX H0 H' tp bp xs ys n f g := by
  have e : ∀ a, H0 a = none → a ≠ z := fun a h => (some_none hz h).symm
  exact ⟨⟨w _ _ (e _ L.tn) L.tm.at_, L.tm.len, fun i x q => w _ _ (e _ (L.xn x (List.mem_of_getElem? q))) (L.tm.row i x q)⟩, ⟨w _ _ (e _ L.bn) L.bm.at_, L.bm.len, fun i x q => w _ _ (e _ (L.yn x (List.mem_of_getElem? q))) (L.bm.row i x q)⟩,
    L.tn, L.bn, L.yn, L.xn, L.tb, L.xt, L.xb, L.yt, L.yb, L.xy, L.nd⟩
theorem PenAt.has {H : Hp} {z c : Addr} {cs : List Int} {t : Nat} (P : PenAt H z c cs t) : ∃ o, H z = some o := by
  obtain ⟨⟨i, l, h1, h2⟩, h3, h4, h5⟩ := P
  exact ⟨_, h1⟩
/-- new now, new at the start -/
theorem new0 {H0 H : Hp} {z c D : Addr} {cs : List Int} {t : Nat} (f : Fw z H0 H) (P : PenAt H z c cs t) (n : H D = none) : H0 D = none := by
  have dz := (P.off n).1
  cases h : H0 D with
  | none => rfl
  | some o => rw [f _ _ dz h] at n; cases n
theorem bd_neg {b : Int} {n m : Nat} {f g : Fn2} (h : Bd b n m f) (e : ∀ i j, i < n → j < m → g i j = f i j ∨ g i j = -f i j) (b0 : 0 ≤ b) : Bd (b * 3) n m g := fun i j hi hj => by
  have := h i j hi hj
  rcases e i j hi hj with q | q <;> rw [q] <;> omega
theorem bd_sw {b : Int} {n a c : Nat} {f : Fn2} (h : Bd b n n f) (ha : a < n) (hc : c < n) (b0 : 0 ≤ b) : Bd (b * 3) n n (fun i j => f (sw a c i) j) := fun i j hi hj => by
  have := h (sw a c i) j (sw_lt ha hc hi) hj
  show -(b * 3) ≤ f (sw a c i) j ∧ f (sw a c i) j ≤ b * 3
  omega
theorem bd_swC {b : Int} {n a c : Nat} {f : Fn2} (h : Bd b n n f) (ha : a < n) (hc : c < n) (b0 : 0 ≤ b) : Bd (b * 3) n n (fun i j => f i (sw a c j)) := fun i j hi hj => by
  have := h i (sw a c j) hi (sw_lt ha hc hj)
  show -(b * 3) ≤ f i (sw a c j) ∧ f i (sw a c j) ≤ b * 3
  omega
theorem two_bd {t x y b : Int} (ht : t = 1 ∨ t = -1 ∨ t = 2 ∨ t = -2) (hx : -b ≤ x ∧ x ≤ b) (hy : -b ≤ y ∧ y ≤ b) : (-(b * 3) ≤ x + t * y ∧ x + t * y ≤ b * 3) ∧ (-(b * 3) ≤ x - t * y ∧ x - t * y ≤ b * 3) := by
  rcases ht with rfl | rfl | rfl | rfl <;> omega
theorem dl_bd {n : Nat} : Bd (3 ^ 0) n n dl := fun i j _ _ => by
  show -(3 : Int) ^ 0 ≤ (if i = j then 1 else 0) ∧ (if i = j then (1 : Int) else 0) ≤ 3 ^ 0
  split <;> decide
theorem upd_upd {H : Hp} {x : Addr} {o u : HO} : upd (upd H x o) x u = upd H x u := by
  funext a
  by_cases e : a = x
  · rw [e, upd_same, upd_same]
  · rw [upd_ne e, upd_ne e, upd_ne e]
def spLead : Sp := fun vs H Q _ => ∃ z c cs t, ∃ n : Nat, vs = [.ref z, .int n] ∧ PenAt H z c cs t ∧ t ≤ 80000 ∧ 1 ≤ n ∧ n ≤ 4 ∧
  ∀ q tp bp xs ys f g H', H' q = some (.tup [.ref tp, .ref bp]) → MatX false false H' tp xs n n f → MatX false false H' bp ys n n g → Pair n f g → Bd 27 n n f → Bd 27 n n g → PenAt H' z c cs (t + 13) → Fw z H H' → Q (.ref q) H'
end Tz
namespace Mx
theorem sg_bd {c : Int} (c0 : 0 ≤ c) : ∀ {n : Nat} {F : Nat → Int}, (∀ k, k < n → -c ≤ F k ∧ F k ≤ c) → -(c * n) ≤ sg n F ∧ sg n F ≤ c * n
  | 0, F, _ => by show -(c * 0) ≤ 0 ∧ 0 ≤ c * 0; omega
  | n + 1, F, h => by
    have h1 := sg_bd c0 (n := n) fun k hk => h k (Nat.lt_succ_of_lt hk)
    have h2 := h n (Nat.lt_succ_self n)
    have e : c * ((n + 1 : Nat) : Int) = c * n + c := by rw [Int.natCast_add, Int.mul_add]; omega
    rw [e]
    show -(c * n + c) ≤ sg n F + F n ∧ sg n F + F n ≤ c * n + c
    omega
theorem mul_bdd {x y a b : Int} (hx : -a ≤ x ∧ x ≤ a) (hy : -b ≤ y ∧ y ≤ b) (a0 : 0 ≤ a) (b0 : 0 ≤ b) : -(a * b) ≤ x * y ∧ x * y ≤ a * b := by
  have h1 : x.natAbs ≤ a.natAbs := by omega
  have h2 : y.natAbs ≤ b.natAbs := by omega
  have h3 : (x * y).natAbs ≤ (a * b).natAbs := by
    rw [Int.natAbs_mul, Int.natAbs_mul]
    exact Nat.mul_le_mul h1 h2
  have h4 : 0 ≤ a * b := Int.mul_nonneg a0 b0
  omega
/-- a matrix times one that has its numbers on the diagonal alone -/
theorem ml_dg {n i j m : Nat} {A : Fn2} {d : Nat → Int} : ml n A (fun i j => if i = j ∧ i < m then d i else 0) i j = if j < n ∧ j < m then A i j * d j else 0 := by
  show sg n (fun k => A i k * (if k = j ∧ k < m then d k else 0)) = _
  have e : sg n (fun k => A i k * (if k = j ∧ k < m then d k else 0)) = sg n (fun k => if k = j then (if j < m then A i j * d j else 0) else 0) := sg_congr fun k _ => by
    by_cases q : k = j
    · subst q
      by_cases l : k < m
      · rw [if_pos ⟨rfl, l⟩, if_pos rfl, if_pos l]
      · rw [if_neg fun z => l z.2, if_pos rfl, if_neg l, Int.mul_zero]
    · rw [if_neg fun z => q z.1, if_neg q, Int.mul_zero]
  rw [e]
  by_cases l : j < n
  · rw [sg_delta (fun _ => if j < m then A i j * d j else 0) l]
    by_cases l2 : j < m
    · rw [if_pos l2, if_pos ⟨l, l2⟩]
    · rw [if_neg l2, if_neg fun z => l2 z.2]
  · rw [sg_none _ l, if_neg fun z => l z.1]
/-- there and back again -/
theorem there_back {h b i j : Nat} {f1 f2 g1 g2 D : Fn2} (p1 : Pair h f1 g1) (p2 : Pair b f2 g2) (hi : i < h) (hj : j < b) : ml b (ml h f1 (ml b (ml h g1 D) g2)) f2 i j = D i j := by
  have e1 : ∀ k, k < b → ml h f1 (ml b (ml h g1 D) g2) i k = ml b D g2 i k := fun k hk => by
    rw [ml_assoc]
    refine ml_congr (fun l hl => ?_) fun _ _ => rfl
    rw [ml_assoc]
    exact ml_oneL hi fun q hq => p1.l i q hi hq
  rw [ml_congr e1 fun _ _ => rfl, ← ml_assoc]
  exact ml_oneR hj fun k hk => p2.r k j hk hj
theorem ml_putR_row {n a b i k : Nat} {A B : Fn2} {d : Int} (ha : a < n) : ml n A (put B a b d) i k = if k = b then ml n A B i k + A i a * d else ml n A B i k := by
  by_cases e : k = b
  · subst e
    rw [if_pos rfl, ml_putR ha]
  · rw [if_neg e]
    refine sg_congr fun l _ => ?_
    show A i l * (if l = a ∧ k = b then B l k + d else B l k) = _
    rw [if_neg fun z => e z.2]
/-- one place of the rows put otherwise -/
theorem rows_put {h b a c : Nat} {f1 f2 g1 g2 A : Fn2} {d : Int} (p1 : Pair h f1 g1) (p2 : Pair b f2 g2) (ha : a < h) (hc : c < b) (d0 : d ≠ 0) : ∃ i j, i < h ∧ j < b ∧ ml b (ml h f1 (put A a c d)) f2 i j ≠ ml b (ml h f1 A) f2 i j := by
  obtain ⟨i, hi, ni⟩ := p1.swap.colB ha
  obtain ⟨j, hj, nj⟩ := p2.swap.rowB hc
  refine ⟨i, j, hi, hj, fun e => ?_⟩
  have e1 : ml b (ml h f1 (put A a c d)) f2 i j = ml b (put (ml h f1 A) i c (f1 i a * d)) f2 i j := ml_congr (fun k _ => by
    rw [ml_putR_row ha]
    show _ = if i = i ∧ k = c then ml h f1 A i k + f1 i a * d else ml h f1 A i k
    by_cases q : k = c
    · rw [if_pos q, if_pos ⟨rfl, q⟩]
    · rw [if_neg q, if_neg fun z => q z.2]) fun _ _ => rfl
  rw [e1, ml_putL hc] at e
  have : f1 i a * d * f2 c j = 0 := by omega
  rcases Int.mul_eq_zero.mp this with q | q
  · rcases Int.mul_eq_zero.mp q with q | q
    · exact ni q
    · exact d0 q
  · exact nj q
end Mx
namespace Tz
open PySem PySem.Spec PyProof.Rows L2 TzF TzRepr Mx
/-! ### rows with bounds -/
theorem rows_bd {h b m : Nat} {g1 g2 : Fn2} {d : Nat → Int} (h4 : h ≤ 4) (b4 : b ≤ 4) (b1 : Bd 27 h h g1) (b2 : Bd 27 b b g2) (bd : ∀ j, j < m → -256 ≤ d j ∧ d j ≤ 256) : Bd 746496 h b (ml b (ml h g1 fun i j => if i = j ∧ i < m then d i else 0) g2) := fun i j hi hj => by
  have key : ∀ k, k < b → -(186624 : Int) ≤ ml h g1 (fun i j => if i = j ∧ i < m then d i else 0) i k * g2 k j ∧ ml h g1 (fun i j => if i = j ∧ i < m then d i else 0) i k * g2 k j ≤ 186624 := fun k hk => by
    refine mul_bdd (a := 6912) (b := 27) ?_ (b2 k j hk hj) (by decide) (by decide)
    rw [ml_dg]
    by_cases q : k < h ∧ k < m
    · rw [if_pos q]
      exact mul_bdd (a := 27) (b := 256) (b1 i k hi q.1) (bd k q.2) (by decide) (by decide)
    · rw [if_neg q]
      decide
  have := sg_bd (c := 186624) (by decide) (n := b) key
  have e : (186624 : Int) * (b : Nat) ≤ 746496 := by omega
  show -(746496 : Int) ≤ sg b _ ∧ sg b _ ≤ 746496
  omega
/-! ### what is shown of data of ints and bools -/
structure Tm (d : PyData) (k c : Nat) : Prop where
  sh : d.showable = true
  nd : d.hasDict = false
  dp : d.depth ≤ k
  lv : d.leavesShort 13 = true
  bk : d.bulk ≤ c
structure TmA (ds : List PyData) (k c : Nat) : Prop where
  sh : PyData.showableAll ds = true
  nd : PyData.hasDictAll ds = false
  dp : PyData.depthAll ds ≤ k
  lv : PyData.leavesShortAll 13 ds = true
  bk : PyData.bulkAll ds ≤ c
theorem Tm.mono {d : PyData} {k c k' c' : Nat} (t : Tm d k c) (hk : k ≤ k') (hc : c ≤ c') : Tm d k' c' := ⟨t.sh, t.nd, Nat.le_trans t.dp hk, t.lv, Nat.le_trans t.bk hc⟩
theorem tm_int {i : Int} (h : -999999999999 ≤ i ∧ i ≤ 999999999999) : Tm (.int i) 0 0 := by
  refine ⟨?_, rfl, Nat.le_refl _, ?_, Nat.le_refl _⟩
  · have : i.natAbs < 2 ^ 40 := by omega
    have := PySem.Flt.log2_lt_of (by decide) this
    simp only [PyData.showable, decide_eq_true_eq]
    omega
  · have := PyData.shown_int_le2 h.1 h.2
    simp only [PyData.leavesShort, decide_eq_true_eq]
    exact this
theorem tm_bool (b : Bool) : Tm (.bool b) 0 0 := ⟨rfl, rfl, Nat.le_refl _, rfl, Nat.le_refl _⟩
theorem TmA.nil {k : Nat} : TmA [] k 0 := ⟨rfl, rfl, Nat.zero_le _, rfl, Nat.le_refl _⟩
theorem TmA.cons {d : PyData} {ds : List PyData} {k c1 c2 : Nat} (a : Tm d k c1) (b : TmA ds k c2) : TmA (d :: ds) k (c1 + 1 + c2) := by
  refine ⟨?_, ?_, ?_, ?_, ?_⟩
  · simp only [PyData.showableAll, a.sh, b.sh, Bool.and_self]
  · simp only [PyData.hasDictAll, a.nd, b.nd, Bool.or_self]
  · rw [PyData.depthAll]
    exact Nat.max_le.mpr ⟨a.dp, b.dp⟩
  · simp only [PyData.leavesShortAll, a.lv, b.lv, Bool.and_self]
  · have h1 := a.bk
    have h2 := b.bk
    rw [PyData.bulkAll]
    omega
theorem TmA.list {ds : List PyData} {k c : Nat} (a : TmA ds k c) : Tm (.list ds) (k + 1) c := by
  refine ⟨?_, ?_, ?_, ?_, ?_⟩
  · simp only [PyData.showable, a.sh]
  · simp only [PyData.hasDict, a.nd]
  · have := a.dp
    rw [PyData.depth]
    omega
  · simp only [PyData.leavesShort, a.lv]
  · rw [PyData.bulk]
    exact a.bk
theorem TmA.tuple {ds : List PyData} {k c : Nat} (a : TmA ds k c) : Tm (.tuple ds) (k + 1) c := by
  refine ⟨?_, ?_, ?_, ?_, ?_⟩
  · simp only [PyData.showable, a.sh]
  · simp only [PyData.hasDict, a.nd]
  · have := a.dp
    rw [PyData.depth]
    omega
  · simp only [PyData.leavesShort, a.lv]
  · rw [PyData.bulk]
    exact a.bk
theorem tm_map {F : Nat → PyData} {k c : Nat} : ∀ (l : List Nat), (∀ i ∈ l, Tm (F i) k c) → TmA (l.map F) k (l.length * (c + 1))
  | [], _ => by rw [List.length_nil, Nat.zero_mul]; exact TmA.nil
  | i :: l, h => by
    have := TmA.cons (h i List.mem_cons_self) (tm_map l fun j hj => h j (List.mem_cons_of_mem _ hj))
    rw [List.length_cons, Nat.add_mul, Nat.one_mul, Nat.add_comm]
    exact this
theorem Tm.shown {d : PyData} {k c : Nat} (t : Tm d k c) (hk : k ≤ 60) (hc : c ≤ 10000) : d.showable = true ∧ d.hasDict = false ∧ d.depth ≤ 60 ∧ d.shown.length ≤ sizeLine := by
  refine ⟨t.sh, t.nd, Nat.le_trans t.dp hk, ?_⟩
  have h := PyData.shown_le_bulk 13 (by decide) d t.lv
  have h2 := t.bk
  exact Nat.le_trans (show _ ≤ 200000 by omega) (by decide)
end Tz
namespace Tz
open PySem PySem.Spec PyProof.Rows L2 TzF TzRepr Mx
theorem rint_push {m : Nat} {g : Nat → Int} {n : Int} : rint m g ++ [V.int n] = rint (m + 1) fun j => if j = m then n else g j := by
  rw [show rint (m + 1) (fun j => if j = m then n else g j) = _ from cells_snoc]
  refine congr (congrArg _ ?_) ?_
  · exact cells_congr fun j hj => congrArg V.int (if_neg (by omega)).symm
  · exact congrArg (fun x => [V.int x]) (if_pos rfl).symm
def spDivs : Sp := fun vs H Q _ => ∃ z c cs t, ∃ most : Nat, vs = [.ref z, .int most] ∧ PenAt H z c cs t ∧ t ≤ 80000 ∧ 1 ≤ most ∧ most ≤ 4 ∧
  ∀ l m g H', H' l = some (.lst (rint m g)) → H l = none → m ≤ most → (∀ j, j < m → 1 ≤ g j ∧ g j ≤ 256) → (∀ j, j + 1 < m → g (j + 1) % g j = 0) → PenAt H' z c cs (t + 5) → Fw z H H' → Q (.ref l) H'
/-- the five parts -/
structure Md (H : Hp) (pp : Addr) (h b m : Nat) (f : Nat → V) (pl pr plb prb pd : Addr) (xl xr xlb xrb : List Addr) (f1 f2 g1 g2 : Fn2) : Prop where
  at_ : H pp = some (.lst [.ref pl, .ref pr, .ref plb, .ref prb, .ref pd])
  L : MatX true true H pl xl h h f1
  R : MatX true true H pr xr b b f2
  LB : MatX true true H plb xlb h h g1
  RB : MatX true true H prb xrb b b g2
  d : H pd = some (.tup (cells m f))
  p1 : Pair h f1 g1
  p2 : Pair b f2 g2
  b1 : Bd 27 h h f1
  b2 : Bd 27 b b f2
  b3 : Bd 27 h h g1
  b4 : Bd 27 b b g2
section
variable {H H' : Hp} {pp z c : Addr} {cs : List Int} {t h b m n : Nat} {f : Nat → V} {pl pr plb prb pd : Addr} {xl xr xlb xrb : List Addr} {f1 f2 g1 g2 : Fn2}
theorem Md.ex (M : Md H pp h b m f pl pr plb prb pd xl xr xlb xrb f1 f2 g1 g2) (e : Ex H H') : Md H' pp h b m f pl pr plb prb pd xl xr xlb xrb f1 f2 g1 g2 :=
  ⟨e _ _ M.at_, M.L.ex e, M.R.ex e, M.LB.ex e, M.RB.ex e, e _ _ M.d, M.p1, M.p2, M.b1, M.b2, M.b3, M.b4⟩
theorem no_pen {x : Addr} {o : HO} (P : PenAt H z c cs t) (h : H x = some o) (no : ∀ ix left : Int, o ≠ .lst [.ref c, .int ix, .int left]) : x ≠ z := fun e => by
  obtain ⟨⟨ix, left, hz, _⟩, _⟩ := P
  rw [e, hz] at h
  cases h
  exact no _ _ rfl
theorem row_no {b : Bool} {n : Nat} {f : Nat → V} (ib : ∀ j, j < n → IB (f j)) : ∀ ix left : Int, ro b (cells n f) ≠ .lst [.ref c, .int ix, .int left] := fun ix left e => by
  cases b with
  | true => cases e
  | false =>
    have e : cells n f = [.ref c, .int ix, .int left] := HO.lst.inj e
    match n with
    | 0 => cases e
    | n + 1 =>
      have h0 := cells_get (m := n + 1) (f := f) (i := 0) (by omega)
      rw [e] at h0
      have h0 : some (V.ref c) = some (f 0) := h0
      obtain ⟨k, q⟩ | ⟨k, q⟩ := ib 0 (by omega) <;> rw [q] at h0 <;> cases h0
theorem refs_no {b : Bool} {xs : List Addr} : ∀ ix left : Int, ro b (xs.map V.ref) ≠ .lst [.ref c, .int ix, .int left] := fun ix left e => by
  cases b with
  | true => cases e
  | false =>
    have e : xs.map V.ref = [.ref c, .int ix, .int left] := HO.lst.inj e
    match xs with
    | [] => cases e
    | [_] => cases e
    | _ :: _ :: _ => cases e
theorem CellX.fw {bo b : Bool} {p : Addr} {xs : List Addr} {n m : Nat} {f : Nat → Nat → V} (M : CellX bo b H p xs n m f) (ib : ∀ i j, i < n → j < m → IB (f i j)) (P : PenAt H z c cs t) (w : Fw z H H') : CellX bo b H' p xs n m f :=
  ⟨w _ _ (no_pen P M.at_ refs_no) M.at_, M.len, fun i x q => w _ _ (no_pen P (M.row i x q) (row_no fun j hj => ib i j (by rw [← M.len]; exact (List.getElem?_eq_some_iff.mp q).1) hj)) (M.row i x q)⟩
theorem MatX.fw {bo b : Bool} {p : Addr} {xs : List Addr} {n m : Nat} {f : Fn2} (M : MatX bo b H p xs n m f) (P : PenAt H z c cs t) (w : Fw z H H') : MatX bo b H' p xs n m f :=
  (M.cell.fw (fun _ _ _ _ => .inl ⟨_, rfl⟩) P w).mat
theorem Md.fw (M : Md H pp h b m f pl pr plb prb pd xl xr xlb xrb f1 f2 g1 g2) (P : PenAt H z c cs t) (w : Fw z H H') : Md H' pp h b m f pl pr plb prb pd xl xr xlb xrb f1 f2 g1 g2 :=
  ⟨w _ _ (no_pen P M.at_ fun _ _ e => by cases e) M.at_, M.L.fw P w, M.R.fw P w, M.LB.fw P w, M.RB.fw P w, w _ _ (no_pen P M.d fun _ _ e => by cases e) M.d, M.p1, M.p2, M.b1, M.b2, M.b3, M.b4⟩
end
def dgv (m : Nat) (f : Nat → V) : Fn2 := fun i j => if i = j ∧ i < m then iv (f i) else 0
def spMade : Sp := fun vs H Q _ => ∃ z c cs t tl, ∃ h b m : Nat, ∃ f : Nat → V, vs = [.ref z, .int h, .int b, .ref tl] ∧ PenAt H z c cs t ∧ t ≤ 70000 ∧ 1 ≤ h ∧ h ≤ 4 ∧ 1 ≤ b ∧ b ≤ 4 ∧ H tl = some (.lst (cells m f)) ∧ m ≤ 8 ∧ (∀ j, j < m → IB (f j)) ∧ (∀ j, j < m → -256 ≤ iv (f j) ∧ iv (f j) ≤ 256) ∧
  ∀ q rp pp pl pr plb prb pd xs xl xr xlb xrb f1 f2 g1 g2 H', H' q = some (.tup [.ref rp, .ref pp]) → MatX false false H' rp xs h b (ml b (ml h g1 (dgv m f)) g2) → Md H' pp h b m f pl pr plb prb pd xl xr xlb xrb f1 f2 g1 g2 → PenAt H' z c cs (t + 26) → Fw z H H' → Q (.ref q) H'
def spPut : Sp := fun vs H Q _ => ∃ z c cs t p, ∃ m : Nat, ∃ g : Nat → Int, vs = [.ref z, .ref p] ∧ PenAt H z c cs t ∧ t ≤ 80000 ∧ H p = some (.tup (rint m g)) ∧ 1 ≤ m ∧ m ≤ 8 ∧ (∀ j, j < m → -256 ≤ g j ∧ g j ≤ 256) ∧
  ∀ q i d H', i < m → d ≠ 0 → -1000000000000 ≤ d → d ≤ 1000000000000 → H' q = some (.tup (rint m fun j => if j = i then g j + d else g j)) → PenAt H' z c cs (t + 2) → Fw z H H' → Q (.ref q) H'
/-- a thing of these five is no stairs of these rows -/
def BadP (H : Hp) (h b : Nat) (A : Fn2) (v0 v1 v2 v3 v4 : V) : Prop := ∀ C H' a dx, Ex H H' → H' a = some (.ins C dx (stf v0 v1 v2 v3 v4)) → StV C H' h b A (.ref a) false
theorem BadP.ex {H H' : Hp} {h b : Nat} {A : Fn2} {v0 v1 v2 v3 v4 : V} (B : BadP H h b A v0 v1 v2 v3 v4) (e : Ex H H') : BadP H' h b A v0 v1 v2 v3 v4 := fun C H2 a dx e2 q => B C H2 a dx (fun _ _ h => e2 _ _ (e _ _ h)) q
def spBad : Sp := fun vs H Q _ => ∃ z c cs t pp, ∃ h b m : Nat, ∃ g : Nat → Int, ∃ pl pr plb prb pd xl xr xlb xrb f1 f2 g1 g2, vs = [.ref z, .ref pp] ∧ PenAt H z c cs t ∧ t ≤ 70000 ∧ Md H pp h b m (fun j => .int (g j)) pl pr plb prb pd xl xr xlb xrb f1 f2 g1 g2 ∧ 1 ≤ h ∧ h ≤ 4 ∧ 1 ≤ b ∧ b ≤ 4 ∧ m ≤ h ∧ m ≤ b ∧ (∀ j, j < m → 1 ≤ g j ∧ g j ≤ 256) ∧
  ∀ q v0 v1 v2 v3 v4 H', H' q = some (.lst [v0, v1, v2, v3, v4]) → BadP H' h b (ml b (ml h g1 (diag m g)) g2) v0 v1 v2 v3 v4 → PenAt H' z c cs (t + 5) → Fw z H H' → Q (.ref q) H'
def spThing34 (C : Addr) : Sp := fun vs H Q _ => ∃ pp v0 v1 v2 v3 v4, vs = [.ref pp] ∧ H pp = some (.lst [v0, v1, v2, v3, v4]) ∧ ∀ a dx H', Ex H H' → H' a = some (.ins C dx (stf v0 v1 v2 v3 v4)) → Q (.ref a) H'
end Tz
namespace Tz
open PySem PySem.Spec PyProof.Rows L2 TzF TzRepr Mx
/-! ### what is no stairs -/
section
variable {H : Hp} {h b m : Nat} {A f1 f2 g1 g2 : Fn2} {g : Nat → Int} {pl pr plb prb pd : Addr} {xl xr xlb xrb : List Addr} {v0 v1 v2 v3 v4 : V}
theorem bad_div (d : DivV H v4 false) : BadP H h b A v0 v1 v2 v3 v4 := fun C H' a dx e o => .div o (d.ex e)
theorem bad_part {bd b1 b2 b3 b4 : Bool} (d : DivV H v4 bd) (P1 : PartV H h v0 b1) (P2 : PartV H b v1 b2) (P3 : PartV H h v2 b3) (P4 : PartV H b v3 b4) (no : (b1 && b3 && b2 && b4) = false) : BadP H h b A v0 v1 v2 v3 v4 :=
  fun C H' a dx e o => .part o (d.ex e) (P1.ex e) (P2.ex e) (P3.ex e) (P4.ex e) no
theorem bad_full (d : H pd = some (.tup (rint m g))) (m8 : m ≤ 8) (L : MatX true true H pl xl h h f1) (R : MatX true true H pr xr b b f2) (LB : MatX true true H plb xlb h h g1) (RB : MatX true true H prb xrb b b g2) (s1 : Sm h h f1) (s2 : Sm b b f2) (s3 : Sm h h g1) (s4 : Sm b b g2)
    (no : ¬ ((∀ i j, i < h → j < h → ml h f1 g1 i j = dl i j) ∧ (∀ i j, i < b → j < b → ml b f2 g2 i j = dl i j) ∧ (m ≤ h ∧ m ≤ b) ∧ ∀ i j, i < h → j < b → ml b (ml h f1 A) f2 i j = diag m g i j)) : BadP H h b A (.ref pl) (.ref pr) (.ref plb) (.ref prb) (.ref pd) := fun C H' a dx e o => by
  have D : DivV H (.ref pd) _ := .tup (f := fun j => .int (g j)) d m8 fun j _ => .inl ⟨_, rfl⟩
  generalize hb : (((List.range m).all fun j => ge1 (V.int (g j))) && (List.range (m - 1)).all fun j => decide (iv (V.int (g (j + 1))) % iv (V.int (g j)) = 0)) = bd at D
  cases bd with
  | false => exact .div o (D.ex e)
  | true => exact .full o (e _ _ d) (D.ex e) (L.ex e) (R.ex e) (LB.ex e) (RB.ex e) s1 s2 s3 s4 m8 ⟨fun z => absurd z Bool.false_ne_true, fun z => absurd z no⟩
end
theorem Bd.sm {n m : Nat} {f : Fn2} (h : Bd 27 n m f) : Sm n m f := fun i j hi hj => by
  have := h i j hi hj
  omega
theorem Bd.smp {n m a c : Nat} {d : Int} {f : Fn2} (h : Bd 27 n m f) (d1 : -1000000000000 ≤ d) (d2 : d ≤ 1000000000000) : Sm n m (put f a c d) := fun i j hi hj => by
  have := h i j hi hj
  show -(2 ^ 64) < (if i = a ∧ j = c then f i j + d else f i j) ∧ (if i = a ∧ j = c then f i j + d else f i j) < 2 ^ 64
  split <;> omega
theorem no_putL {n a c : Nat} {A B : Fn2} {d : Int} (p : Pair n A B) (ha : a < n) (hc : c < n) (d0 : d ≠ 0) : ¬ ∀ i j, i < n → j < n → ml n (put A a c d) B i j = dl i j := fun z => by
  obtain ⟨j, hj, nj⟩ := p.rowB hc
  have e := z a j ha hj
  rw [ml_putL hc, p.l a j ha hj] at e
  have : d * B c j = 0 := by omega
  rcases Int.mul_eq_zero.mp this with q | q
  · exact d0 q
  · exact nj q
theorem no_putR {n a c : Nat} {A B : Fn2} {d : Int} (p : Pair n A B) (ha : a < n) (hc : c < n) (d0 : d ≠ 0) : ¬ ∀ i j, i < n → j < n → ml n A (put B a c d) i j = dl i j := fun z => by
  obtain ⟨i, hi, ni⟩ := p.swap.colB ha
  have e := z i c hi hc
  rw [ml_putR ha, p.l i c hi hc] at e
  have : A i a * d = 0 := by omega
  rcases Int.mul_eq_zero.mp this with q | q
  · exact ni q
  · exact d0 q
theorem dgv_int {m : Nat} {g : Nat → Int} : dgv m (fun j => .int (g j)) = diag m g := rfl
/-- of four -/
def sel4 {α : Type} (a b c d : α) : Nat → α
  | 0 => a
  | 1 => b
  | 2 => c
  | _ => d
section
variable {H : Hp} {pp : Addr} {h b m : Nat} {f : Nat → V} {pl pr plb prb pd : Addr} {xl xr xlb xrb : List Addr} {f1 f2 g1 g2 : Fn2}
theorem Md.sel (M : Md H pp h b m f pl pr plb prb pd xl xr xlb xrb f1 f2 g1 g2) {w : Nat} (hw : w < 4) : MatX true true H (sel4 pl pr plb prb w) (sel4 xl xr xlb xrb w) (sel4 h b h b w) (sel4 h b h b w) (sel4 f1 f2 g1 g2 w) ∧ Bd 27 (sel4 h b h b w) (sel4 h b h b w) (sel4 f1 f2 g1 g2 w) ∧
    ([V.ref pl, .ref pr, .ref plb, .ref prb, .ref pd])[w]? = some (.ref (sel4 pl pr plb prb w)) := by
  match w, hw with
  | 0, _ => exact ⟨M.L, M.b1, rfl⟩
  | 1, _ => exact ⟨M.R, M.b2, rfl⟩
  | 2, _ => exact ⟨M.LB, M.b3, rfl⟩
  | 3, _ => exact ⟨M.RB, M.b4, rfl⟩
/-- one place of one of the four put otherwise -/
theorem Md.bent {g : Nat → Int} (M : Md H pp h b m (fun j => .int (g j)) pl pr plb prb pd xl xr xlb xrb f1 f2 g1 g2) (m8 : m ≤ 8) {w a c : Nat} {d : Int} {q : Addr} {xq : List Addr} (hw : w < 4) (ha : a < sel4 h b h b w) (hc : c < sel4 h b h b w) (d0 : d ≠ 0) (d1 : -1000000000000 ≤ d) (d2 : d ≤ 1000000000000)
    (N : MatX true true H q xq (sel4 h b h b w) (sel4 h b h b w) (put (sel4 f1 f2 g1 g2 w) a c d)) (A : Fn2) : ∃ v0 v1 v2 v3 v4, ([V.ref pl, .ref pr, .ref plb, .ref prb, .ref pd]).set w (.ref q) = [v0, v1, v2, v3, v4] ∧ BadP H h b A v0 v1 v2 v3 v4 := by
  match w, hw with
  | 0, _ => exact ⟨_, _, _, _, _, rfl, bad_full M.d m8 N M.R M.LB M.RB (M.b1.smp d1 d2) M.b2.sm M.b3.sm M.b4.sm fun z => no_putL M.p1 ha hc d0 z.1⟩
  | 1, _ => exact ⟨_, _, _, _, _, rfl, bad_full M.d m8 M.L N M.LB M.RB M.b1.sm (M.b2.smp d1 d2) M.b3.sm M.b4.sm fun z => no_putL M.p2 ha hc d0 z.2.1⟩
  | 2, _ => exact ⟨_, _, _, _, _, rfl, bad_full M.d m8 M.L M.R N M.RB M.b1.sm M.b2.sm (M.b3.smp d1 d2) M.b4.sm fun z => no_putR M.p1 ha hc d0 z.1⟩
  | 3, _ => exact ⟨_, _, _, _, _, rfl, bad_full M.d m8 M.L M.R M.LB N M.b1.sm M.b2.sm M.b3.sm (M.b4.smp d1 d2) fun z => no_putR M.p2 ha hc d0 z.2.1⟩
/-- other divisors -/
theorem Md.newDiv {g g' : Nat → Int} {m' i : Nat} (M : Md H pp h b m (fun j => .int (g j)) pl pr plb prb pd xl xr xlb xrb f1 f2 g1 g2) {q : Addr} (hq : H q = some (.tup (rint m' g'))) (m8 : m' ≤ 8) (ne : (m' ≤ h ∧ m' ≤ b) → i < h ∧ i < b ∧ diag m g i i ≠ diag m' g' i i) :
    BadP H h b (ml b (ml h g1 (diag m g)) g2) (.ref pl) (.ref pr) (.ref plb) (.ref prb) (.ref q) :=
  bad_full hq m8 M.L M.R M.LB M.RB M.b1.sm M.b2.sm M.b3.sm M.b4.sm fun z => by
    obtain ⟨h1, h2, h3⟩ := ne z.2.2.1
    exact h3 ((there_back M.p1 M.p2 h1 h2).symm.trans (z.2.2.2 i i h1 h2))
end
/-- a row in a matrix of tuples -/
theorem MatX.rowT {H : Hp} {p q D : Addr} {xs : List Addr} {n m a c : Nat} {f : Fn2} {d : Int} (M : MatX true true H p xs n m f) (hD : H D = some (.tup (rint m fun j => if j = c then f a j + d else f a j))) (hq : H q = some (.tup ((xs.map V.ref).set a (.ref D)))) : MatX true true H q (xs.set a D) n m (put f a c d) := by
  refine ⟨by rw [hq, ← List.map_set]; rfl, by rw [List.length_set]; exact M.len, fun i x hx => ?_⟩
  rw [List.getElem?_set] at hx
  by_cases e : a = i
  · rw [if_pos e] at hx
    by_cases l : a < xs.length
    · rw [if_pos l] at hx
      cases hx
      rw [hD]
      refine congrArg (fun l => some (ro true l)) (cells_congr fun k _ => congrArg V.int ?_)
      subst e
      show (if k = c then f a k + d else f a k) = if a = a ∧ k = c then f a k + d else f a k
      by_cases q : k = c
      · rw [if_pos q, if_pos ⟨rfl, q⟩]
      · rw [if_neg q, if_neg fun z => q z.2]
    · rw [if_neg l] at hx
      cases hx
  · rw [if_neg e] at hx
    rw [M.row i x hx]
    exact congrArg (fun l => some (ro true l)) (cells_congr fun k _ => congrArg V.int (if_neg fun z => e z.1.symm).symm)
theorem shaped_row {m : Nat} {g : Nat → Int} : SeqAt.shaped (.tuple (drow m g)) = true := by
  unfold SeqAt.shaped
  rw [PyData.canLay0, lay_row, PyData.depth]
  have := deep_row (m := m) (f := g)
  exact decide_eq_true (show _ ≤ 64 by omega)
end Tz
namespace Tz
open PySem PySem.Spec PyProof.Rows L2 TzF TzRepr Mx
/-- a list that is written is no part -/
theorem MatX.chg {H : Hp} {p x : Addr} {xs : List Addr} {n m : Nat} {f : Fn2} {l : List V} {o : HO} (M : MatX true true H p xs n m f) (h : H x = some (.lst l)) : MatX true true (upd H x o) p xs n m f :=
  M.off (fun e => by rw [e, M.at_] at h; cases h) fun e => by
    obtain ⟨j, hj, q⟩ := List.mem_iff_getElem.mp e
    rw [← q, M.row j _ (List.getElem?_eq_getElem hj)] at h
    cases h
theorem Md.chg {H : Hp} {pp x : Addr} {h b m : Nat} {f : Nat → V} {pl pr plb prb pd : Addr} {xl xr xlb xrb : List Addr} {f1 f2 g1 g2 : Fn2} {l : List V} {o : HO} (M : Md H pp h b m f pl pr plb prb pd xl xr xlb xrb f1 f2 g1 g2) (hx : H x = some (.lst l)) (ne : x ≠ pp) :
    Md (upd H x o) pp h b m f pl pr plb prb pd xl xr xlb xrb f1 f2 g1 g2 :=
  ⟨by rw [upd_ne fun e => ne e.symm]; exact M.at_, M.L.chg hx, M.R.chg hx, M.LB.chg hx, M.RB.chg hx, by rw [upd_ne fun e => by rw [← e, M.d] at hx; cases hx]; exact M.d, M.p1, M.p2, M.b1, M.b2, M.b3, M.b4⟩
end Tz
namespace Tz
open PySem PySem.Spec PyProof.Rows L2 TzF TzRepr Mx
/-! ### a list written: what is no part stays so -/
section
variable {H : Hp} {x : Addr} {l l' : List V} {v : V} {n : Nat} {b : Bool}
theorem NoTup.chg (h : NoTup H v) (hx : H x = some (.lst l)) : NoTup (upd H x (.lst l')) v := by
  cases h with
  | non => exact .non
  | int i => exact .int i
  | str z => exact .str z
  | @lst a xs h =>
    by_cases e : a = x
    · rw [e]
      exact .lst upd_same
    · exact .lst (by rw [upd_ne e]; exact h)
  | @dic a kvs h => exact .dic (by rw [upd_ne fun e => by rw [e, hx] at h; cases h]; exact h)
theorem RowV.chg (h : RowV H n v b) (hx : H x = some (.lst l)) : RowV (upd H x (.lst l')) n v b := by
  cases h with
  | tup h hm ib => exact .tup (by rw [upd_ne fun e => by rw [e, hx] at h; cases h]; exact h) hm ib
  | @lst a ys h =>
    by_cases e : a = x
    · rw [e]
      exact .lst upd_same
    · exact .lst (by rw [upd_ne e]; exact h)
theorem PartV.chg (h : PartV H n v b) (hx : H x = some (.lst l)) : PartV (upd H x (.lst l')) n v b := by
  cases h with
  | no h => exact .no (h.chg hx)
  | tup h hm r => exact .tup (by rw [upd_ne fun e => by rw [e, hx] at h; cases h]; exact h) hm fun i hi => (r i hi).chg hx
theorem DivV.chg (h : DivV H v b) (hx : H x = some (.lst l)) : DivV (upd H x (.lst l')) v b := by
  cases h with
  | no h => exact .no (h.chg hx)
  | tup h hm ib => exact .tup (by rw [upd_ne fun e => by rw [e, hx] at h; cases h]; exact h) hm ib
end
section
variable {H : Hp} {pp : Addr} {h b m : Nat} {g : Nat → Int} {pl pr plb prb pd : Addr} {xl xr xlb xrb : List Addr} {f1 f2 g1 g2 : Fn2} {v : V}
theorem Md.dv (M : Md H pp h b m (fun j => .int (g j)) pl pr plb prb pd xl xr xlb xrb f1 f2 g1 g2) (m8 : m ≤ 8) : ∃ bd, DivV H (.ref pd) bd :=
  ⟨_, .tup (f := fun j => .int (g j)) M.d m8 fun j _ => .inl ⟨_, rfl⟩⟩
/-- something else in the place of one of the four -/
theorem Md.oddAt (M : Md H pp h b m (fun j => .int (g j)) pl pr plb prb pd xl xr xlb xrb f1 f2 g1 g2) (m8 : m ≤ 8) (h8 : h ≤ 8) (b8 : b ≤ 8) {w : Nat} (hw : w < 4) (P : PartV H (sel4 h b h b w) v false) (A : Fn2) :
    ∃ v0 v1 v2 v3 v4, ([V.ref pl, .ref pr, .ref plb, .ref prb, .ref pd]).set w v = [v0, v1, v2, v3, v4] ∧ BadP H h b A v0 v1 v2 v3 v4 := by
  obtain ⟨bd, d⟩ := M.dv m8
  match w, hw with
  | 0, _ => exact ⟨_, _, _, _, _, rfl, bad_part d P (M.R.sqr b8) (M.LB.sqr h8) (M.RB.sqr b8) rfl⟩
  | 1, _ => exact ⟨_, _, _, _, _, rfl, bad_part d (M.L.sqr h8) P (M.LB.sqr h8) (M.RB.sqr b8) rfl⟩
  | 2, _ => exact ⟨_, _, _, _, _, rfl, bad_part d (M.L.sqr h8) (M.R.sqr b8) P (M.RB.sqr b8) rfl⟩
  | 3, _ => exact ⟨_, _, _, _, _, rfl, bad_part d (M.L.sqr h8) (M.R.sqr b8) (M.LB.sqr h8) P rfl⟩
theorem Md.oddNon (M : Md H pp h b m (fun j => .int (g j)) pl pr plb prb pd xl xr xlb xrb f1 f2 g1 g2) (m8 : m ≤ 8) (h8 : h ≤ 8) (b8 : b ≤ 8) {w : Nat} {bb : Bool} (hw : w < 4) (P : PartV H (sel4 h b h b w) v bb) (A : Fn2) :
    ∃ v0 v1 v2 v3 v4, ([V.ref pl, .ref pr, .ref plb, .ref prb, .ref pd]).set w v = [v0, v1, v2, v3, v4] ∧ BadP H h b A .non v1 v2 v3 v4 := by
  obtain ⟨bd, d⟩ := M.dv m8
  match w, hw with
  | 0, _ => exact ⟨_, _, _, _, _, rfl, bad_part d (.no .non) (M.R.sqr b8) (M.LB.sqr h8) (M.RB.sqr b8) rfl⟩
  | 1, _ => exact ⟨_, _, _, _, _, rfl, bad_part d (.no .non) P (M.LB.sqr h8) (M.RB.sqr b8) rfl⟩
  | 2, _ => exact ⟨_, _, _, _, _, rfl, bad_part d (.no .non) (M.R.sqr b8) P (M.RB.sqr b8) rfl⟩
  | 3, _ => exact ⟨_, _, _, _, _, rfl, bad_part d (.no .non) (M.R.sqr b8) (M.LB.sqr h8) P rfl⟩
end
/-! ### parts of cells -/
theorem refs_cells {xs : List Addr} {n : Nat} (hn : xs.length = n) : xs.map V.ref = cells n fun i => .ref (xs.getD i 0) := by
  refine List.ext_getElem? fun i => ?_
  by_cases h : i < n
  · rw [cells_get h, List.getElem?_map, List.getElem?_eq_getElem (by rw [hn]; exact h), List.getD_eq_getElem?_getD, List.getElem?_eq_getElem (by rw [hn]; exact h)]
    rfl
  · rw [List.getElem?_eq_none (by rw [List.length_map, hn]; omega), List.getElem?_eq_none (by rw [cells_len]; omega)]
theorem getD_of {xs : List Addr} {i n : Nat} (hn : xs.length = n) (hi : i < n) : ∃ x, xs[i]? = some x ∧ xs.getD i 0 = x := by
  have l : i < xs.length := by rw [hn]; exact hi
  exact ⟨xs[i], List.getElem?_eq_getElem l, by rw [List.getD_eq_getElem?_getD, List.getElem?_eq_getElem l]; rfl⟩
section
variable {H : Hp} {p : Addr} {xs : List Addr} {n m z : Nat} {F : Nat → Nat → V}
theorem CellX.part (M : CellX true true H p xs n m F) (n8 : n ≤ 8) (m8 : m ≤ 8) (ib : ∀ i j, i < n → j < m → IB (F i j)) (z : Nat) : PartV H z (.ref p) (decide (n = z) && (List.range n).all fun i => decide (m = z) && (List.range m).all fun j => wh (F i j)) := by
  refine .tup (vs := fun i => .ref (xs.getD i 0)) (by rw [← refs_cells M.len]; exact M.at_) n8 fun i hi => ?_
  obtain ⟨x, h0, e⟩ := getD_of M.len hi
  rw [e]
  exact .tup (M.row i x h0) m8 fun j hj => ib i j hi hj
/-- some cell is a bool -/
theorem CellX.odd (M : CellX true true H p xs n m F) (n8 : n ≤ 8) (m8 : m ≤ 8) (ib : ∀ i j, i < n → j < m → IB (F i j)) {i j : Nat} (hi : i < n) (hj : j < m) (w : wh (F i j) = false) : PartV H z (.ref p) false := by
  have P := M.part n8 m8 ib z
  have e : (decide (n = z) && (List.range n).all fun i => decide (m = z) && (List.range m).all fun j => wh (F i j)) = false := by
    rw [Bool.and_eq_false_iff]
    refine .inr (List.all_eq_false.mpr ⟨i, List.mem_range.mpr hi, fun q => ?_⟩)
    have q := (Bool.and_eq_true _ _ ▸ q : decide (m = z) = true ∧ ((List.range m).all fun j => wh (F i j)) = true).2
    have := List.all_eq_true.mp q j (List.mem_range.mpr hj)
    rw [w] at this
    cases this
  rwa [e] at P
/-- a tuple of lists -/
theorem CellX.lists (M : CellX true false H p xs n m F) (n8 : n ≤ 8) (n1 : 1 ≤ n) : PartV H z (.ref p) false := by
  have P : PartV H z (.ref p) (decide (n = z) && (List.range n).all fun _ => false) := .tup (vs := fun i => .ref (xs.getD i 0)) (by rw [← refs_cells M.len]; exact M.at_) n8 fun i hi => by
    obtain ⟨x, h0, e⟩ := getD_of M.len hi
    rw [e]
    exact .lst (M.row i x h0)
  have e : (decide (n = z) && (List.range n).all fun _ => false) = false := by
    rw [Bool.and_eq_false_iff]
    exact .inr (List.all_eq_false.mpr ⟨0, List.mem_range.mpr (by omega), Bool.false_ne_true⟩)
  rwa [e] at P
/-- a row too few -/
theorem MatX.few {p q : Addr} {f : Fn2} (M : MatX true true H p xs n m f) (hq : H q = some (.tup ((xs.map V.ref).drop 1))) (n8 : n ≤ 8) (n1 : 1 ≤ n) (m8 : m ≤ 8) : PartV H n (.ref q) false := by
  have len : (xs.drop 1).length = n - 1 := by rw [List.length_drop, M.len]
  have N : CellX true true H q (xs.drop 1) (n - 1) m fun i j => .int (f (i + 1) j) := ⟨by rw [hq, ← List.map_drop]; rfl, len, fun i x hx => by
    rw [List.getElem?_drop] at hx
    rw [M.row (1 + i) x hx, Nat.add_comm]⟩
  have P := N.part (by omega) m8 (fun i j _ _ => .inl ⟨_, rfl⟩) n
  have e : (decide (n - 1 = n) && (List.range (n - 1)).all fun i => decide (m = n) && (List.range m).all fun j => wh (V.int (f (i + 1) j))) = false := by
    rw [decide_eq_false (by omega)]
    rfl
  rwa [e] at P
end
/-! ### tuples of tuples as data -/
def dcell : V → PyData
  | .int n => .int n
  | .bl b => .bool b
  | _ => .none
def dtup (n m : Nat) (F : Nat → Nat → V) : PyData := .tuple ((List.range n).map fun i => .tuple ((List.range m).map fun j => dcell (F i j)))
theorem dp_cell {K : PySem.W.Frag} {H : Hp} {v : V} (h : IB v) : Dp K H v (dcell v) := by
  obtain ⟨n, rfl⟩ | ⟨b, rfl⟩ := h
  · exact Dp.int _
  · exact Dp.bl _
theorem dp_tup {K : PySem.W.Frag} {H : Hp} {p : Addr} {xs : List Addr} {n m : Nat} {F : Nat → Nat → V} (M : CellX true true H p xs n m F) (ib : ∀ i j, i < n → j < m → IB (F i j)) : Dp K H (.ref p) (dtup n m F) := by
  refine Dp.tup (sqT M.at_) (dp_refs xs _ (by rw [List.length_map, List.length_range, M.len]) fun i x d hx hd => ?_)
  have l := (List.getElem?_eq_some_iff.mp hx).1
  rw [M.len] at l
  rw [List.getElem?_map, List.getElem?_range l] at hd
  cases hd
  exact Dp.tup (sqT (M.row i x hx)) (dp_cells _ fun j hj => dp_cell (ib i j l (List.mem_range.mp hj)))
theorem tm_cell {v : V} (h : IB v) (b : -999999999999 ≤ iv v ∧ iv v ≤ 999999999999) : Tm (dcell v) 0 0 := by
  obtain ⟨n, rfl⟩ | ⟨c, rfl⟩ := h
  · exact tm_int b
  · exact tm_bool c
theorem tm_tup {n m : Nat} {F : Nat → Nat → V} (ib : ∀ i j, i < n → j < m → IB (F i j)) (bd : ∀ i j, i < n → j < m → -999999999999 ≤ iv (F i j) ∧ iv (F i j) ≤ 999999999999) : Tm (dtup n m F) 2 (n * (m * 1 + 1)) := by
  have row : ∀ i ∈ List.range n, Tm (.tuple ((List.range m).map fun j => dcell (F i j))) 1 (m * 1) := fun i hi => by
    have hi := List.mem_range.mp hi
    have := tm_map (F := fun j => dcell (F i j)) (k := 0) (c := 0) (List.range m) fun j hj => tm_cell (ib i j hi (List.mem_range.mp hj)) (bd i j hi (List.mem_range.mp hj))
    rw [List.length_range] at this
    exact this.tuple
  have := tm_map (F := fun i => PyData.tuple ((List.range m).map fun j => dcell (F i j))) (List.range n) row
  rw [List.length_range] at this
  exact this.tuple
theorem dtup_congr {n m : Nat} {F G : Nat → Nat → V} (h : ∀ i j, i < n → j < m → F i j = G i j) : dtup n m F = dtup n m G := by
  refine congrArg PyData.tuple (List.map_congr_left fun i hi => congrArg PyData.tuple (List.map_congr_left fun j hj => ?_))
  rw [h i j (List.mem_range.mp hi) (List.mem_range.mp hj)]
/-- t + u, whatever is empty -/
theorem catA_all {K : PySem.W.Frag} {H : Hp} {a b : Addr} {xs ys : List V} {Q : VK} (ha : H a = some (.tup xs)) (hb : H b = some (.tup ys)) (hl : xs.length + ys.length ≤ 1000) (q : ∀ p H', Ex H H' → H' p = some (.tup (xs ++ ys)) → Q (.ref p) H') : rCatA K (.ref a) (.ref b) H Q := by
  refine ⟨a, b, xs, ys, rfl, rfl, sqT ha, sqT hb, Nat.le_trans hl (by decide), fun e => ?_, fun _ e => ?_, fun _ _ p np => ?_⟩
  · subst e
    exact q b H (fun _ _ h => h) hb
  · subst e
    exact q a H (fun _ _ h => h) (by rw [List.append_nil]; exact ha)
  · exact q p _ (Ex.new np) upd_same
theorem push_bad {H : Hp} {q : Addr} {m : Nat} {g : Nat → Int} (hq : H q = some (.tup (rint (m + 1) fun j => if j = m then 0 else g j))) (m8 : m + 1 ≤ 8) : DivV H (.ref q) false := by
  have D := DivV.tup (f := fun j => .int (if j = m then 0 else g j)) hq m8 fun j _ => .inl ⟨_, rfl⟩
  have e : ((List.range (m + 1)).all fun j => ge1 (V.int (if j = m then 0 else g j))) = false := List.all_eq_false.mpr ⟨m, List.mem_range.mpr (by omega), fun h => by
    rw [if_pos rfl] at h
    cases h⟩
  rw [e, Bool.false_and] at D
  exact D
theorem pick_last {m : Nat} {g : Nat → Int} (gb : ∀ j, j < m → 1 ≤ g j) : ∃ v : Int, atI (rint m g ++ [.int 1]) (((rint m g).length : Int) - 1) = some (.int v) ∧ 1 ≤ v := by
  rw [cells_len]
  rcases Nat.eq_zero_or_pos m with e | e
  · subst e
    exact ⟨1, rfl, by decide⟩
  · refine ⟨g (m - 1), ?_, gb _ (by omega)⟩
    rw [show ((m : Int) - 1) = ((m - 1 : Nat) : Int) by omega]
    refine atI_nat ?_
    rw [List.getElem?_append_left (by rw [cells_len]; omega)]
    exact cells_get (f := fun j => V.int (g j)) (by omega)
theorem sIx_last {m : Nat} : HT.sIx m m (some (-1)) = m - 1 := by
  show (if (-1 : Int) < 0 then ((-1 : Int) + (m : Nat)).toNat else min (-1 : Int).toNat m) = m - 1
  rw [if_pos (by decide)]
  omega
theorem cut_last {m : Nat} {f : Nat → V} : cutV (cells m f) none (some (-1)) = cells (m - 1) f := by
  unfold cutV
  rw [cells_len, sIx_last]
  show (cells m f).take (m - 1 - 0) = _
  refine List.ext_getElem? fun i => ?_
  rw [List.getElem?_take]
  by_cases h : i < m - 1
  · rw [if_pos (by omega), cells_get (by omega), cells_get h]
  · rw [if_neg (by omega), List.getElem?_eq_none (by rw [cells_len]; omega)]
theorem shown_tup {n m : Nat} {F : Nat → Nat → V} (n8 : n ≤ 8) (m8 : m ≤ 8) (ib : ∀ i j, i < n → j < m → IB (F i j)) (bd : ∀ i j, i < n → j < m → -999999999999 ≤ iv (F i j) ∧ iv (F i j) ≤ 999999999999) : (dtup n m F).showable = true ∧ (dtup n m F).hasDict = false ∧ (dtup n m F).depth ≤ 60 ∧ (dtup n m F).shown.length ≤ sizeLine :=
  (tm_tup ib bd).shown (by decide) (Nat.le_trans (Nat.mul_le_mul n8 (Nat.add_le_add_right (Nat.mul_le_mul_right 1 m8) 1)) (by decide))
theorem CellX.chg {H : Hp} {p x : Addr} {xs : List Addr} {n m : Nat} {F : Nat → Nat → V} {l : List V} {o : HO} (M : CellX true true H p xs n m F) (h : H x = some (.lst l)) : CellX true true (upd H x o) p xs n m F :=
  ⟨by rw [upd_ne fun e => by rw [← e, M.at_] at h; cases h]; exact M.at_, M.len, fun i y q => by rw [upd_ne fun e => by rw [← e, M.row i y q] at h; cases h]; exact M.row i y q⟩
end Tz
namespace TzOwn
open PySem PySem.Spec PyProof.Rows L2 PySem.Builtin PySem.Builtin.Str
section
variable {prog : Program} {w : World} {A : Around} {E : Value → Shared → Prop} {s : Shared} {K : PySem.W.Frag} {x C f : Addr} {od : Option Obj} {ox : Obj}
/-- str(x), x an instance with its own __str__ -/
theorem str_call {Q : Value → Shared → Prop} (hu : A.in1.in1.units < cLine) (Xk : K.In s.heap) (J : PySem.W.InstAt s.heap x ox C od) (hs : PySem.W.findIn K (.ref C) "__str__" = some (some (.ref f))) (hf : PySem.W.isFn K (.ref f) = true)
    (h : wpAny (model prog w) A.in1.in1 (call (.ref f) [.ref x]) (PySem.W.StrBack Q) E s) : wpAny (model prog w) A (call (.type "str") [.ref x]) Q E s := by
  have fin : wpAny (model prog w) A.in1.in1 (PySem.Builtin.Str.strOf (.ref x)) (fun r s1 => ∃ y u, r = .str y u ∧ Q r s1) E s := by
    unfold PySem.Builtin.Str.strOf
    have no : isExactStr (.ref x) = false := rfl
    rw [no]
    refine wpAny_bind (m := cRoomFor _ _) (wpAny_cRoomFor hu ?_)
    have one : wpAny (model prog w) A.in1.in1 (callSpecial? (.ref x) (Str.ofString "__str__") []) (fun r s1 => ∃ y u, r = some (.str y u) ∧ Q (.str y u) s1) E s :=
      PySem.W.special_fn Xk J hs (beq_iff_eq.mp hf) (wpAny_mono h (fun v s1 z => by cases v <;> first | exact z.elim | exact ⟨_, _, rfl, z⟩) fun _ _ z => z)
    refine wpAny_bind (m := callSpecial? (.ref x) (Str.ofString "__str__")) (wpAny_mono one (fun r s1 z => ?_) fun _ _ z => z)
    obtain ⟨y, u, rfl, q⟩ := z
    exact wpAny_pure ⟨_, _, rfl, q⟩
  refine callType_codes (T := "str") (Bi := Builtin.«object.__init__») (Q₁ := fun r s1 => ∃ y u, r = .str y u ∧ Q r s1)
    PySem.F.called_str (PySem.F.typeCall_str_1 _) PySem.F.entry_object_init ?_ (fun obj s1 z => ?_)
  · refine codeAny_of_tree ?_
    show wpAny _ A.in1.in1
      (do checkBuiltinCall "str.__new__" ⟨[.type "str", .ref x], []⟩; again (.builtin "str.__new__" ⟨[.type "str", .ref x], []⟩)) _ _ s
    have pl : plainId "str.__new__" = true := by decide +kernel
    refine wpAny_bind (wpAny_of_eq (PySem.F.newCall_str_1 _)
      (wpAny_pure ⟨plainId_quiet pl _, codeAny_builtin PySem.F.entry_str_new ?_⟩))
    rw [Around.under_plainId pl, str_new_tree]
    refine wpAny_bind (wpAny_pure (wpAny_bind (wpAny_of_eq isSubtype_str_str ?_)))
    exact wpAny_bind (wpAny_mono fin (fun r s1 z => wpAny_pure z) fun _ _ z => z)
  · obtain ⟨y, u, rfl, q⟩ := z
    exact ⟨typeIs_str _ _ _, PySem.F.args_object_init_2 _ _,
      object_init_meets PySem.F.called_str.init.lookup PySem.F.called_str.made (by decide) prog w A.in1 _ s1 ⟨typeIs_str _ _ _, rfl, q⟩⟩
theorem bool_call {Q : Value → Shared → Prop} (Xk : K.In s.heap) (J : PySem.W.InstAt s.heap x ox C od) (hs : PySem.W.findIn K (.ref C) "__bool__" = some (some (.ref f))) (hf : PySem.W.isFn K (.ref f) = true)
    (h : wpAny (model prog w) A.in1.in1 (call (.ref f) [.ref x]) (PySem.W.BoolBack fun b => Q (.bool b)) E s) : wpAny (model prog w) A (call (.type "bool") [.ref x]) Q E s := by
  have fin : wpAny (model prog w) A.in1.in1 (truthy (.ref x)) (fun b s1 => Q (.bool b) s1) E s := by
    unfold truthy
    refine wpAny_bind (m := callSpecial? (.ref x) (Str.ofString "__bool__"))
      (PySem.W.special_fn Xk J hs (beq_iff_eq.mp hf) (wpAny_mono h (fun r s1 z => ?_) fun _ _ y => y))
    cases r <;> first | exact z.elim | exact wpAny_pure z
  refine callType_codes (T := "bool") (Bi := Builtin.«object.__init__») (Q₁ := fun r s1 => ∃ b, r = .bool b ∧ Q r s1)
    PySem.F.called_bool (PySem.F.typeCall_bool_1 _) PySem.F.entry_object_init ?_ (fun obj s1 z => ?_)
  · refine codeAny_of_tree ?_
    show wpAny _ A.in1.in1
      (do checkBuiltinCall "bool.__new__" ⟨[.type "bool", .ref x], []⟩; again (.builtin "bool.__new__" ⟨[.type "bool", .ref x], []⟩)) _ _ s
    have pl : plainId "bool.__new__" = true := by decide +kernel
    refine wpAny_bind (wpAny_of_eq (PySem.F.newCall_bool_1 _)
      (wpAny_pure ⟨plainId_quiet pl _, codeAny_builtin PySem.F.entry_bool_new ?_⟩))
    rw [Around.under_plainId pl]
    unfold Builtin.«bool.__new__»
    have t1 : PySem.W.Looks (model prog w) s.heap (isType (.type "bool")) true := PySem.W.Looks.of_pure rfl
    refine wpAny_bind (t1.here ?_)
    have t2 : PySem.W.Looks (model prog w) s.heap (isSubtype (.type "bool") (.type "bool")) true := PySem.W.Looks.of_pure F.conv_sub_bool
    simp only [Bool.not_true, Bool.false_eq_true, if_false]
    refine wpAny_bind (t2.here ?_)
    simp only [Bool.not_true, Bool.false_eq_true, if_false]
    refine wpAny_bind (wpAny_pure ?_)
    exact wpAny_bind (wpAny_mono fin (fun c s1 z => wpAny_pure ⟨_, rfl, z⟩) fun _ _ z => z)
  · obtain ⟨b, rfl, q⟩ := z
    exact ⟨PySem.typeIs_bool _ _, PySem.F.args_object_init_2 _ _,
      object_init_meets PySem.F.called_bool.init.lookup PySem.F.called_bool.made (by decide) prog w A.in1 _ s1 ⟨PySem.typeIs_bool _ _, rfl, q⟩⟩
end
section
variable {X : Cx} {CX : CXT} {n : Nat} {f C : Addr} {fd : FuncData} {ps : List Str} {sp : Sp} {E : XK}
theorem str_own (F : FnOk X.prog X.w X.K X.mg X.base CX n f fd ps sp) (hr : Room (n + 2) X.A) (M : Meth X.K C "__str__" f) (hb : Binds X.K fd ps []) (hx : Passes CX X E) :
    CallR X (.type "str") (fun xs H Q => ∃ a dx fs, xs = [.ref a] ∧ H a = some (.ins C dx fs) ∧ sp [.ref a] H (fun v H' => (∃ t, v = .str t) ∧ Q v H') E) := by
  intro pins s σ H xs us Q I r hq
  obtain ⟨a, dx, fs, rfl, ha, q⟩ := hq
  obtain ⟨u, rfl, ru⟩ := vals1 r
  cases ru
  obtain ⟨od, J⟩ := inst_at I ha
  refine str_call hr.in1.in1.units0 I.kIn J M.at_ M.fn ?_
  have e0 : Env0 X.prog X.w X.K X.mg X.base X.A.in1.in1 X.stack s H := I.env0.in1.in1
  have hl := F.len _ _ _ _ q
  refine wpAny_call (codeAny_mono (F.run X.A.in1.in1 X.stack s H ⟨[.ref a], []⟩ [.ref a] [.ref a] _ E hr.in1.in1 e0 (by
    have := hb s [.ref a] I.kIn (by simpa using hl)
    simpa using this) (.cons rfl .nil) q) fun r s' hq => ?_)
  cases r with
  | error e => exact hx pins σ H s e s' I hq
  | ok fl =>
    cases fl with
    | ret w =>
      obtain ⟨z, H', I', rz, ⟨t, ez⟩, q'⟩ := I.after hq
      subst ez
      obtain ⟨tk, rfl⟩ := rz
      exact ⟨.str t, H', I', ⟨_, rfl⟩, q'⟩
    | next => exact False.elim hq
    | brk => exact False.elim hq
    | cont => exact False.elim hq
theorem bool_own (F : FnOk X.prog X.w X.K X.mg X.base CX n f fd ps sp) (hr : Room (n + 2) X.A) (M : Meth X.K C "__bool__" f) (hb : Binds X.K fd ps []) (hx : Passes CX X E) :
    CallR X (.type "bool") (fun xs H Q => ∃ a dx fs, xs = [.ref a] ∧ H a = some (.ins C dx fs) ∧ sp [.ref a] H (fun v H' => (∃ t, v = .bl t) ∧ Q v H') E) := by
  intro pins s σ H xs us Q I r hq
  obtain ⟨a, dx, fs, rfl, ha, q⟩ := hq
  obtain ⟨u, rfl, ru⟩ := vals1 r
  cases ru
  obtain ⟨od, J⟩ := inst_at I ha
  refine bool_call I.kIn J M.at_ M.fn ?_
  have e0 : Env0 X.prog X.w X.K X.mg X.base X.A.in1.in1 X.stack s H := I.env0.in1.in1
  have hl := F.len _ _ _ _ q
  refine wpAny_call (codeAny_mono (F.run X.A.in1.in1 X.stack s H ⟨[.ref a], []⟩ [.ref a] [.ref a] _ E hr.in1.in1 e0 (by
    have := hb s [.ref a] I.kIn (by simpa using hl)
    simpa using this) (.cons rfl .nil) q) fun r s' hq => ?_)
  cases r with
  | error e => exact hx pins σ H s e s' I hq
  | ok fl =>
    cases fl with
    | ret w =>
      obtain ⟨z, H', I', rz, ⟨t, ez⟩, q'⟩ := I.after hq
      subst ez
      cases rz
      exact ⟨.bl t, H', I', rfl, q'⟩
    | next => exact False.elim hq
    | brk => exact False.elim hq
    | cont => exact False.elim hq
end
section
variable {X : Cx} {CX : CXT} {k : Nat} {f C g p : Addr} {fd : FuncData} {ps ks : List Str} {sp : Sp} {E : XK} {m : Str} {o : Expr} {mc : Value} {kws : List Keyword} {apos pos : Pos} {ta : TE} {tk : TA} {pl : Sem Bool}
def tSMethK (C : Addr) (sp : Sp) (E : XK) (gV : List V → List V) (ta : TE) (t : TA) : TE := fun σ H Q => ta σ H fun x H1 => x = .ref C ∧ t σ H1 fun zs H2 => sp (gV zs) H2 Q E
/-- C.m(k = e, ..), m a staticmethod, by keywords alone -/
theorem pe_smethK {gs : List Value → List Value → List Value} {gV : List V → List V → List V} (he : PE X o ta) (r : ClX.CRead X.K C mc) (c : SMet X.K C mc m p g) (F : FnOk X.prog X.w X.K X.mg X.base CX k g fd ps sp) (hr : Room k X.A) (hb : KBinds X.K fd ps ks gs gV) (hx : Passes CX X E) (hkw : PK X kws tk)
    (hall : (backToKw pos (keywordEach kws X.env)).all (·.1.isSome) = true := by rfl) (hks : (backToKw pos (keywordEach kws X.env)).filterMap (·.1) = ks := by rfl)
    (hpl : ((backTo pos (starEach [] X.env)).any (·.1) || (backToKw pos (keywordEach kws X.env)).any (·.1.isNone)) = false := by rfl)
    (ht : eval (.Call (.Attribute o m apos) [] kws pos) X.env = (do
      let ov ← eval o X.env
      standAt apos.atName
      let (f, first) ← holding [ov] (getMethod ov m pl)
      callWith pos f first (backTo pos (starEach [] X.env)) (backToKw pos (keywordEach kws X.env))) := by rfl) :
    PE X (.Call (.Attribute o m apos) [] kws pos) (tSMethK C sp E (gV []) ta tk) := by
  refine ⟨fun pins s σ H Q I h => ?_⟩
  refine PySem.W.methodCall_KW (pl := pl) (thn (he.run pins s σ H _ I h) fun u s1 ⟨x, H1, I1, rx, ex, q⟩ => ?_) ht
  subst ex
  obtain rfl : u = Value.ref C := rx
  refine PySem.W.method_cls I1.kIn r.ga (getsmet_ok I1 r c fun s2 I2 => ?_)
  refine PySem.W.callWith_KW0 (first := []) (h₀ := X.base) I.ok.mod.kin c.kp hall (thn (hkw.run pos pins s2 σ H1 _ I2 q) fun ws s3 ⟨zs, H2, I3, rz, q2⟩ => ⟨I3.kIn, ?_⟩) hpl
  rw [hks]
  exact run_fnk (us := []) (vs := []) F hr hb hx I3 .nil rz q2
end
section
variable {X : Cx} {CX : CXT} {k n i : Nat} {f C g p : Addr} {fd : FuncData} {ps ks : List Str} {sp : Sp} {dvs : List V} {ds : List Value} {E : XK} {x m : Str} {o e : Expr} {es : List Expr} {mc : Value} {kws : List Keyword} {np apos pos : Pos} {ta : TE} {t tk : TA} {pl : Sem Bool}
/-- C(k = e, ..), by keywords alone -/
theorem pe_makeK0 {gs : List Value → List Value → List Value} {gV : List V → List V → List V} (M : Mk X.K C f) (F : FnOk X.prog X.w X.K X.mg X.base CX k f fd ps sp) (hr : Room (k + 1) X.A) (hg : Gl X x) (hm : X.mg x = some (.ref C)) (hb : KBn X.K fd ps 1 ks gs gV) (hx : Passes CX X E) (hkw : PK X kws tk)
    (hall : (backToKw pos (keywordEach kws X.env)).all (·.1.isSome) = true := by rfl) (hks : (backToKw pos (keywordEach kws X.env)).filterMap (·.1) = ks := by rfl)
    (hdb : (x == ("__debug__" : Str)) = false := by decide)
    (hpl : ((backTo pos (starEach [] X.env)).any (·.1) || (backToKw pos (keywordEach kws X.env)).any (·.1.isNone)) = false := by rfl) :
    PE X (.Call (.Name x np) [] kws pos) (tMakeN C 0 ks.length sp gV E tNil tk) := by
  refine ⟨fun pins s σ H Q I h => ?_⟩
  refine wpAny_Call_Name_kw (ld_glob I hg hm ?_ hdb)
  refine PySem.W.callWith_KW0 (first := []) (h₀ := X.base) I.ok.mod.kin M.kp hall (thn (hkw.run pos pins s σ H _ I h) fun ws s2 ⟨zs, H2, I2, rz, l1, l2, q2⟩ => ⟨I2.kIn, ?_⟩) hpl
  rw [hks]
  exact run_makeN M F hr hb hx I2 .nil rz l1 l2 q2
/-- cls(e, ..): the slot i holds the class -/
def tMakeL (i : Nat) (C : Addr) (sp : Sp) (dvs : List V) (E : XK) (t : TA) : TE := fun σ H Q => σ[i]? = some (some (.ref C)) ∧ tMake C sp dvs E t σ H Q
theorem pe_makeL (M : Mk X.K C f) (F : FnOk X.prog X.w X.K X.mg X.base CX k f fd ps sp) (hr : Room (k + 1) X.A) (hN : X.N[i]? = some x) (hv : Vis X.env.scope x) (hb : Binds X.K fd ps ds) (hd : Vals dvs ds) (hx : Passes CX X E) (ha : PA X (e :: es) t)
    (hdb : (x == ("__debug__" : Str)) = false := by decide) (hcd : (x == ("__classdict__" : Str)) = false := by decide)
    (he : starEach (e :: es) X.env = (false, eval e X.env) :: starEach es X.env := by rfl) (hpl : (backTo pos (starEach es X.env)).any (·.1) = false := by rfl) : PE X (.Call (.Name x np) (e :: es) [] pos) (tMakeL i C sp dvs E t) := by
  refine ⟨fun pins s σ H Q I h => ?_⟩
  obtain ⟨hs, ht⟩ := h
  refine wpAny_Call_Name_kw (thn ((pe_var (pos := np) hN hv hdb hcd).run pins s σ H (fun v H1 => v = .ref C ∧ H1 = H) I ⟨.ref C, hs, rfl, rfl⟩) fun u s1 ⟨v, H1, I1, r1, q1⟩ => ?_)
  obtain ⟨rfl, rfl⟩ := q1
  cases r1
  refine PySem.W.callWith_K (h₀ := X.base) I.ok.mod.kin M.kp (thn (ha.run pos pins s1 σ _ _ I1 ht) fun us s2 ⟨vs, H2, I2, r, q⟩ => ⟨I2.kIn, ?_⟩) he hpl
  exact run_make M F hr hb hd hx I2 r q
/-- C.m(k = e, ..), m a classmethod, by keywords alone -/
theorem pe_cmethK {gs : List Value → List Value → List Value} {gV : List V → List V → List V} (he : PE X o ta) (r : ClX.CRead X.K C mc) (c : ClX.CMet X.K C mc m p g) (F : FnOk X.prog X.w X.K X.mg X.base CX k g fd ps sp) (hr : Room k X.A) (hb : KBinds X.K fd ps ks gs gV) (hx : Passes CX X E) (hkw : PK X kws tk)
    (hall : (backToKw pos (keywordEach kws X.env)).all (·.1.isSome) = true := by rfl) (hks : (backToKw pos (keywordEach kws X.env)).filterMap (·.1) = ks := by rfl)
    (hpl : ((backTo pos (starEach [] X.env)).any (·.1) || (backToKw pos (keywordEach kws X.env)).any (·.1.isNone)) = false := by rfl)
    (ht : eval (.Call (.Attribute o m apos) [] kws pos) X.env = (do
      let ov ← eval o X.env
      standAt apos.atName
      let (f, first) ← holding [ov] (getMethod ov m pl)
      callWith pos f first (backTo pos (starEach [] X.env)) (backToKw pos (keywordEach kws X.env))) := by rfl) :
    PE X (.Call (.Attribute o m apos) [] kws pos) (tSMethK C sp E (gV [.ref C]) ta tk) := by
  refine ⟨fun pins s σ H Q I h => ?_⟩
  refine PySem.W.methodCall_KW (pl := pl) (thn (he.run pins s σ H _ I h) fun u s1 ⟨x, H1, I1, rx, ex, q⟩ => ?_) ht
  subst ex
  obtain rfl : u = Value.ref C := rx
  refine ClX.getmethcm_ok I1 r c fun s2 I2 => ?_
  refine PySem.W.callWith_of (P := PySem.W.MethP X.K s1.heap.objs.size g (.ref C)) hpl (PySem.W.keeps_M c.fi) (PyProof.Rows.evalArgs_kw2_nil hall (thn (hkw.run pos _ s2 σ H1 _ I2 q) fun ws s3 ⟨zs, H2, I3, rz, q2⟩ => ⟨⟨ClX.pin_at I3, I3.kIn⟩, ?_⟩))
  rw [hks]
  have r2 := hb.rel (vs := [.ref C]) (us := [.ref C]) (.cons rfl .nil) rz
  have hl : (gs [.ref C] ws).length = ps.length := by rw [← r2.length]; exact F.len _ _ _ _ q2
  have z : wpAny (model X.prog X.w) X.A (call (.ref s1.heap.objs.size) [] (ks.zip ws)) (EP X ((s1.heap.objs.size, PySem.W.methodObj (.ref g) (.ref C)) :: pins) σ Q) X.xe s3 := by
    refine wpAny_call (PySem.W.method_call (ClX.pin_at I3) (codeAny_mono (F.run X.A X.stack s3 H2 ⟨[.ref C], ks.zip ws⟩ (gs [.ref C] ws) (gV [.ref C] zs) Q E hr I3.env0 (hb.to s3 [.ref C] ws I3.kIn hl) r2 q2) fun r s' hq => ?_))
    cases r with
    | error e => exact hx _ σ H2 s3 e s' I3 hq
    | ok fl =>
      cases fl with
      | ret u => exact I3.after hq
      | next => exact False.elim hq
      | brk => exact False.elim hq
      | cont => exact False.elim hq
  exact thn z fun _ _ y => ClX.unpinE y
end
end TzOwn
namespace Tz
open PySem PySem.Spec PyProof.Rows L2 TzF TzRepr Mx
theorem vals_app {vs zs : List V} {us ws : List Value} (r : Vals vs us) (z : Vals zs ws) : Vals (vs ++ zs) (us ++ ws) := by
  induction r with
  | nil => exact z
  | cons a _ ih => exact .cons a ih
theorem var_ite {c : Bool} {σ : L2.St} {i j : Nat} {x y : V} {H : Hp} {Q : VK} (hx : σ[i]? = some (some x)) (hy : σ[j]? = some (some y)) (q : Q (if c = true then x else y) H) : if c = true then tVar i σ H Q else tVar j σ H Q := by
  cases c with
  | true => exact ⟨x, hx, q⟩
  | false => exact ⟨y, hy, q⟩
/-! ### the stairs that were made, and other rows -/
section
variable {H : Hp} {C a dx pp : Addr} {h b m : Nat} {g : Nat → Int} {pl pr plb prb pd : Addr} {xl xr xlb xrb : List Addr} {f1 f2 g1 g2 : Fn2}
theorem Md.ddv (M : Md H pp h b m (fun j => .int (g j)) pl pr plb prb pd xl xr xlb xrb f1 f2 g1 g2) (m8 : m ≤ 8) (gb : ∀ j, j < m → 1 ≤ g j) (ch : ∀ j, j + 1 < m → g (j + 1) % g j = 0) : DivV H (.ref pd) true := by
  have D := DivV.tup (f := fun j => .int (g j)) M.d m8 fun j _ => .inl ⟨_, rfl⟩
  have e : (((List.range m).all fun j => ge1 (V.int (g j))) && (List.range (m - 1)).all fun j => decide (iv (V.int (g (j + 1))) % iv (V.int (g j)) = 0)) = true := by
    rw [Bool.and_eq_true]
    refine ⟨List.all_eq_true.mpr fun j hj => ?_, List.all_eq_true.mpr fun j hj => decide_eq_true (ch j (by have := List.mem_range.mp hj; omega))⟩
    show (true && decide (1 ≤ g j)) = true
    rw [Bool.true_and]
    exact decide_eq_true (gb j (List.mem_range.mp hj))
  rw [e] at D
  exact D
theorem Md.yes (M : Md H pp h b m (fun j => .int (g j)) pl pr plb prb pd xl xr xlb xrb f1 f2 g1 g2) (m8 : m ≤ 8) (mh : m ≤ h) (mb : m ≤ b) (gb : ∀ j, j < m → 1 ≤ g j) (ch : ∀ j, j + 1 < m → g (j + 1) % g j = 0) (o : H a = some (.ins C dx (stf (.ref pl) (.ref pr) (.ref plb) (.ref prb) (.ref pd)))) :
    StV C H h b (ml b (ml h g1 (diag m g)) g2) (.ref a) true :=
  .full o M.d (M.ddv m8 gb ch) M.L M.R M.LB M.RB M.b1.sm M.b2.sm M.b3.sm M.b4.sm m8 ⟨fun _ => ⟨fun i j hi hj => M.p1.l i j hi hj, fun i j hi hj => M.p2.l i j hi hj, ⟨mh, mb⟩, fun i j hi hj => there_back M.p1 M.p2 hi hj⟩, fun _ => rfl⟩
theorem Md.nay (M : Md H pp h b m (fun j => .int (g j)) pl pr plb prb pd xl xr xlb xrb f1 f2 g1 g2) (m8 : m ≤ 8) (gb : ∀ j, j < m → 1 ≤ g j) (ch : ∀ j, j + 1 < m → g (j + 1) % g j = 0) {x c : Nat} {d : Int} (hx : x < h) (hc : c < b) (d0 : d ≠ 0) (o : H a = some (.ins C dx (stf (.ref pl) (.ref pr) (.ref plb) (.ref prb) (.ref pd)))) :
    StV C H h b (put (ml b (ml h g1 (diag m g)) g2) x c d) (.ref a) false :=
  .full o M.d (M.ddv m8 gb ch) M.L M.R M.LB M.RB M.b1.sm M.b2.sm M.b3.sm M.b4.sm m8 ⟨fun z => absurd z Bool.false_ne_true, fun z => by
    obtain ⟨i, j, hi, hj, ne⟩ := rows_put (A := ml b (ml h g1 (diag m g)) g2) M.p1 M.p2 hx hc d0
    exact absurd ((z.2.2.2 i j hi hj).trans (there_back M.p1 M.p2 hi hj).symm) ne⟩
theorem Md.rbd {f : Nat → V} (M : Md H pp h b m f pl pr plb prb pd xl xr xlb xrb f1 f2 g1 g2) (h4 : h ≤ 4) (b4 : b ≤ 4) (bd : ∀ j, j < m → -256 ≤ iv (f j) ∧ iv (f j) ≤ 256) : Bd 746496 h b (ml b (ml h g1 (dgv m f)) g2) := rows_bd h4 b4 M.b3 M.b4 bd
end
theorem Bd.wide {h b : Nat} {A : Fn2} (B : Bd 746496 h b A) : Bd 1000000 h b A := fun i j hi hj => by
  have := B i j hi hj
  omega
theorem Bd.put3 {h b x c : Nat} {A : Fn2} {d : Int} (B : Bd 746496 h b A) (d1 : -3 ≤ d) (d3 : d ≤ 3) : Bd 1000000 h b (put A x c d) := fun i j hi hj => by
  have := B i j hi hj
  show -1000000 ≤ (if i = x ∧ j = c then A i j + d else A i j) ∧ (if i = x ∧ j = c then A i j + d else A i j) ≤ 1000000
  split <;> omega
theorem MatX.put {H : Hp} {p x : Addr} {xs : List Addr} {n m i c : Nat} {f : Fn2} {d : Int} (M : MatX false false H p xs n m f) (nd : xs.Nodup) (np : x ≠ p) (hx : xs[i]? = some x) :
    MatX false false (upd H x (.lst (rint m fun j => if j = c then f i c + d else f i j))) p xs n m (put f i c d) :=
  (M.setRow (r := fun j => if j = c then f i c + d else f i j) nd np hx).congr fun i' j _ _ => by
    show (if i' = i then (if j = c then f i c + d else f i j) else f i' j) = if i' = i ∧ j = c then f i' j + d else f i' j
    by_cases e : i' = i
    · subst e
      by_cases q : j = c
      · subst q
        rw [if_pos rfl, if_pos rfl, if_pos ⟨rfl, rfl⟩]
      · rw [if_pos rfl, if_neg q, if_neg fun z => q z.2]
    · rw [if_neg e, if_neg fun z => e z.1]
/-! ### what repr tells of the rows and the parts -/
def dall (h b m : Nat) (A f1 f2 g1 g2 : Fn2) (g : Nat → Int) : PyData :=
  .tuple [dmat h b A, .list [dtup h h fun i j => .int (f1 i j), dtup b b fun i j => .int (f2 i j), dtup h h fun i j => .int (g1 i j), dtup b b fun i j => .int (g2 i j), .tuple (drow m g)]]
theorem dp_all {K : PySem.W.Frag} {H : Hp} {pp rp q : Addr} {h b m : Nat} {g : Nat → Int} {pl pr plb prb pd : Addr} {xs xl xr xlb xrb : List Addr} {A f1 f2 g1 g2 : Fn2} (M : Md H pp h b m (fun j => .int (g j)) pl pr plb prb pd xl xr xlb xrb f1 f2 g1 g2) (R : MatX false false H rp xs h b A) (hq : H q = some (.tup [.ref rp, .ref pp])) :
    Dp K H (.ref q) (dall h b m A f1 f2 g1 g2 g) :=
  .tup (sqT hq) (.cons (dp_mat R) (.cons (.lst (sq M.at_) (.cons (dp_tup M.L.cell fun _ _ _ _ => .inl ⟨_, rfl⟩) (.cons (dp_tup M.R.cell fun _ _ _ _ => .inl ⟨_, rfl⟩) (.cons (dp_tup M.LB.cell fun _ _ _ _ => .inl ⟨_, rfl⟩) (.cons (dp_tup M.RB.cell fun _ _ _ _ => .inl ⟨_, rfl⟩) (.cons (.tup (sqT M.d) dp_row) .nil)))))) .nil))
theorem tm_row {m : Nat} {f : Nat → Int} (bd : ∀ j, j < m → -999999999999 ≤ f j ∧ f j ≤ 999999999999) : TmA (drow m f) 0 (m * 1) := by
  have := tm_map (F := fun j => PyData.int (f j)) (k := 0) (c := 0) (List.range m) fun j hj => tm_int (bd j (List.mem_range.mp hj))
  rw [List.length_range] at this
  exact this
theorem tm_mat {n m : Nat} {f : Fn2} (bd : ∀ i j, i < n → j < m → -999999999999 ≤ f i j ∧ f i j ≤ 999999999999) : Tm (dmat n m f) 2 (n * (m * 1 + 1)) := by
  have := tm_map (F := fun i => PyData.list (drow m (f i))) (k := 1) (c := m * 1) (List.range n) fun i hi => (tm_row (bd i · (List.mem_range.mp hi))).list
  rw [List.length_range] at this
  exact this.list
theorem tm_ints {n : Nat} {f : Fn2} (n4 : n ≤ 4) (B : Bd 27 n n f) : Tm (dtup n n fun i j => .int (f i j)) 2 20 :=
  (tm_tup (fun _ _ _ _ => .inl ⟨_, rfl⟩) fun i j hi hj => by
    have := B i j hi hj
    show -999999999999 ≤ f i j ∧ f i j ≤ 999999999999
    omega).mono (Nat.le_refl _) (Nat.le_trans (Nat.mul_le_mul n4 (Nat.add_le_add_right (Nat.mul_le_mul_right 1 n4) 1)) (by decide))
theorem shown_all {h b m : Nat} {A f1 f2 g1 g2 : Fn2} {g : Nat → Int} (h4 : h ≤ 4) (b4 : b ≤ 4) (m8 : m ≤ 8) (BA : Bd 746496 h b A) (B1 : Bd 27 h h f1) (B2 : Bd 27 b b f2) (B3 : Bd 27 h h g1) (B4 : Bd 27 b b g2) (gb : ∀ j, j < m → -256 ≤ g j ∧ g j ≤ 256) :
    (dall h b m A f1 f2 g1 g2 g).showable = true ∧ (dall h b m A f1 f2 g1 g2 g).hasDict = false ∧ (dall h b m A f1 f2 g1 g2 g).depth ≤ 60 ∧ (dall h b m A f1 f2 g1 g2 g).shown.length ≤ sizeLine := by
  have tA : Tm (dmat h b A) 3 20 := (tm_mat fun i j hi hj => by have := BA i j hi hj; omega).mono (by decide) (Nat.le_trans (Nat.mul_le_mul h4 (Nat.add_le_add_right (Nat.mul_le_mul_right 1 b4) 1)) (by decide))
  have tg : Tm (.tuple (drow m g)) 2 20 := (tm_row fun j hj => by have := gb j hj; omega).tuple.mono (by decide) (by omega)
  have tp := (TmA.cons (tm_ints h4 B1) (.cons (tm_ints b4 B2) (.cons (tm_ints h4 B3) (.cons (tm_ints b4 B4) (.cons tg .nil))))).list
  exact (TmA.cons tA (.cons tp .nil)).tuple.shown (by decide) (by decide)
/-! ### the odd divisors -/
def ibB : V → Bool
  | .int n => decide (-256 ≤ n) && decide (n ≤ 256)
  | .bl _ => true
  | _ => false
theorem ibB_of {v : V} (h : ibB v = true) : IB v ∧ -256 ≤ iv v ∧ iv v ≤ 256 := by
  cases v with
  | int n =>
    have := (Bool.and_eq_true _ _ ▸ h : decide (-256 ≤ n) = true ∧ decide (n ≤ 256) = true)
    exact ⟨.inl ⟨_, rfl⟩, of_decide_eq_true this.1, of_decide_eq_true this.2⟩
  | bl c =>
    refine ⟨.inr ⟨_, rfl⟩, ?_⟩
    cases c <;> exact ⟨by decide, by decide⟩
  | _ => cases h
theorem cells_self {xs : List V} : xs = cells xs.length fun j => xs.getD j .non := by
  refine List.ext_getElem? fun i => ?_
  by_cases h : i < xs.length
  · rw [cells_get h, List.getElem?_eq_getElem h, List.getD_eq_getElem?_getD, List.getElem?_eq_getElem h]
    rfl
  · rw [List.getElem?_eq_none (by omega), List.getElem?_eq_none (by rw [cells_len]; omega)]
def dvB (m : Nat) (f : Nat → V) : Bool := ((List.range m).all fun j => ge1 (f j)) && (List.range (m - 1)).all fun j => decide (iv (f (j + 1)) % iv (f j) = 0)
theorem oddL {xs : List V} (h : xs.all ibB = true) (n1 : 1 ≤ xs.length) (n3 : xs.length ≤ 3) (d : dvB xs.length (fun j => xs.getD j .non) = false) :
    ∃ m f, xs = cells m f ∧ 1 ≤ m ∧ m ≤ 3 ∧ (∀ j, j < m → IB (f j)) ∧ (∀ j, j < m → -256 ≤ iv (f j) ∧ iv (f j) ≤ 256) ∧ dvB m f = false := by
  have key : ∀ j, j < xs.length → ibB (xs.getD j .non) = true := fun j hj => by
    rw [List.getD_eq_getElem?_getD, List.getElem?_eq_getElem hj]
    exact List.all_eq_true.mp h _ (List.getElem_mem hj)
  exact ⟨xs.length, _, cells_self, n1, n3, fun j hj => (ibB_of (key j hj)).1, fun j hj => (ibB_of (key j hj)).2, d⟩
end Tz
/-! sorted(xs, key=int) of a list of fewer than 64 integers -/
namespace TzSort
open PySem PySem.Spec PyProof.Rows L2

section
variable {prog : Program} {w : World} {A : Around} {E : Value → Shared → Prop} {s : Shared} {a kS : Addr} {vs : List Value} {kz : List Int} {keys : Array Value} {e e1 : Nat} {P : PySem.Fin → Shared → Prop}

/-- all places but two stay -/
def But2 (a b : Addr) (h h' : Heap) : Prop := ∀ c, c ≠ a → c ≠ b → h'.get? c = h.get? c

theorem tail_ {st : SortSt} (nk : s.heap.get? kS = some (seqObj "list" keys e)) (na : s.heap.get? a = some (seqObj "list" #[] e1)) (hka : kS ≠ a)
    (hk : IntsAre keys.toList kz) (hlen : kz.length = vs.length) (h64 : vs.length < 64) (hp : (arrOf st).Perm (keys.zip vs.toArray)) (hs : SortedTo (arrOf st) (arrOf st).size) (hfl : failedOf st = none)
    (h : ∀ h' out c, But2 a kS s.heap h' → h'.get? a = some (seqObj "list" out c) → KskOut false kz vs out.toList → P (.done (.ret .none)) { s with heap := h' }) :
    wpAny (model prog w) A (ksk_tail a false e1 (.ref kS) st) P E s := by
  have hsz : keys.size = vs.length := by
    have h1 := hk.length
    rw [Array.length_toList] at h1
    omega
  have hsz2 : (arrOf st).size = vs.length := by rw [hp.size_eq, Array.size_zip, hsz, List.size_toArray, Nat.min_self]
  have hout : ((arrOf st).map (·.2)).size = vs.length := by
    rw [Array.size_map]
    exact hsz2
  have s1 := Heap.SameBut.update s.heap kS (Obj.mapSeq fun _ => (#[] : Array Value))
  have na1 : (s.heap.update kS (Obj.mapSeq fun _ => (#[] : Array Value))).get? a = some (seqObj "list" #[] e1) := (s1.2 a hka.symm).trans na
  have s2 := Heap.SameBut.update (s.heap.update kS (Obj.mapSeq fun _ => (#[] : Array Value))) a (Obj.mapSeq fun _ => (arrOf st).map (·.2))
  obtain ⟨c2, hc2⟩ : ∃ c2, ((s.heap.update kS (Obj.mapSeq fun _ => (#[] : Array Value))).update a (Obj.mapSeq fun _ => (arrOf st).map (·.2))).get? a = some (seqObj "list" ((arrOf st).map (·.2)) c2) :=
    ⟨_, get?_update_seq na1 fun _ => (arrOf st).map (·.2)⟩
  unfold ksk_tail
  try dsimp only
  refine wpAny_bind (listUpdate_at nk rfl ?_ (by rw [hsz, sizeLine_eq]; omega) (Nat.zero_le _))
  refine wpAny_bind (wpAny_letGo ?_)
  refine wpAny_bind (seqEpoch_at na1 rfl ?_)
  refine wpAny_bind (listUpdate_at na1 rfl ?_ (Nat.zero_le _) (Nat.le_trans (Nat.le_of_eq hout) (by rw [sizeLine_eq]; omega)))
  rw [hfl]
  simp only [bne_self_eq_false, Bool.false_eq_true, if_false]
  refine wpAny_pure (h _ _ c2 (fun c ca ck => ?_) hc2 (ksk_out (b := false) hk hp hs))
  rw [s2.2 c ca]
  exact s1.2 c ck

theorem end_ (nk : s.heap.get? kS = some (seqObj "list" keys e)) (na : s.heap.get? a = some (seqObj "list" #[] e1)) (hka : kS ≠ a)
    (hk : IntsAre keys.toList kz) (hlen : kz.length = vs.length) (h64 : vs.length < 64)
    (h : ∀ h' out c, But2 a kS s.heap h' → h'.get? a = some (seqObj "list" out c) → KskOut false kz vs out.toList → P (.done (.ret .none)) { s with heap := h' }) :
    wpAny (model prog w) A (ksk_end a false vs.toArray e1 (.ref kS) keys) P E s := by
  have hsz : keys.size = vs.length := by
    have h1 := hk.length
    rw [Array.length_toList] at h1
    omega
  have hzs : (keys.zip vs.toArray).size = vs.length := by rw [Array.size_zip, hsz, List.size_toArray, Nat.min_self]
  unfold ksk_end
  simp only [Bool.false_eq_true, if_false]
  by_cases h2 : vs.toArray.size < 2
  · rw [if_pos h2, if_pos h2]
    refine wpAny_bind (wpAny_pure ?_)
    rw [StateT.run_pure]
    refine wpAny_bind (wpAny_pure ?_)
    try dsimp only
    refine tail_ (st := SortSt.mk' general' (keys.zip vs.toArray) #[] 7 none) nk na hka hk hlen h64 (Array.Perm.refl _) ?_ rfl h
    intro i j hij hj
    have hj2 : j < (keys.zip vs.toArray).size := hj
    rw [hzs] at hj2
    rw [List.size_toArray] at h2
    have : i = j := by omega
    subst this
    exact Int.le_refl _
  · rw [if_neg h2, if_neg h2]
    rw [List.size_toArray] at h2
    rw [ksk_kind hk (by rw [hsz]; omega)]
    refine wpAny_bind (wpAny_pure ?_)
    refine wpAny_bind (wpAny_mono (wpS_sortRuns (a₀ := keys.zip vs.toArray) (st := SortSt.mk' oneType' (keys.zip vs.toArray) #[] 7 none)
      (Q := fun _ st' => (arrOf st').Perm (keys.zip vs.toArray) ∧ failedOf st' = none ∧ SortedTo (arrOf st') (keys.zip vs.toArray).size)
      (ksk_intKeys hk) ⟨Array.Perm.refl _, rfl, rfl, rfl⟩ (by rw [hzs]; omega) (by rw [hzs]; exact h64) fun st' a1 a2 a3 => ⟨a1, a2, a3⟩) ?_ fun _ _ e => e)
    rintro ⟨⟨⟩, st'⟩ s' ⟨rfl, hp, hf, hs⟩
    try dsimp only
    exact tail_ nk na hka hk hlen h64 hp (by rw [hp.size_eq]; exact hs) hf h

theorem rest_ (hi : IntsAre vs kz) (nk : s.heap.get? kS = some (seqObj "list" #[] e)) (na : s.heap.get? a = some (seqObj "list" #[] e1)) (hka : kS ≠ a) (h64 : vs.length < 64)
    (h : ∀ h' out c, But2 a kS s.heap h' → h'.get? a = some (seqObj "list" out c) → KskOut false kz vs out.toList → P (.done (.ret .none)) { s with heap := h' }) :
    wpAny (model prog w) A (ksk_rest a (.type "int") false vs.toArray e1 (.ref kS)) P E s := by
  have hlen := hi.length
  unfold ksk_rest
  refine wpAny_bind (wpAny_rule ?_)
  first
    | rw [List.forIn_toArray]
    | (rw [← Array.forIn_toList]; simp only [List.toList_toArray])
    | rw [← Array.forIn_toList]
  refine wpAny_bind (ksk_fold (fun i s' => ∃ h' kA c, s' = { s with heap := h' } ∧ But2 a kS s.heap h' ∧ h'.get? kS = some (seqObj "list" kA c) ∧ h'.get? a = some (seqObj "list" #[] e1) ∧ IntsAre kA.toList (kz.take i)) vs 0 s
    ⟨s.heap, #[], e, rfl, fun _ _ _ => rfl, nk, na, by simpa using IntsAre.nil⟩ ?step ?done)
  case step =>
    rintro j x s' hx ⟨h', kA, c, rfl, F', nk', na', hk⟩
    simp only [Nat.zero_add] at hk ⊢
    have hj : j < vs.length := (List.getElem?_eq_some_iff.mp hx).1
    obtain ⟨k, hkj⟩ : ∃ k, kz[j]? = some k := ⟨_, List.getElem?_eq_getElem (by omega)⟩
    obtain ⟨t2, ht⟩ := hi.get j k hkj
    rw [ht] at hx
    cases hx
    have hz : kA.size ≤ vs.length := by
      have h1 := hk.length
      rw [Array.length_toList, List.length_take] at h1
      omega
    refine wpAny_bind (wpAny_attempt (PySem.call_int_int ?_))
    try dsimp only
    have s1 := Heap.SameBut.update h' kS (Obj.mapSeq (·.push (.int k t2)))
    obtain ⟨c2, hc2⟩ : ∃ c2, (h'.update kS (Obj.mapSeq (·.push (.int k t2)))).get? kS = some (seqObj "list" (kA.push (.int k t2)) c2) := ⟨_, get?_update_seq nk' (·.push (.int k t2))⟩
    have ek : kz.take (j + 1) = kz.take j ++ [k] := by rw [List.take_add_one, hkj]; simp
    have ea : (kA.push (Value.int k t2)).toList = kA.toList ++ [Value.int k t2] := by simp
    refine wpAny_bind (listUpdate_at nk' rfl ?_ (by rw [sizeLine_eq]; omega) (Nat.le_trans (Nat.le_of_eq (Array.size_push ..)) (by rw [sizeLine_eq]; omega)))
    refine wpAny_pure ⟨rfl, _, kA.push (.int k t2), c2, rfl, fun b b1 b2 => (s1.2 b b2).trans (F' b b1 b2), hc2, (s1.2 a hka.symm).trans na', by rw [ea, ek]; exact ksk_snoc hk⟩
  case done =>
    rintro s' ⟨h', kA, c, rfl, F', nk', na', hk⟩
    have hk' : IntsAre kA.toList kz := by
      have e3 : kz.take (0 + vs.length) = kz := List.take_of_length_le (by omega)
      rw [e3] at hk
      exact hk
    try dsimp only
    refine wpAny_bind (listItems_at nk' rfl ?_)
    exact end_ (s := { s with heap := h' }) nk' na' hka hk' (by omega) h64 fun h3 out c3 F3 n3 k3 => h h3 out c3 (fun b b1 b2 => (F3 b b1 b2).trans (F' b b1 b2)) n3 k3

theorem sort_ {n : Nat} (hi : IntsAre vs kz) (ho : s.heap.get? a = some (seqObj "list" vs.toArray n)) (h64 : vs.length < 64)
    (h : ∀ h' out c, (∀ b u, b ≠ a → s.heap.get? b = some u → h'.get? b = some u) → h'.get? a = some (seqObj "list" out c) → KskOut false kz vs out.toList → P (.done (.ret .none)) { s with heap := h' }) :
    wpAny (model prog w) A (ksk_tree a (.type "int") false) P E s := by
  have ha : a < s.heap.objs.size := Heap.lt_size ho
  have s1 := Heap.SameBut.update s.heap a (Obj.mapSeq fun _ => (#[] : Array Value))
  obtain ⟨e1, ho1⟩ : ∃ e1, (s.heap.update a (Obj.mapSeq fun _ => (#[] : Array Value))).get? a = some (seqObj "list" #[] e1) := ⟨_, get?_update_seq ho fun _ => #[]⟩
  have hkS : ((s.heap.update a (Obj.mapSeq fun _ => (#[] : Array Value))).push (seqObj "tuple" vs.toArray 0)).objs.size = s.heap.objs.size + 1 := by rw [size_push', Heap.size_update]
  unfold ksk_tree
  refine wpAny_bind (listItems_at ho rfl ?_)
  refine wpAny_bind (listUpdate_at ho rfl ?_ (by rw [List.size_toArray, sizeLine_eq]; omega) (Nat.zero_le _))
  refine wpAny_bind (seqEpoch_at ho1 rfl ?_)
  refine wpAny_bind (wpAny_newTuple ?_ (by show vs.length ≤ _; rw [sizeLine_eq]; omega))
  refine wpAny_bind (wpAny_newList ?_ (Nat.zero_le _))
  refine wpAny_holding ?_
  refine rest_ (s := { s with heap := ((s.heap.update a (Obj.mapSeq fun _ => (#[] : Array Value))).push (seqObj "tuple" vs.toArray 0)).push (seqObj "list" #[] 0) }) (kS := ((s.heap.update a (Obj.mapSeq fun _ => (#[] : Array Value))).push (seqObj "tuple" vs.toArray 0)).objs.size)
    hi (Heap.get?_push_size _ rfl) (Heap.get?_push_of_some _ (Heap.get?_push_of_some _ ho1)) (by rw [hkS]; exact Nat.ne_of_gt (Nat.lt_succ_of_lt ha)) h64 fun h' out c F n k => h h' out c (fun b u b1 hu => ?_) n k
  have hb : b < s.heap.objs.size := Heap.lt_size hu
  rw [F b b1 (by rw [hkS]; exact Nat.ne_of_lt (Nat.lt_succ_of_lt hb))]
  exact Heap.get?_push_of_some _ (Heap.get?_push_of_some _ ((s1.2 b b1).trans hu))
end

/-- sorted(xs, key=int) of integers -/
def rSortedInt (K : PySem.W.Frag) : List V → List V → Hp → VK → Prop := fun vs zs H Q => ∃ (a : Addr) (ns : List Int), vs = [V.ref a] ∧ zs = [V.ty "int"] ∧ SqL K H a (ns.map V.int) ∧ ns.length < 64 ∧
  ∀ (ns' : List Int) (p : Addr), ns'.Perm ns → ns'.Pairwise (· ≤ ·) → H p = none → Q (.ref p) (upd H p (.lst (ns'.map V.int)))

theorem key_int (x : Addr) : Builtin.«list.sort» ⟨[.ref x], [(Str.ofString "key", .type "int")]⟩ = ksk_tree x (.type "int") false := rfl

theorem cr_sortedInt {X : Cx} : CallRK X (.builtin "sorted") [Str.ofString "key"] (rSortedInt X.K) := by
  intro pins s σ H xs zs us ws Q I r rz h
  obtain ⟨l, ns, rfl, rfl, hs, h64, q⟩ := h
  obtain rfl := Vals.ref1 r
  obtain ⟨w1, rfl, ew⟩ := vals1 rz
  obtain rfl : w1 = Value.type "int" := ew
  obtain ⟨vs, rv, hl, hz⟩ := I.list hs
  have hi := rv.ints
  have hlen := hi.length
  have hv64 : vs.length < 64 := by omega
  refine call_function_entry_kw kind_sorted plain_sorted entry_sorted (ksk_s1 _ _) ?_
  unfold Builtin.«sorted»
  refine wpAny_bind (m := checkCount "sorted" 1 1 _) (wpAny_pure ?_)
  refine wpAny_bind (collect_list hl.isList ?_ (by rw [sizeLine_eq]; omega))
  refine wpAny_bind (wpAny_newList ?_ (by rw [sizeLine_eq]; omega))
  have hsz : ((s.heap.push (seqObj "list" #[] 0)).update s.heap.objs.size (Obj.mapSeq (· ++ vs.toArray))).objs.size = s.heap.objs.size + 1 := by
    rw [Heap.size_update, size_push']
  have hoL : (((s.heap.push (seqObj "list" #[] 0)).update s.heap.objs.size (Obj.mapSeq (· ++ vs.toArray))).push (seqObj "list" vs.toArray 0)).get? (s.heap.objs.size + 1) = some (seqObj "list" vs.toArray 0) := by
    rw [← hsz]; exact Heap.get?_push_size _ rfl
  have keep : ∀ b o, s.heap.get? b = some o → (((s.heap.push (seqObj "list" #[] 0)).update s.heap.objs.size (Obj.mapSeq (· ++ vs.toArray))).push (seqObj "list" vs.toArray 0)).get? b = some o := fun b o q => by
    have hlt : b < s.heap.objs.size := Heap.lt_size q
    rw [Heap.get?_push_ne _ _ _ (by rw [hsz]; exact Nat.ne_of_lt (Nat.lt_succ_of_lt hlt)), Heap.get?_update_ne _ _ _ _ (Nat.ne_of_lt hlt), Heap.get?_push_ne _ _ _ (Nat.ne_of_lt hlt)]
    exact q
  show wpAny _ _ _ _ _ { s with heap := ((s.heap.push (seqObj "list" #[] 0)).update s.heap.objs.size (Obj.mapSeq (· ++ vs.toArray))).push (seqObj "list" vs.toArray 0) }
  rw [hsz]
  refine wpAny_bind (wpAny_holding (wpAny_call_entry_kw slot_list_sort ⟨_, hoL, rfl⟩ entry_list_sort ?body (ksk_l1 _ _)))
  case body =>
    show wpAny _ _ (Builtin.«list.sort» ⟨[.ref (s.heap.objs.size + 1)], [(Str.ofString "key", .type "int")]⟩) _ _ _
    rw [key_int]
    refine sort_ (s := { s with heap := ((s.heap.push (seqObj "list" #[] 0)).update s.heap.objs.size (Obj.mapSeq (· ++ vs.toArray))).push (seqObj "list" vs.toArray 0) }) hi hoL hv64 fun h' out c k n ko => ⟨_, rfl, ?_⟩
    refine wpAny_pure ?_
    obtain ⟨ps, hp, ho, hsd⟩ := ko
    have hrel : ∀ p, p ∈ ns.zip vs → p.1 = numOf p.2 ∧ p.2 ∈ vs := by
      rw [← hi.nums, List.zip_map_left]
      intro p hp
      obtain ⟨⟨u, v⟩, hq, rfl⟩ := List.mem_map.mp hp
      have h1 : u = v ∧ u ∈ vs := mem_zip_self hq
      refine ⟨?_, ?_⟩
      · show numOf u = numOf v
        rw [h1.1]
      · show v ∈ vs
        rw [← h1.1]
        exact h1.2
    have hI : IntsAre (ps.map Prod.snd) ((ps.map Prod.snd).map numOf) := intsAre_map _ fun v hv => by
      obtain ⟨p, hp', rfl⟩ := List.mem_map.mp hv
      exact hi.all _ (hrel p (hp.mem_iff.mp hp')).2
    have hP : ((ps.map Prod.snd).map numOf).Perm ns := by
      have h1 := (hp.map Prod.snd).map numOf
      rw [List.map_snd_zip (by omega), hi.nums] at h1
      exact h1
    have hO : ((ps.map Prod.snd).map numOf).Pairwise (fun x y => x ≤ y) := by
      rw [List.pairwise_map, List.pairwise_map]
      refine hsd.imp_of_mem fun {p q} hp' hq' hr => ?_
      have hr' : p.1 ≤ q.1 := hr
      rw [(hrel p (hp.mem_iff.mp hp')).1, (hrel q (hp.mem_iff.mp hq')).1] at hr'
      exact hr'
    rw [← ho] at hI hP hO
    have hol : (out.toList.map numOf).length = ns.length := hP.length_eq
    have e0 : out.toList.toArray = out := by rw [Array.toArray_toList]
    refine ⟨_, rfl, ?_⟩
    exact ⟨.ref _, upd H (s.heap.objs.size + 1) (.lst ((out.toList.map numOf).map V.int)), I.laid (t' := s.toks) (fun b u hb => k b u (Nat.ne_of_lt (Nat.lt_succ_of_lt (Heap.lt_size hb))) (keep b u hb)) (Nat.le_succ _) ⟨by rw [List.length_map, hol, sizeLine_eq]; omega, _, c, vals_of_ints hI, by rw [e0]; exact n⟩, rfl,
      q _ _ hP hO (I.hok.fresh (Nat.le_succ _))⟩
end TzSort
/-! sorted(d, key=str) of a dict of fewer than 64 texts -/
namespace TzSort
open PySem PySem.Spec PyProof.Rows L2

section
variable {prog : Program} {w : World} {A : Around} {E : Value → Shared → Prop} {s : Shared} {a kS : Addr} {vs : List Value} {ks : List Str} {e e1 : Nat} {P : PySem.Fin → Shared → Prop}

theorem tailS {st : SortSt} (nk : s.heap.get? kS = some (seqObj "list" vs.toArray e)) (na : s.heap.get? a = some (seqObj "list" #[] e1)) (hka : kS ≠ a)
    (h64 : vs.length < 64) (hsz2 : (arrOf st).size = vs.length) (hfl : failedOf st = none)
    (h : ∀ h' c, But2 a kS s.heap h' → h'.get? a = some (seqObj "list" ((arrOf st).map (·.2)) c) → P (.done (.ret .none)) { s with heap := h' }) :
    wpAny (model prog w) A (ksk_tail a false e1 (.ref kS) st) P E s := by
  have hout : ((arrOf st).map (·.2)).size = vs.length := by
    rw [Array.size_map]
    exact hsz2
  have s1 := Heap.SameBut.update s.heap kS (Obj.mapSeq fun _ => (#[] : Array Value))
  have na1 : (s.heap.update kS (Obj.mapSeq fun _ => (#[] : Array Value))).get? a = some (seqObj "list" #[] e1) := (s1.2 a hka.symm).trans na
  have s2 := Heap.SameBut.update (s.heap.update kS (Obj.mapSeq fun _ => (#[] : Array Value))) a (Obj.mapSeq fun _ => (arrOf st).map (·.2))
  obtain ⟨c2, hc2⟩ : ∃ c2, ((s.heap.update kS (Obj.mapSeq fun _ => (#[] : Array Value))).update a (Obj.mapSeq fun _ => (arrOf st).map (·.2))).get? a = some (seqObj "list" ((arrOf st).map (·.2)) c2) :=
    ⟨_, get?_update_seq na1 fun _ => (arrOf st).map (·.2)⟩
  unfold ksk_tail
  try dsimp only
  refine wpAny_bind (listUpdate_at nk rfl ?_ (by rw [List.size_toArray, sizeLine_eq]; omega) (Nat.zero_le _))
  refine wpAny_bind (wpAny_letGo ?_)
  refine wpAny_bind (seqEpoch_at na1 rfl ?_)
  refine wpAny_bind (listUpdate_at na1 rfl ?_ (Nat.zero_le _) (Nat.le_trans (Nat.le_of_eq hout) (by rw [sizeLine_eq]; omega)))
  rw [hfl]
  simp only [bne_self_eq_false, Bool.false_eq_true, if_false]
  refine wpAny_pure (h _ c2 (fun c ca ck => ?_) hc2)
  rw [s2.2 c ca]
  exact s1.2 c ck

theorem zip_self : vs.toArray.zip vs.toArray = pairsOf vs := by
  unfold pairsOf
  refine Array.ext (by simp) fun i h1 h2 => by simp

theorem endS (hi : StrsAre vs ks) (nk : s.heap.get? kS = some (seqObj "list" vs.toArray e)) (na : s.heap.get? a = some (seqObj "list" #[] e1)) (hka : kS ≠ a) (h64 : vs.length < 64)
    (h : ∀ h' out c ys, But2 a kS s.heap h' → h'.get? a = some (seqObj "list" out c) → StrsAre out.toList ys → ys.Perm ks → sortedS ys = true → P (.done (.ret .none)) { s with heap := h' }) :
    wpAny (model prog w) A (ksk_end a false vs.toArray e1 (.ref kS) vs.toArray) P E s := by
  have hsz : (pairsOf vs).size = vs.length := by rw [← zip_self, Array.size_zip, List.size_toArray, Nat.min_self]
  unfold ksk_end
  simp only [Bool.false_eq_true, if_false]
  by_cases h2 : vs.toArray.size < 2
  · rw [if_pos h2, if_pos h2]
    refine wpAny_bind (wpAny_pure ?_)
    refine tailS (st := SortSt.mk' general' (vs.toArray.zip vs.toArray) #[] 7 none) nk na hka h64 (by show (vs.toArray.zip vs.toArray).size = _; rw [zip_self, hsz]) rfl fun h' c F n => ?_
    obtain ⟨ys, h1, h2', h3⟩ := sorted_out_str hi (xs := vs.toArray.zip vs.toArray) (by rw [zip_self]) fun i j hij hj => by
      rw [hsz] at hj
      rw [List.size_toArray] at h2
      have : i = j := by omega
      subst this
      exact KeyOrd.kle_refl _
    exact h h' _ c ys F n h1 h2' h3
  · rw [if_neg h2, if_neg h2]
    rw [List.size_toArray] at h2
    have kk : keyKind' vs.toArray = pure oneType' := by
      match vs, h2, hi with
      | [], h2, _ => exact absurd (show 0 < 2 by decide) h2
      | [_], h2, _ => exact absurd (show 1 < 2 by decide) h2
      | v1 :: v2 :: r, _, hi => exact keyKind_strs hi
    rw [kk]
    refine wpAny_bind (wpAny_pure ?_)
    refine wpAny_bind (wpAny_mono (wpS_sortRunsK (κ := PyProof.Rows.strKind) (a₀ := vs.toArray.zip vs.toArray) (st := SortSt.mk' oneType' (vs.toArray.zip vs.toArray) #[] 7 none)
      (Q := fun _ st' => (arrOf st').Perm (vs.toArray.zip vs.toArray) ∧ failedOf st' = none ∧ SortedToK PyProof.Rows.strKind (arrOf st') (vs.toArray.zip vs.toArray).size)
      strKind_oneLt (by rw [zip_self]; exact StrsAre.keysOf hi) ⟨Array.Perm.refl _, rfl, rfl, rfl⟩ (by rw [zip_self, hsz]; omega) (by rw [zip_self, hsz]; exact h64) fun st' a1 a2 a3 => ⟨a1, a2, a3⟩) ?_ fun _ _ e => e)
    rintro ⟨⟨⟩, st'⟩ s' ⟨rfl, hp, hf, hs⟩
    try dsimp only
    rw [zip_self] at hp hs
    refine tailS nk na hka h64 (by rw [hp.size_eq, hsz]) hf fun h' c F n => ?_
    obtain ⟨ys, h1, h2', h3⟩ := sorted_out_str hi hp hs
    exact h h' _ c ys F n h1 h2' h3
theorem restS (hi : StrsAre vs ks) (nk : s.heap.get? kS = some (seqObj "list" #[] e)) (na : s.heap.get? a = some (seqObj "list" #[] e1)) (hka : kS ≠ a) (h64 : vs.length < 64)
    (h : ∀ h' out c ys, But2 a kS s.heap h' → h'.get? a = some (seqObj "list" out c) → StrsAre out.toList ys → ys.Perm ks → sortedS ys = true → P (.done (.ret .none)) { s with heap := h' }) :
    wpAny (model prog w) A (ksk_rest a (.type "str") false vs.toArray e1 (.ref kS)) P E s := by
  unfold ksk_rest
  refine wpAny_bind (wpAny_rule ?_)
  first
    | rw [List.forIn_toArray]
    | (rw [← Array.forIn_toList]; simp only [List.toList_toArray])
    | rw [← Array.forIn_toList]
  refine wpAny_bind (ksk_fold (fun i s' => ∃ h' c, s' = { s with heap := h' } ∧ But2 a kS s.heap h' ∧ h'.get? kS = some (seqObj "list" (vs.take i).toArray c) ∧ h'.get? a = some (seqObj "list" #[] e1)) vs 0 s
    ⟨s.heap, e, rfl, fun _ _ _ => rfl, nk, na⟩ ?step ?done)
  case step =>
    rintro j x s' hx ⟨h', c, rfl, F', nk', na'⟩
    simp only [Nat.zero_add] at nk' ⊢
    have hj : j < vs.length := (List.getElem?_eq_some_iff.mp hx).1
    obtain ⟨z, t, rfl⟩ : ∃ z t, x = Value.str z t := by
      have := hi.length
      obtain ⟨k, hk⟩ : ∃ k, ks[j]? = some k := ⟨_, List.getElem?_eq_getElem (by omega)⟩
      obtain ⟨t, ht⟩ := hi.get j k hk
      rw [ht] at hx
      cases hx
      exact ⟨_, _, rfl⟩
    refine wpAny_bind (wpAny_attempt (PySem.P.str_of_str ?_))
    try dsimp only
    have s1 := Heap.SameBut.update h' kS (Obj.mapSeq (·.push (.str z t)))
    obtain ⟨c2, hc2⟩ : ∃ c2, (h'.update kS (Obj.mapSeq (·.push (.str z t)))).get? kS = some (seqObj "list" ((vs.take j).toArray.push (.str z t)) c2) := ⟨_, get?_update_seq nk' (·.push (.str z t))⟩
    have ea : (vs.take j).toArray.push (Value.str z t) = (vs.take (j + 1)).toArray := by rw [List.take_add_one, hx]; simp
    have hz : (vs.take j).toArray.size ≤ vs.length := by rw [List.size_toArray, List.length_take]; omega
    rw [ea] at hc2
    refine wpAny_bind (listUpdate_at nk' rfl ?_ (by rw [sizeLine_eq]; omega) (Nat.le_trans (Nat.le_of_eq (Array.size_push ..)) (by rw [sizeLine_eq]; omega)))
    exact wpAny_pure ⟨rfl, _, c2, rfl, fun b b1 b2 => (s1.2 b b2).trans (F' b b1 b2), hc2, (s1.2 a hka.symm).trans na'⟩
  case done =>
    rintro s' ⟨h', c, rfl, F', nk', na'⟩
    have e3 : vs.take (0 + vs.length) = vs := List.take_of_length_le (by omega)
    rw [e3] at nk'
    try dsimp only
    refine wpAny_bind (listItems_at nk' rfl ?_)
    exact endS (s := { s with heap := h' }) hi nk' na' hka h64 fun h3 out c3 ys F3 n3 k1 k2 k3 => h h3 out c3 ys (fun b b1 b2 => (F3 b b1 b2).trans (F' b b1 b2)) n3 k1 k2 k3

theorem sortS {n : Nat} (hi : StrsAre vs ks) (ho : s.heap.get? a = some (seqObj "list" vs.toArray n)) (h64 : vs.length < 64)
    (h : ∀ h' out c ys, (∀ b u, b ≠ a → s.heap.get? b = some u → h'.get? b = some u) → h'.get? a = some (seqObj "list" out c) → StrsAre out.toList ys → ys.Perm ks → sortedS ys = true → P (.done (.ret .none)) { s with heap := h' }) :
    wpAny (model prog w) A (ksk_tree a (.type "str") false) P E s := by
  have ha : a < s.heap.objs.size := Heap.lt_size ho
  have s1 := Heap.SameBut.update s.heap a (Obj.mapSeq fun _ => (#[] : Array Value))
  obtain ⟨e1, ho1⟩ : ∃ e1, (s.heap.update a (Obj.mapSeq fun _ => (#[] : Array Value))).get? a = some (seqObj "list" #[] e1) := ⟨_, get?_update_seq ho fun _ => #[]⟩
  have hkS : ((s.heap.update a (Obj.mapSeq fun _ => (#[] : Array Value))).push (seqObj "tuple" vs.toArray 0)).objs.size = s.heap.objs.size + 1 := by rw [size_push', Heap.size_update]
  unfold ksk_tree
  refine wpAny_bind (listItems_at ho rfl ?_)
  refine wpAny_bind (listUpdate_at ho rfl ?_ (by rw [List.size_toArray, sizeLine_eq]; omega) (Nat.zero_le _))
  refine wpAny_bind (seqEpoch_at ho1 rfl ?_)
  refine wpAny_bind (wpAny_newTuple ?_ (by show vs.length ≤ _; rw [sizeLine_eq]; omega))
  refine wpAny_bind (wpAny_newList ?_ (Nat.zero_le _))
  refine wpAny_holding ?_
  refine restS (s := { s with heap := ((s.heap.update a (Obj.mapSeq fun _ => (#[] : Array Value))).push (seqObj "tuple" vs.toArray 0)).push (seqObj "list" #[] 0) }) (kS := ((s.heap.update a (Obj.mapSeq fun _ => (#[] : Array Value))).push (seqObj "tuple" vs.toArray 0)).objs.size)
    hi (Heap.get?_push_size _ rfl) (Heap.get?_push_of_some _ (Heap.get?_push_of_some _ ho1)) (by rw [hkS]; exact Nat.ne_of_gt (Nat.lt_succ_of_lt ha)) h64 fun h' out c ys F n k1 k2 k3 => h h' out c ys (fun b u b1 hu => ?_) n k1 k2 k3
  have hb : b < s.heap.objs.size := Heap.lt_size hu
  rw [F b b1 (by rw [hkS]; exact Nat.ne_of_lt (Nat.lt_succ_of_lt hb))]
  exact Heap.get?_push_of_some _ (Heap.get?_push_of_some _ ((s1.2 b b1).trans hu))
end
/-- sorted(d, key=str) of a dict whose keys are texts -/
def rSortedStrD : List V → List V → Hp → VK → Prop := fun vs zs H Q => ∃ (a : Addr) (kvs : List (Key × V)) (ks : List Str), vs = [V.ref a] ∧ zs = [V.ty "str"] ∧ Rd H a (.dK kvs) ∧ kvs.map (·.1) = ks.map Sum.inr ∧ ks.length < 64 ∧
  ∀ (ys : List Str) (p : Addr), ys.Perm ks → sortedS ys = true → H p = none → Q (.ref p) (upd H p (.lst (ys.map V.str)))
theorem key_str (x : Addr) : Builtin.«list.sort» ⟨[.ref x], [(Str.ofString "key", .type "str")]⟩ = ksk_tree x (.type "str") false := rfl

theorem cr_sortedStrD {X : Cx} (hcalm : X.calm = true) : CallRK X (.builtin "sorted") [Str.ofString "key"] rSortedStrD := by
  intro pins s σ H xs zs us ws Q I r rz h
  obtain ⟨d, kvs, ks, rfl, rfl, hd, hks, h64, q⟩ := h
  obtain rfl := Vals.ref1 r
  obtain ⟨w1, rfl, ew⟩ := vals1 rz
  obtain rfl : w1 = Value.type "str" := ew
  obtain ⟨_, lo, vs, rel, dd⟩ := dk_rd I.hok hd
  obtain ⟨ep, hat⟩ := Heap.DictOf.dictAt dd
  have hkeys : vs.map (·.1) = ks.map Sum.inr := (KV.keys rel).symm.trans hks
  have hl : vs.length = ks.length := by
    have := congrArg List.length hkeys
    rw [List.length_map, List.length_map] at this
    exact this
  refine call_function_entry_kw kind_sorted plain_sorted entry_sorted (ksk_s1 _ _) ?_
  unfold Builtin.«sorted»
  refine wpAny_bind (m := checkCount "sorted" 1 1 _) (wpAny_pure ?_)
  refine wpAny_bind (PySem.W.kdu_collect (PySem.W.kdl_dict lo) (I.ok.hd hcalm) hat (by rw [hl, sizeLine_eq]; omega) fun h' tk acc hk hacc => ?_)
  have hi : StrsAre acc.toList ks := by
    refine strs_at (by rw [Array.length_toList, hacc.1, hl]) fun j v hv => ?_
    rw [Array.getElem?_toList] at hv
    obtain ⟨k, x, hk1, hk2⟩ := hacc.2 j v hv
    have e1 : (vs.map (·.1))[j]? = some k := by rw [List.getElem?_map, hk1]; rfl
    rw [hkeys, List.getElem?_map] at e1
    cases e2 : ks[j]? with
    | none => rw [e2] at e1; cases e1
    | some z =>
      rw [e2] at e1
      cases e1
      obtain ⟨t, rfl⟩ := Value.isStrOf_shape hk2
      exact ⟨z, t, rfl, rfl⟩
  have I := I.kept (t' := tk) hk
  have ha64 : acc.toList.length < 64 := by rw [Array.length_toList, hacc.1, hl]; exact h64
  refine wpAny_bind (wpAny_newList ?_ (by rw [sizeLine_eq]; omega))
  have hoL : (h'.push (seqObj "list" acc.toList.toArray 0)).get? h'.objs.size = some (seqObj "list" acc.toList.toArray 0) := Heap.get?_push_size _ rfl
  have keep : ∀ b o, h'.get? b = some o → (h'.push (seqObj "list" acc.toList.toArray 0)).get? b = some o := fun b o q => Heap.get?_push_of_some _ q
  refine wpAny_bind (wpAny_holding (wpAny_call_entry_kw slot_list_sort ⟨_, hoL, rfl⟩ entry_list_sort ?body (ksk_l1 _ _)))
  case body =>
    show wpAny _ _ (Builtin.«list.sort» ⟨[.ref h'.objs.size], [(Str.ofString "key", .type "str")]⟩) _ _ _
    rw [key_str]
    refine sortS (s := { s with heap := h'.push (seqObj "list" acc.toList.toArray 0), toks := tk }) hi hoL ha64 fun h3 out c ys k n k1 k2 k3 => ⟨_, rfl, ?_⟩
    refine wpAny_pure ?_
    have e0 : out.toList.toArray = out := by rw [Array.toArray_toList]
    refine ⟨_, rfl, ?_⟩
    exact ⟨.ref _, upd H h'.objs.size (.lst (ys.map V.str)), I.laid (t' := tk) (fun b u hb => k b u (Nat.ne_of_lt (Heap.lt_size hb)) (keep b u hb)) (Nat.le_refl _) ⟨by rw [List.length_map, k2.length_eq, sizeLine_eq]; omega, _, c, vals_of_strs k1, by rw [e0]; exact n⟩, rfl,
      q _ _ k2 k3 (I.hok.fresh (Nat.le_refl _))⟩
end TzSort
namespace Tz
open PySem PySem.Spec PyProof.Rows L2
/-- y = {k: v for tg in iter if ..}, y a local name -/
theorem ps_setDc {X : Cx} {i : Nat} {y : Str} {py : Pos} {kx vx tg iter : Expr} {ifs : List Expr} {scope : Scope} {own : List (Str × Nat)} {pos spos : Pos} {wi : TI} {g : TG} {tt : TT} {tk tv : TE}
    (hc : X.calm = true) (hN : X.N.Nodup) (hy : X.N[i]? = some y) (hyl : X.env.scope.names.lookup y = some NameKind.local)
    (hsw : swapsWith (kx.DictComp vx [{ target := tg, iter := iter, ifs := ifs, is_async := 0 }] scope pos) (some (Expr.Name y py)) spos.line X.env = pure true)
    (hi : PI X tg iter wi) (ok : BlkOk X.N X.env.scope scope own)
    (hg : ∀ (s : Shared) (H : Hp) (C : Addr) (cl : List (Str × Addr)) (fp : List Addr), PG (X.blk s H scope (compEnvC scope cl C X.env) fp) tg g)
    (ht : ∀ (s : Shared) (H : Hp) (C : Addr) (cl : List (Str × Addr)) (fp : List Addr), PTs (X.blk s H scope (compEnvC scope cl C X.env) fp) ifs tt)
    (hk : ∀ (s : Shared) (H : Hp) (C : Addr) (cl : List (Str × Addr)) (fp : List Addr), PE (X.blk s H scope (compEnvC scope cl C X.env) fp) kx tk)
    (he : ∀ (s : Shared) (H : Hp) (C : Addr) (cl : List (Str × Addr)) (fp : List Addr), PE (X.blk s H scope (compEnvC scope cl C X.env) fp) vx tv)
    (hs : ∀ (x : Value), foldedSetIterable iter X.env x = pure x := by intros; rfl) :
    PS X (Stmt.Assign [Expr.Name y py] (kx.DictComp vx [{ target := tg, iter := iter, ifs := ifs, is_async := 0 }] scope pos) spos) (tAsg (tDc wi g tt tk tv (own.map (·.2))) (gName i)) := by
  refine ⟨fun pins s σ H D I h => ?_⟩
  rw [exec_Assign_Name_used y py (kx.DictComp vx [{ target := tg, iter := iter, ifs := ifs, is_async := 0 }] scope pos) spos hsw]
  refine wpAny_bind (wpAny_standAt (wpAny_bind ?_))
  refine wpAny_bind (thn (dc_core hc hN I hi ok hg ht hk he hs h fun L C s' m H' I' q hn f => ?_) fun x s' hq => wpAny_pure (wpAny_pure hq))
  obtain ⟨f0, f1, f2, f3, f4, f5⟩ := f
  refine wpAny_assign_Name (store_ok2 I' hN hy (Or.inl hyl) (show L2.RelV (V.ref L) (Value.ref L) from rfl) (fun s2 I2 x => ?_) (Or.inr hyl))
  obtain ⟨a, sb, ha⟩ := x
  have haC : C ≠ a := by
    rcases ha with z | z
    · rw [z]
      exact f1
    · exact fun e => f4 y a z e.symm
  exact ⟨m, Heap.Ns.sameBut hn sb haC, fun h3 sb3 => ⟨_, H', Inv.turned I2 (fun b o hb e => (sb3.2 b hb).trans e) f0 f1 f3 f4 f5, q⟩⟩
theorem sw_trueD {kx vx : Expr} {gs : List Comprehension} {scope : Scope} {pos py : Pos} {y : Str} {l : Nat} {env : Env} (h1 : env.scope.kind = ScopeKind.function) (h2 : env.scope.names.lookup y = some NameKind.local) (h3 : (py.line == pos.line) = true)
    (h4 : (scope.names.any fun x => match x with | (n, k) => n == y && (k == NameKind.local || k == NameKind.cell)) = false) : swapsWith (kx.DictComp vx gs scope pos) (some (Expr.Name y py)) l env = pure true := by
  have e := sw_true (elt := kx) (gs := gs) (scope := scope) (pos := pos) (l := l) h1 h2 h3 h4
  exact e
end Tz
namespace Tz
open PySem PySem.Spec PyProof.Rows L2 TzF TzRepr
/-! ### globals that are texts, tuples of texts, dicts of numbers -/
structure CoS (mg : Str → Option Value) (x z : Str) where
  t : Tok
  m : mg x = some (.str z t)
structure GTup (K : PySem.W.Frag) (mg : Str → Option Value) (x : Str) (zs : List Str) where
  a : Addr
  m : mg x = some (.ref a)
  s : ∀ H, SqT K H a (zs.map V.str)
structure GDct (K : PySem.W.Frag) (w : World) (mg : Str → Option Value) (x : Str) (ps : List (Str × Int)) where
  a : Addr
  m : mg x = some (.ref a)
  g : ∀ p ∈ ps, KDct K w a p.1 (.int p.2)
/-! ### anything that is drawn -/
inductive Ki where
  | non | bl | int | str | lst | tup | dic
inductive Th (H : Hp) : V → Ki → Prop where
  | non : Th H .non .non
  | bl (b : Bool) : Th H (.bl b) .bl
  | int (i : Int) : Th H (.int i) .int
  | str (z : Str) (hz : z.length ≤ 1000) : Th H (.str z) .str
  | lst {a : Addr} {xs : List V} (h : H a = some (.lst xs)) : Th H (.ref a) .lst
  | tup {a : Addr} {xs : List V} (h : H a = some (.tup xs)) : Th H (.ref a) .tup
  | dic {a : Addr} {kvs : List (Key × V)} (h : H a = some (.dK kvs)) : Th H (.ref a) .dic
theorem Th.ex {H H' : Hp} {v : V} {g : Ki} (h : Th H v g) (e : Ex H H') : Th H' v g := by
  cases h with
  | non => exact .non
  | bl b => exact .bl b
  | int i => exact .int i
  | str z hz => exact .str z hz
  | lst h => exact .lst (e _ _ h)
  | tup h => exact .tup (e _ _ h)
  | dic h => exact .dic (e _ _ h)
def Ki.is : Ki → String → Bool
  | .int, "int" => true
  | .bl, "int" => true
  | .bl, "bool" => true
  | .str, "str" => true
  | .lst, "list" => true
  | .tup, "tuple" => true
  | .dic, "dict" => true
  | _, _ => false
theorem Th.ty {K : PySem.W.Frag} {H : Hp} {v : V} {g : Ki} (h : Th H v g) : ∃ t, TyX K H v t ∧ ∀ n ∈ ["int", "bool", "str", "list", "tuple"], PySem.W.kitOne K t (.type n) = some (g.is n) := by
  have go : ∀ {t : Value} {g : Ki}, (PySem.W.kitOne K t (.type "int") = some (g.is "int") ∧ PySem.W.kitOne K t (.type "bool") = some (g.is "bool") ∧ PySem.W.kitOne K t (.type "str") = some (g.is "str") ∧ PySem.W.kitOne K t (.type "list") = some (g.is "list") ∧ PySem.W.kitOne K t (.type "tuple") = some (g.is "tuple")) → ∀ n ∈ ["int", "bool", "str", "list", "tuple"], PySem.W.kitOne K t (.type n) = some (g.is n) := by
    rintro t g ⟨h1, h2, h3, h4, h5⟩ n hn
    simp only [List.mem_cons, List.not_mem_nil, or_false] at hn
    rcases hn with rfl | rfl | rfl | rfl | rfl <;> assumption
  cases h with
  | non => exact ⟨_, .base .non, go ⟨kit_ty (by decide +kernel), kit_ty (by decide +kernel), kit_ty (by decide +kernel), kit_ty (by decide +kernel), kit_ty (by decide +kernel)⟩⟩
  | bl b => exact ⟨_, .base (.bl _), go ⟨kit_ty (by decide +kernel), kit_ty (by decide +kernel), kit_ty (by decide +kernel), kit_ty (by decide +kernel), kit_ty (by decide +kernel)⟩⟩
  | int i => exact ⟨_, .base (.int _), go ⟨kit_ty (by decide +kernel), kit_ty (by decide +kernel), kit_ty (by decide +kernel), kit_ty (by decide +kernel), kit_ty (by decide +kernel)⟩⟩
  | str z hz => exact ⟨_, .base (.str _), go ⟨kit_ty (by decide +kernel), kit_ty (by decide +kernel), kit_ty (by decide +kernel), kit_ty (by decide +kernel), kit_ty (by decide +kernel)⟩⟩
  | lst h => exact ⟨_, .base (.lst h), go ⟨kit_ty (by decide +kernel), kit_ty (by decide +kernel), kit_ty (by decide +kernel), kit_ty (by decide +kernel), kit_ty (by decide +kernel)⟩⟩
  | tup h => exact ⟨_, .base (.tup h), go ⟨kit_ty (by decide +kernel), kit_ty (by decide +kernel), kit_ty (by decide +kernel), kit_ty (by decide +kernel), kit_ty (by decide +kernel)⟩⟩
  | dic h => exact ⟨_, .base (.dK h), go ⟨kit_ty (by decide +kernel), kit_ty (by decide +kernel), kit_ty (by decide +kernel), kit_ty (by decide +kernel), kit_ty (by decide +kernel)⟩⟩
/-! ### names -/
def LET : Str := "abcdefghijklmnopqrstuvwxyz"
def NON : List Str := ["full", "same", "like", "isempty", "isfull", "yes", "no"]
def nameB (z : Str) : Bool := (decide (1 ≤ z.length) && decide (z.length ≤ 6)) && !(NON.any fun y => y == z) && z.cps.toList.all fun c => decide (c ∈ LET.cps.toList)
def nameV : V → Bool
  | .str z => nameB z
  | _ => false
def isI : V → Bool
  | .int _ => true
  | _ => false
def fromV (lo hi : Int) : V → Bool
  | .int n => decide (lo ≤ n) && decide (n ≤ hi)
  | _ => false
def spThWhole : Sp := fun vs H Q _ => ∃ v g, vs = [v] ∧ Th H v g ∧ Q (.bl (isI v)) H
def spThFrom : Sp := fun vs H Q _ => ∃ v g, ∃ lo hi : Int, vs = [v, .int lo, .int hi] ∧ Th H v g ∧ Q (.bl (fromV lo hi v)) H
def spIsName : Sp := fun vs H Q _ => ∃ v g, vs = [v] ∧ Th H v g ∧ ∀ H', Ex H H' → Q (.bl (nameV v)) H'
theorem walk_strC {x : Str} : Walk (Its x) x.cps.size (fun _ => True) (YFn fun i => .str ⟨#[x.cps.getD i 0]⟩) := by
  refine ⟨fun i H hi _ => hi, fun H _ => Nat.le_refl _, fun i H v H' hi _ y => ?_⟩
  obtain ⟨rfl, c, hc, rfl⟩ := y
  refine ⟨rfl, ?_⟩
  show V.str ⟨#[c]⟩ = V.str ⟨#[x.cps.getD i 0]⟩
  rw [Array.getD_eq_getD_getElem?, hc]
  rfl
theorem all_cps {x : Str} {p : Nat → Bool} : ((List.range x.cps.size).all fun j => p (x.cps.getD j 0)) = x.cps.toList.all p := by
  rw [Bool.eq_iff_iff, List.all_eq_true, List.all_eq_true]
  constructor
  · intro h c hc
    obtain ⟨j, hj, rfl⟩ := List.mem_iff_getElem.mp hc
    rw [Array.length_toList] at hj
    have := h j (List.mem_range.mpr hj)
    rw [Array.getD_eq_getD_getElem?, Array.getElem?_eq_getElem hj] at this
    exact this
  · intro h j hj
    have hj := List.mem_range.mp hj
    rw [Array.getD_eq_getD_getElem?, Array.getElem?_eq_getElem hj]
    exact h _ (Array.getElem_mem_toList hj)
/-! ### dicts of names -/
theorem dc_it {J : It} {n : Nat} {G : Hp → Prop} {Y : Nat → Hp → V → Hp → Prop} (w : Walk J n G Y) {g : TG} {tt : TT} {tk tv : TE} {vs : List Nat} {σ : L2.St} {H1 : Hp} {D : Addr} {Qd : Hp → Prop} (Pv : Nat → Hp → Prop) (h0 : Pv 0 (upd H1 D (.dK []))) (hG : ∀ i H, i ≤ n → Pv i H → G H)
    (hs : ∀ i x H H', i < n → Pv i H → Y i H x H' → g x (wipe σ vs) H' fun σ2 H2 => wipe σ2 vs = wipe σ vs ∧ tt σ2 H2 fun b H3 => if b = true then tk σ2 H3 fun y H4 => tv σ2 H4 fun z H5 => ∃ kvs k, y = kV k ∧ H5 D = some (.dK kvs) ∧ kvs.length < sizeLine ∧ Pv (i + 1) (upd H5 D (.dK (putK kvs k z))) else Pv (i + 1) H3)
    (hd : ∀ H, Pv n H → Qd H) :
    ∃ W : Nat → Nat → Hp → Prop, (∃ m, W 0 m (upd H1 D (.dK []))) ∧ ∀ i m H, W i m H →
      (J.stop i H ∧ Qd H) ∨ (J.go i H ∧ ∃ Nx : Hp → Prop, (∀ H', Nx H' → ∃ m', m' < m ∧ W (i + 1) m' H') ∧ ∀ x H', J.yld i H x H' → g x (wipe σ vs) H' fun σ2 H2 => wipe σ2 vs = wipe σ vs ∧ tt σ2 H2 fun b H3 =>
        if b = true then tk σ2 H3 fun y H4 => tv σ2 H4 fun z H5 => ∃ kvs k, y = kV k ∧ H5 D = some (.dK kvs) ∧ kvs.length < sizeLine ∧ Nx (upd H5 D (.dK (putK kvs k z))) else Nx H3) := by
  refine ⟨fun i m H => i ≤ n ∧ m = n - i ∧ Pv i H, ⟨n, Nat.zero_le _, rfl, h0⟩, ?_⟩
  rintro i m H ⟨hi, rfl, p⟩
  by_cases e : i = n
  · subst e
    exact .inl ⟨w.stops H (hG _ _ hi p), hd H p⟩
  · have l : i < n := by omega
    exact .inr ⟨w.goes i H l (hG _ _ hi p), Pv (i + 1), fun H' p' => ⟨n - (i + 1), by omega, by omega, rfl, p'⟩, fun x H' y => hs i x H H' l p (w.yields i H x H' l (hG _ _ hi p) y)⟩
def nmD (ks : List Str) : List (Key × V) := ks.map fun z => (Sum.inr z, V.bl true)
theorem putK_nm {ks : List Str} {z : Str} : ∃ ks', putK (nmD ks) (Sum.inr z : Key) (.bl true) = nmD ks' ∧ ks'.length ≤ ks.length + 1 ∧ ∀ y ∈ ks', y ∈ ks ∨ y = z := by
  unfold putK
  by_cases q : ((nmD ks).any fun kv => decide (kv.1 = (Sum.inr z : Key))) = true
  · rw [if_pos q]
    refine ⟨ks, ?_, Nat.le_succ _, fun y h => .inl h⟩
    unfold nmD
    rw [List.map_map]
    refine List.map_congr_left fun y _ => ?_
    show (if (Sum.inr y : Key) = Sum.inr z then ((Sum.inr y : Key), V.bl true) else (Sum.inr y, V.bl true)) = _
    split <;> rfl
  · rw [if_neg q]
    refine ⟨ks ++ [z], by unfold nmD; rw [List.map_append]; rfl, by rw [List.length_append, List.length_singleton]; exact Nat.le_refl _, fun y h => ?_⟩
    rcases List.mem_append.mp h with h | h
    · exact .inl h
    · exact .inr (List.mem_singleton.mp h)
theorem nmD_len {ks : List Str} : (nmD ks).length = ks.length := List.length_map ..
theorem nmD_keys {ks : List Str} : (nmD ks).map (·.1) = ks.map Sum.inr := by
  unfold nmD
  rw [List.map_map]
  rfl
/-! ### formulas as objects -/
structure StepsAt (H : Hp) (p : Addr) (st : List (Str × V)) : Prop where
  ex : ∃ xs : List Addr, H p = some (.tup (xs.map V.ref)) ∧ xs.length = st.length ∧ ∀ (i : Nat) (x : Addr) (s : Str × V), xs[i]? = some x → st[i]? = some s → H x = some (.tup [.str s.1, s.2])
theorem StepsAt.ext {H H' : Hp} {p : Addr} {st : List (Str × V)} (h : StepsAt H p st) (e : Ex H H') : StepsAt H' p st := by
  obtain ⟨xs, a, l, r⟩ := h.ex
  exact ⟨xs, e _ _ a, l, fun i x s h1 h2 => e _ _ (r i x s h1 h2)⟩
def fof (sp : Addr) (n : Nat) (wr : Str) (lv : Int) (np : Addr) : List (Str × V) := putF "_names" (.ref np) (putF "level" (.int lv) (putF "written" (.str wr) (putF "size" (.int n) (putF "steps" (.ref sp) []))))
/-- the worth of a name is a text -/
def StepOk (s : Str × V) : Prop := s.1 = "name" → ∃ z : Str, s.2 = .str z
def spFoInit (C : Addr) : Sp := fun vs H Q _ => ∃ p dx sp wr, ∃ lv : Int, ∃ st, vs = [.ref p, .ref sp, .str wr, .int lv] ∧ H p = some (.ins C dx []) ∧ StepsAt H sp st ∧ st.length ≤ 60 ∧ (∀ s ∈ st, StepOk s) ∧
  ∀ (np : Addr) (ys : List Str) (H' : Hp), H' p = some (.ins C dx (fof sp st.length wr lv np)) → H' np = some (.tup (ys.map V.str)) → ys.length ≤ 60 → (∀ b o, H b = some o → b ≠ p → H' b = some o) → Q .non H'
def FoAt (C : Addr) (H : Hp) (a : Addr) (n b : Nat) : Prop := ∃ dx sp wr, ∃ lv : Int, ∃ np st, H a = some (.ins C dx (fof sp st.length wr lv np)) ∧ StepsAt H sp st ∧ (∀ s ∈ st, StepOk s) ∧ st.length ≤ n ∧ wr.length ≤ b
theorem FoAt.ex {C : Addr} {H H' : Hp} {a : Addr} {n b : Nat} (h : FoAt C H a n b) (e : Ex H H') : FoAt C H' a n b := by
  obtain ⟨dx, sp, wr, lv, np, st, h1, h2, h3, h4, h5⟩ := h
  exact ⟨dx, sp, wr, lv, np, st, e _ _ h1, h2.ext e, h3, h4, h5⟩
theorem FoAt.mono {C : Addr} {H : Hp} {a : Addr} {n b n' b' : Nat} (h : FoAt C H a n b) (hn : n ≤ n') (hb : b ≤ b') : FoAt C H a n' b' := by
  obtain ⟨dx, sp, wr, lv, np, st, h1, h2, h3, h4, h5⟩ := h
  exact ⟨dx, sp, wr, lv, np, st, h1, h2, h3, Nat.le_trans h4 hn, Nat.le_trans h5 hb⟩
section
variable {sp np : Addr} {n : Nat} {wr : Str} {lv : Int}
theorem fof_steps : (fof sp n wr lv np).lookup ("steps" : Str) = some (.ref sp) := by
  unfold fof
  rw [lookup_putF, if_neg (by decide +kernel), lookup_putF, if_neg (by decide +kernel), lookup_putF, if_neg (by decide +kernel), lookup_putF, if_neg (by decide +kernel), lookup_putF, if_pos rfl]
theorem fof_written : (fof sp n wr lv np).lookup ("written" : Str) = some (.str wr) := by
  unfold fof
  rw [lookup_putF, if_neg (by decide +kernel), lookup_putF, if_neg (by decide +kernel), lookup_putF, if_pos rfl]
theorem fof_level : (fof sp n wr lv np).lookup ("level" : Str) = some (.int lv) := by
  unfold fof
  rw [lookup_putF, if_neg (by decide +kernel), lookup_putF, if_pos rfl]
end
def spNamed (C : Addr) : Sp := fun vs H Q _ => ∃ z, vs = [.str z] ∧ nameB z = true ∧ ∀ a H', Ex H H' → FoAt C H' a 1 6 → Q (.ref a) H'
def spNumber (C : Addr) : Sp := fun vs H Q _ => ∃ c : Int, vs = [.int c] ∧ 0 ≤ c ∧ c ≤ 15 ∧ ∀ a H', Ex H H' → FoAt C H' a 1 6 → Q (.ref a) H'
theorem nameB_len {z : Str} (h : nameB z = true) : z.length ≤ 6 := by
  unfold nameB at h
  rw [Bool.and_eq_true, Bool.and_eq_true, Bool.and_eq_true] at h
  exact of_decide_eq_true h.1.1.2
theorem new_fo {C p dx sp np : Addr} {wr : Str} {lv : Int} {st : List (Str × V)} {H H' : Hp} (h : H' p = some (.ins C dx (fof sp st.length wr lv np))) (fr : ∀ b o, H b = some o → b ≠ p → H' b = some o) (S : StepsAt H sp st) (hp : H p = some (.ins C dx [])) (sok : ∀ s ∈ st, StepOk s) {n b : Nat} (ln : st.length ≤ n) (lb : wr.length ≤ b) : FoAt C H' p n b := by
  obtain ⟨xs, h1, h2, h3⟩ := S.ex
  refine ⟨dx, sp, wr, lv, np, st, h, ⟨xs, fr _ _ h1 (fun e => by rw [e, hp] at h1; cases h1), h2, fun i x s q1 q2 => ?_⟩, sok, ln, lb⟩
  have := h3 i x s q1 q2
  exact fr _ _ this fun e => by rw [e, hp] at this; cases this
/-- the steps of one step -/
theorem step_one {H : Hp} {t1 t2 : Addr} {s : Str} {v : V} (h1 : H t1 = some (.tup [.str s, v])) (h2 : H t2 = some (.tup [.ref t1])) : StepsAt H t2 [(s, v)] :=
  ⟨[t1], h2, rfl, fun i x q a b => by
    match i, a, b with
    | 0, a, b => cases a; cases b; exact h1⟩
theorem fr_ex {H H' : Hp} {p dx : Addr} {o1 o2 : HO} (np : H p = none) (ndx : H dx = none) (fr : ∀ b o, upd (upd H dx o1) p o2 b = some o → b ≠ p → H' b = some o) : Ex H H' := fun a o q => by
  have ap : a ≠ p := fun e => by rw [e, np] at q; cases q
  have ad : a ≠ dx := fun e => by rw [e, ndx] at q; cases q
  exact fr a o (by rw [upd_ne ap, upd_ne ad]; exact q) ap
theorem ex_two {H : Hp} {p dx : Addr} {o1 o2 : HO} (np : H p = none) (ndx : H dx = none) : Ex H (upd (upd H dx o1) p o2) := fr_ex np ndx fun _ _ h _ => h
end Tz
namespace TzF
open PySem PySem.Spec PyProof.Rows L2 He
/-! ### the head, with dicts of the module: the hashes of their keys are the world's -/
abbrev AlW : Type := AlY × List (Option (List (Option (Str × Int))))
def obsW (n : Nat) (fa : List Fa) (fn : List DefD) (sm : List SM) (tf : List Defn) (ex : PySem.W.Frag → Bool) (ts : List Tab) (g : Addr → Option Obj) : AlW := (fun K => (obsK fa fn sm tf ex g K, ts.map fun t => dicW K (t.1 K))) (frY n g)
def valW (fn : List DefD) (sm : List SM) (ts : List Tab) (w : World) : AlW := (valY fn sm, ts.map fun t => some (keysIn w.params t.2))
structure SaysW (fa : List Fa) (fn : List DefD) (sm : List SM) (tf : List Defn) (ex : PySem.W.Frag → Bool) (ts : List Tab) (w : World) (h : Heap) (K : PySem.W.Frag) : Prop where
  y : SaysY fa fn sm tf ex h K
  t : ts.map (fun t => dicW K (t.1 K)) = ts.map fun t => some (keysIn w.params t.2)
def hookW (n : Nat) (fa : List Fa) (fn : List DefD) (sm : List SM) (tf : List Defn) (ex : PySem.W.Frag → Bool) (ts : List Tab) : PySem.W.Hook where
  α := AlW
  obs := fun s => obsW n fa fn sm tf ex ts s.heap.get?
  val := fun w => valW fn sm ts w
  says := fun w h => ∃ K : PySem.W.Frag, K.In h ∧ SaysW fa fn sm tf ex ts w h K
  of := fun w s e => ⟨frY n s.heap.get?, frT_in, saysY_of (congrArg (fun z : AlW => z.1) e), congrArg (fun z : AlW => z.2) e⟩
  keeps := fun w h h2 hh k => by
    obtain ⟨K, hK, c, t⟩ := hh
    exact ⟨K, PySem.W.Frag.In.keeps hK k, ⟨c.d, c.v, c.k, c.more, c.hd, c.out, fun p hp => k _ _ (c.empty p hp)⟩, t⟩
theorem obsW_eq {n : Nat} {fa : List Fa} {fn : List DefD} {sm : List SM} {tf : List Defn} {ex : PySem.W.Frag → Bool} {ts : List Tab} {g : Addr → Option Obj} {s : Shared} (h : ∀ a, g a = s.heap.get? a) : obsW n fa fn sm tf ex ts g = (hookW n fa fn sm tf ex ts).obs s := by
  rw [show g = s.heap.get? from funext h]
  rfl
theorem SaysW.tab {fa : List Fa} {fn : List DefD} {sm : List SM} {tf : List Defn} {ex : PySem.W.Frag → Bool} {ts : List Tab} {w : World} {h : Heap} {K : PySem.W.Frag} (c : SaysW fa fn sm tf ex ts w h K) (i : Nat) {t : Tab} (e : ts[i]? = some t := by rfl) : ∃ es n, KDict K w (t.1 K) es n := by
  have q : (ts.map fun t => dicW K (t.1 K))[i]? = (ts.map fun t => some (keysIn w.params t.2))[i]? := by rw [c.t]
  rw [List.getElem?_map, List.getElem?_map, e] at q
  exact dicW_ok (Option.some.inj q)
end TzF
namespace Tz
open PySem PySem.Spec PyProof.Rows L2 TzF
theorem gdct_of {K : PySem.W.Frag} {w : World} {a : Addr} {ps : List (Str × Int)} (D : ∃ es n, KDict K w a es n) (v : He.valsB K a (ps.map fun p => (p.1, He.Dv.int p.2)) = true) : ∀ p ∈ ps, KDct K w a p.1 (.int p.2) := fun p hp => by
  obtain ⟨es, n, D⟩ := D
  obtain ⟨u, e, r⟩ := He.valsB_ok v (List.mem_map_of_mem (f := fun p : Str × Int => (p.1, He.Dv.int p.2)) hp)
  exact ⟨es, n, u, D.at_, D.lit, e, r⟩
end Tz
namespace TzF
open PySem PySem.Spec PyProof.Rows L2 He
/-! ### the head, its part of the heap told by a list of addresses -/
def obsL (as : List Addr) (fa : List Fa) (fn : List DefD) (sm : List SM) (tf : List Defn) (ex : PySem.W.Frag → Bool) (ts : List Tab) (g : Addr → Option Obj) : AlW := (fun K => (obsK fa fn sm tf ex g K, ts.map fun t => dicW K (t.1 K))) (frT g as)
theorem saysL_of {as : List Addr} {fa : List Fa} {fn : List DefD} {sm : List SM} {tf : List Defn} {ex : PySem.W.Frag → Bool} {h : Heap} (e : obsK fa fn sm tf ex h.get? (frT h.get? as) = valY fn sm) : SaysY fa fn sm tf ex h (frT h.get? as) := by
  have e1 : obsD fa fn (frT h.get? as) = valD fn := congrArg (fun z : AlY => z.1.1) e
  have e2 : sm.map (fun d => valA (frT h.get? as) (d.a (frT h.get? as))) = sm.map SM.val := congrArg (fun z : AlY => z.1.2) e
  obtain ⟨h0, h12⟩ := two (show ((sm.all fun d => d.ok (frT h.get? as)) && (ex (frT h.get? as) && tabsB h.get? tf (frT h.get? as))) = true from congrArg Prod.snd e)
  obtain ⟨h1, h2⟩ := two h12
  have key : ∀ p ∈ tf, PySem.W.codeHdIn (frT h.get? as) (cT (frT h.get? as) p).1 (cT (frT h.get? as) p).2 = true ∧ ∃ o, h.get? (cT (frT h.get? as) p).2 = some o ∧ emptyTab o = true := fun p hp => by
    obtain ⟨h3, h4⟩ := two (List.all_eq_true.mp h2 p hp)
    cases q : h.get? (cT (frT h.get? as) p).2 with
    | none =>
      rw [q] at h4
      cases h4
    | some o =>
      rw [q] at h4
      exact ⟨h3, o, rfl, h4⟩
  refine ⟨e1, e2, fun d hd => List.all_eq_true.mp h0 d hd, h1, fun p hp => (key p hp).1, fun p hp => ?_, fun p hp => ?_⟩
  · obtain ⟨_, o, q, z⟩ := key p hp
    exact frT_none q z
  · obtain ⟨_, o, q, z⟩ := key p hp
    rw [q, emptyTab_eq z]
def hookL (as : List Addr) (fa : List Fa) (fn : List DefD) (sm : List SM) (tf : List Defn) (ex : PySem.W.Frag → Bool) (ts : List Tab) : PySem.W.Hook where
  α := AlW
  obs := fun s => obsL as fa fn sm tf ex ts s.heap.get?
  val := fun w => valW fn sm ts w
  says := fun w h => ∃ K : PySem.W.Frag, K.In h ∧ SaysW fa fn sm tf ex ts w h K
  of := fun w s e => ⟨frT s.heap.get? as, frT_in, saysL_of (congrArg (fun z : AlW => z.1) e), congrArg (fun z : AlW => z.2) e⟩
  keeps := fun w h h2 hh k => by
    obtain ⟨K, hK, c, t⟩ := hh
    exact ⟨K, PySem.W.Frag.In.keeps hK k, ⟨c.d, c.v, c.k, c.more, c.hd, c.out, fun p hp => k _ _ (c.empty p hp)⟩, t⟩
theorem obsL_eq {as : List Addr} {fa : List Fa} {fn : List DefD} {sm : List SM} {tf : List Defn} {ex : PySem.W.Frag → Bool} {ts : List Tab} {g : Addr → Option Obj} {s : Shared} (h : ∀ a, g a = s.heap.get? a) : obsL as fa fn sm tf ex ts g = (hookL as fa fn sm tf ex ts).obs s := by
  rw [show g = s.heap.get? from funext h]
  rfl
end TzF
namespace Tz
open PySem PySem.Spec PyProof.Rows L2 TzF TzRepr
/-- a member of a check that was not refused -/
def Mem1 (v : V) : Prop := (∃ c : Int, v = .int c ∧ 1 ≤ c ∧ c ≤ 15) ∨ ∃ z, v = .str z ∧ nameB z = true
def spMember (C : Addr) : Sp := fun vs H Q _ => ∃ v, vs = [v] ∧ Mem1 v ∧ ∀ a H', Ex H H' → FoAt C H' a 1 6 → Q (.ref a) H'
def spWritten (C : Addr) : Sp := fun vs H Q _ => ∃ a n b, vs = [.ref a, .str "+"] ∧ FoAt C H a n b ∧ b ≤ 1000 ∧ ∀ z : Str, z.length ≤ b + 2 → Q (.str z) H
theorem app_le {x y : Str} {n m : Nat} (hx : x.length ≤ n) (hy : y.length ≤ m) : (x ++ y).length ≤ n + m := by
  rw [Str.length_append]
  omega
theorem le_line {n m : Nat} (h : n ≤ m) (hm : m ≤ 10000) : n ≤ sizeLine := Nat.le_trans (Nat.le_trans h hm) (by decide)
def spJoined (C : Addr) : Sp := fun vs H Q _ => ∃ a1 n1 b1 a2 n2 b2, vs = [.ref a1, .str "+", .ref a2] ∧ FoAt C H a1 n1 b1 ∧ FoAt C H a2 n2 b2 ∧ b1 ≤ 1000 ∧ b2 ≤ 1000 ∧ ∀ z : Str, z.length ≤ b1 + b2 + 7 → Q (.str z) H
def spTogether (C : Addr) : Sp := fun vs H Q _ => ∃ a1 n1 b1 a2 n2 b2, vs = [.ref a1, .str "+", .ref a2] ∧ FoAt C H a1 n1 b1 ∧ FoAt C H a2 n2 b2 ∧ b1 ≤ 1000 ∧ b2 ≤ 1000 ∧ n1 + n2 + 1 ≤ 60 ∧ ∀ a H', Ex H H' → FoAt C H' a (n1 + n2 + 1) (b1 + b2 + 7) → Q (.ref a) H'
def spFoAdd (C : Addr) : Sp := fun vs H Q _ => ∃ a1 n1 b1 a2 n2 b2, vs = [.ref a1, .ref a2] ∧ FoAt C H a1 n1 b1 ∧ FoAt C H a2 n2 b2 ∧ b1 ≤ 1000 ∧ b2 ≤ 1000 ∧ n1 + n2 + 1 ≤ 60 ∧ ∀ a H', Ex H H' → FoAt C H' a (n1 + n2 + 1) (b1 + b2 + 7) → Q (.ref a) H'
def spOperandF (C : Addr) : Sp := fun vs H Q _ => ∃ a n b, vs = [.ref a] ∧ FoAt C H a n b ∧ Q (.ref a) H
theorem steps_app {H : Hp} {p1 p2 t q : Addr} {st1 st2 : List (Str × V)} {s : Str} {v : V} {xs1 xs2 : List Addr} (h1 : H p1 = some (.tup (xs1.map V.ref))) (l1 : xs1.length = st1.length) (r1 : ∀ (i : Nat) (x : Addr) (s : Str × V), xs1[i]? = some x → st1[i]? = some s → H x = some (.tup [.str s.1, s.2]))
    (l2 : xs2.length = st2.length) (r2 : ∀ (i : Nat) (x : Addr) (s : Str × V), xs2[i]? = some x → st2[i]? = some s → H x = some (.tup [.str s.1, s.2])) (ht : H t = some (.tup [.str s, v])) (hq : H q = some (.tup (xs1.map V.ref ++ (xs2.map V.ref ++ [.ref t])))) : StepsAt H q (st1 ++ (st2 ++ [(s, v)])) := by
  refine ⟨xs1 ++ (xs2 ++ [t]), by rw [hq, List.map_append, List.map_append]; rfl, by simp [l1, l2], fun i x y a b => ?_⟩
  by_cases i1 : i < xs1.length
  · rw [List.getElem?_append_left i1] at a
    rw [List.getElem?_append_left (by omega)] at b
    exact r1 i x y a b
  · rw [List.getElem?_append_right (by omega)] at a
    rw [List.getElem?_append_right (by omega)] at b
    rw [l1] at a
    by_cases i2 : i - st1.length < xs2.length
    · rw [List.getElem?_append_left i2] at a
      rw [List.getElem?_append_left (by omega)] at b
      exact r2 _ x y a b
    · rw [List.getElem?_append_right (by omega)] at a
      rw [List.getElem?_append_right (by omega)] at b
      rw [l2] at a
      match i - st1.length - st2.length, a, b with
      | 0, a, b => cases a; cases b; exact ht
      | j + 1, a, b => simp at a
end Tz
namespace Tz
open PySem PySem.Spec PyProof.Rows L2 TzF TzRepr
/-! ### what is written: a formula, a saying -/
def WrAt (K : PySem.W.Frag) (H : Hp) (a : Addr) (b : Nat) : Prop := ∃ C dx fs wr, ∃ lv : Int, H a = some (.ins C dx fs) ∧ Cls K C ∧ NoAttr K C "written" ∧ NoAttr K C "level" ∧ fs.lookup ("written" : Str) = some (.str wr) ∧ fs.lookup ("level" : Str) = some (.int lv) ∧ wr.length ≤ b
theorem WrAt.ex {K : PySem.W.Frag} {H H' : Hp} {a : Addr} {b : Nat} (h : WrAt K H a b) (e : Ex H H') : WrAt K H' a b := by
  obtain ⟨C, dx, fs, wr, lv, h1, h2⟩ := h
  exact ⟨C, dx, fs, wr, lv, e _ _ h1, h2⟩
def LEVP : List (Str × Int) := [("~", 4), ("*", 3), ("&", 3), ("+", 2), ("-", 2), ("^", 2), ("<<", 1), (">>", 1), ("|", 1)]
theorem lev_len : ∀ q ∈ LEVP, q.1.length ≤ 2 := by decide +kernel
def spRightR (K : PySem.W.Frag) : Sp := fun vs H Q _ => ∃ a b q, vs = [.ref a, .str q.1] ∧ q ∈ LEVP ∧ WrAt K H a b ∧ b ≤ 2000 ∧ ∀ z : Str, z.length ≤ b + 2 → Q (.str z) H
def spJoinedR (K : PySem.W.Frag) : Sp := fun vs H Q _ => ∃ a1 b1 a2 b2 q, vs = [.ref a1, .str q.1, .ref a2] ∧ q ∈ LEVP ∧ WrAt K H a1 b1 ∧ WrAt K H a2 b2 ∧ b1 ≤ 2000 ∧ b2 ≤ 2000 ∧ ∀ z : Str, z.length ≤ b1 + b2 + 8 → Q (.str z) H
def spComplR (K : PySem.W.Frag) : Sp := fun vs H Q _ => ∃ a b, vs = [.ref a] ∧ WrAt K H a b ∧ b ≤ 2000 ∧ ∀ z : Str, z.length ≤ b + 3 → Q (.str z) H
/-! ### formulas whose names are known -/
def spFoInitN (C : Addr) : Sp := fun vs H Q _ => ∃ p dx sp wr, ∃ lv : Int, ∃ st, vs = [.ref p, .ref sp, .str wr, .int lv] ∧ H p = some (.ins C dx []) ∧ StepsAt H sp st ∧ st.length ≤ 60 ∧ (∀ s ∈ st, StepOk s) ∧
  ∀ (np : Addr) (ys : List Str) (H' : Hp), H' p = some (.ins C dx (fof sp st.length wr lv np)) → H' np = some (.tup (ys.map V.str)) → ys.length ≤ st.length → (∀ b o, H b = some o → b ≠ p → H' b = some o) → Q .non H'
def FoN (C : Addr) (H : Hp) (a : Addr) (n b : Nat) : Prop := ∃ dx sp wr, ∃ lv : Int, ∃ np st, ∃ ys : List Str, H a = some (.ins C dx (fof sp st.length wr lv np)) ∧ StepsAt H sp st ∧ (∀ s ∈ st, StepOk s) ∧ st.length ≤ n ∧ wr.length ≤ b ∧ H np = some (.tup (ys.map V.str)) ∧ ys.length ≤ n
theorem FoN.ex {C : Addr} {H H' : Hp} {a : Addr} {n b : Nat} (h : FoN C H a n b) (e : Ex H H') : FoN C H' a n b := by
  obtain ⟨dx, sp, wr, lv, np, st, ys, h1, h2, h3, h4, h5, h6, h7⟩ := h
  exact ⟨dx, sp, wr, lv, np, st, ys, e _ _ h1, h2.ext e, h3, h4, h5, e _ _ h6, h7⟩
theorem FoN.mono {C : Addr} {H : Hp} {a : Addr} {n b n' b' : Nat} (h : FoN C H a n b) (hn : n ≤ n') (hb : b ≤ b') : FoN C H a n' b' := by
  obtain ⟨dx, sp, wr, lv, np, st, ys, h1, h2, h3, h4, h5, h6, h7⟩ := h
  exact ⟨dx, sp, wr, lv, np, st, ys, h1, h2, h3, Nat.le_trans h4 hn, Nat.le_trans h5 hb, h6, Nat.le_trans h7 hn⟩
theorem FoN.wr {K : PySem.W.Frag} {C : Addr} {H : Hp} {a : Addr} {n b : Nat} (h : FoN C H a n b) (c : Cls K C) (n1 : NoAttr K C "written") (n2 : NoAttr K C "level") : WrAt K H a b := by
  obtain ⟨dx, sp, wr, lv, np, st, ys, h1, h2, h3, h4, h5, h6, h7⟩ := h
  exact ⟨C, dx, _, wr, lv, h1, c, n1, n2, fof_written, fof_level, h5⟩
theorem FoN.ins {C : Addr} {H : Hp} {a : Addr} {n b : Nat} (h : FoN C H a n b) : ∃ dx fs, H a = some (.ins C dx fs) := by
  obtain ⟨dx, sp, wr, lv, np, st, ys, h1, _⟩ := h
  exact ⟨_, _, h1⟩
theorem fof_size {sp np : Addr} {n : Nat} {wr : Str} {lv : Int} : (fof sp n wr lv np).lookup ("size" : Str) = some (.int n) := by
  unfold fof
  rw [lookup_putF, if_neg (by decide +kernel), lookup_putF, if_neg (by decide +kernel), lookup_putF, if_neg (by decide +kernel), lookup_putF, if_pos rfl]
theorem fof_names {sp np : Addr} {n : Nat} {wr : Str} {lv : Int} : (fof sp n wr lv np).lookup ("_names" : Str) = some (.ref np) := by
  unfold fof
  rw [lookup_putF, if_pos rfl]
theorem new_fn {C p dx sp np : Addr} {wr : Str} {lv : Int} {st : List (Str × V)} {ys : List Str} {H H' : Hp} (h : H' p = some (.ins C dx (fof sp st.length wr lv np))) (hn : H' np = some (.tup (ys.map V.str))) (ly : ys.length ≤ st.length) (fr : ∀ b o, H b = some o → b ≠ p → H' b = some o)
    (S : StepsAt H sp st) (hp : H p = some (.ins C dx [])) (sok : ∀ s ∈ st, StepOk s) {n b : Nat} (ln : st.length ≤ n) (lb : wr.length ≤ b) : FoN C H' p n b := by
  obtain ⟨xs, h1, h2, h3⟩ := S.ex
  refine ⟨dx, sp, wr, lv, np, st, ys, h, ⟨xs, fr _ _ h1 (fun e => by rw [e, hp] at h1; cases h1), h2, fun i x s q1 q2 => ?_⟩, sok, ln, lb, hn, Nat.le_trans ly ln⟩
  have := h3 i x s q1 q2
  exact fr _ _ this fun e => by rw [e, hp] at this; cases this
def spNamedN (C : Addr) : Sp := fun vs H Q _ => ∃ z, vs = [.str z] ∧ nameB z = true ∧ ∀ a H', Ex H H' → FoN C H' a 1 6 → Q (.ref a) H'
def spTogetherN (C : Addr) : Sp := fun vs H Q _ => ∃ a1 n1 b1 a2 n2 b2, vs = [.ref a1, .str "+", .ref a2] ∧ FoN C H a1 n1 b1 ∧ FoN C H a2 n2 b2 ∧ b1 ≤ 500 ∧ b2 ≤ 500 ∧ n1 + n2 + 1 ≤ 60 ∧ ∀ a H', Ex H H' → FoN C H' a (n1 + n2 + 1) (b1 + b2 + 8) → Q (.ref a) H'
def spFoAddN (C : Addr) : Sp := fun vs H Q _ => ∃ a1 n1 b1 a2 n2 b2, vs = [.ref a1, .ref a2] ∧ FoN C H a1 n1 b1 ∧ FoN C H a2 n2 b2 ∧ b1 ≤ 500 ∧ b2 ≤ 500 ∧ n1 + n2 + 1 ≤ 60 ∧ ∀ a H', Ex H H' → FoN C H' a (n1 + n2 + 1) (b1 + b2 + 8) → Q (.ref a) H'
def spOperandN (C : Addr) : Sp := fun vs H Q _ => ∃ a n b, vs = [.ref a] ∧ FoN C H a n b ∧ Q (.ref a) H
def spProductN (C : Addr) : Sp := fun vs H Q _ => ∃ k : Int, ∃ a n b, vs = [.int k, .ref a] ∧ 1 ≤ k ∧ k ≤ 9 ∧ FoN C H a n b ∧ b ≤ 500 ∧ n + 1 ≤ 60 ∧ ∀ a' H', Ex H H' → FoN C H' a' (n + 1) (b + 8) → Q (.ref a') H'
def spRmulN (C : Addr) : Sp := fun vs H Q _ => ∃ k : Int, ∃ a n b, vs = [.ref a, .int k] ∧ 1 ≤ k ∧ k ≤ 9 ∧ FoN C H a n b ∧ b ≤ 500 ∧ n + 1 ≤ 60 ∧ ∀ a' H', Ex H H' → FoN C H' a' (n + 1) (b + 8) → Q (.ref a') H'
def spInvertN (C : Addr) : Sp := fun vs H Q _ => ∃ a n b, vs = [.ref a] ∧ FoN C H a n b ∧ b ≤ 500 ∧ n + 1 ≤ 60 ∧ ∀ a' H', Ex H H' → FoN C H' a' (n + 1) (b + 3) → Q (.ref a') H'
/-- one step more -/
theorem steps_snoc {H : Hp} {p1 t q : Addr} {st : List (Str × V)} {s : Str} {v : V} {xs : List Addr} (l1 : xs.length = st.length) (r1 : ∀ (i : Nat) (x : Addr) (s : Str × V), xs[i]? = some x → st[i]? = some s → H x = some (.tup [.str s.1, s.2])) (ht : H t = some (.tup [.str s, v]))
    (hq : H q = some (.tup (xs.map V.ref ++ [.ref t]))) : StepsAt H q (st ++ [(s, v)]) := by
  refine ⟨xs ++ [t], by rw [hq, List.map_append]; rfl, by simp [l1], fun i x y a b => ?_⟩
  by_cases i1 : i < xs.length
  · rw [List.getElem?_append_left i1] at a
    rw [List.getElem?_append_left (by omega)] at b
    exact r1 i x y a b
  · rw [List.getElem?_append_right (by omega)] at a
    rw [List.getElem?_append_right (by omega), ← l1] at b
    match i - xs.length, a, b with
    | 0, a, b => cases a; cases b; exact ht
    | j + 1, a, b => simp at a
end Tz
namespace Tz
open PySem PySem.Spec PyProof.Rows L2 TzF TzRepr
def spNamesF (C : Addr) : Sp := fun vs H Q _ => ∃ a np ys, vs = [.ref a] ∧ (∃ dx sp n wr, ∃ lv : Int, H a = some (.ins C dx (fof sp n wr lv np))) ∧ H np = some (.tup (List.map V.str ys)) ∧ Q (.ref np) H
end Tz
namespace TzDD
open PySem PySem.Spec PyProof.Rows L2
/-! ### {k: v for .. in .. for .. in ..} -/
abbrev two (kx vx t0 i0 t1 i1 : Expr) (f0 f1 : List Expr) (sc : Scope) (pos : Pos) : Expr := .DictComp kx vx [⟨t0, i0, f0, 0⟩, ⟨t1, i1, f1, 0⟩] sc pos
abbrev tst (fs : List Expr) (env : Env) : Sem Bool := forIn fs true fun c r => if r = true then (do let ok ← isTrue c env (eval c env); pure (ForInStep.yield ok)) else pure (ForInStep.yield r)
section
variable {kx vx t0 i0 t1 i1 : Expr} {f0 f1 : List Expr} {sc : Scope} {pos : Pos} {it acc : Value} {D : Addr} {env : Env}
theorem turn_out : compTurn (two kx vx t0 i0 t1 i1 f0 f1 sc pos) 0 it acc env = (do
    standAt i0.pos
    match ← pyNext it with
    | none => pure (.done .next)
    | some v =>
      letOwnedTupleGo t0 it v
      assign t0 env v
      let ok ← tst f0 env
      if ok then
        let x ← eval i1 env
        standAt i1.pos
        let y ← foldedSetIterable i1 env x
        let it1 ← holding [y] (pyIter y)
        let _ ← runOwn (.compStart (two kx vx t0 i0 t1 i1 f0 f1 sc pos) 1 it1 acc env) env
      again (.compLoop (two kx vx t0 i0 t1 i1 f0 f1 sc pos) 0 it acc env)) := by rfl
theorem turn_in : compTurn (two kx vx t0 i0 t1 i1 f0 f1 sc pos) 1 it (.ref D) env = (do
    standAt i1.pos
    match ← pyNext it with
    | none => pure (.done .next)
    | some v =>
      letOwnedTupleGo t1 it v
      assign t1 env v
      let ok ← tst f1 env
      if ok then
        (do
          let a ← eval kx env
          let b ← holding [a] (eval vx env)
          standAt { kx.pos with endLine := vx.pos.endLine, endCol := vx.pos.endCol }
          holding [a, b] (dictSet D a b))
      again (.compLoop (two kx vx t0 i0 t1 i1 f0 f1 sc pos) 1 it (.ref D) env)) := by rfl
end
section
variable {prog : Program} {w : World} {A : Around} {R : Result → Shared → Prop} {s : Shared} {kx vx t0 i0 t1 i1 : Expr} {f0 f1 : List Expr} {sc : Scope} {pos : Pos} {it acc : Value} {D : Addr} {env : Env}
abbrev NB (prog : Program) (w : World) (A : Around) (env : Env) (R : Result → Shared → Prop) := notedBy (model prog w) A env fun e s' => R (.error e) s'
/-- the loop of the outer for -/
theorem loop_out (hs : ∀ x, foldedSetIterable i1 env x = pure x) (I : Nat → Shared → Prop)
    (turn : ∀ n s, I n s → wpAny (model prog w) A (pyNext it) (fun r s1 => match r with
      | none => R (.ok .next) s1
      | some v => wpAny (model prog w) A (letOwnedTupleGo t0 it v) (fun _ s2 => wpAny (model prog w) A (assign t0 env v) (fun _ s3 => wpAny (model prog w) A (tst f0 env) (fun ok s4 =>
          if ok = true then wpAny (model prog w) A (eval i1 env) (fun x s5 => wpAny (model prog w) A (pyIter x) (fun it1 s6 => codeAny (model prog w) A (.compStart (two kx vx t0 i0 t1 i1 f0 f1 sc pos) 1 it1 acc env) (fun r s' => match r with
            | .ok _ => ∃ m, m < n ∧ I m s'
            | .error _ => False) s6) (NB prog w A env R) s5) (NB prog w A env R) s4
          else ∃ m, m < n ∧ I m s4) (NB prog w A env R) s3) (NB prog w A env R) s2) (NB prog w A env R) s1) (NB prog w A env R) s)
    (n : Nat) (h : I n s) : codeAny (model prog w) A (.compLoop (two kx vx t0 i0 t1 i1 f0 f1 sc pos) 0 it acc env) R s := by
  refine codeAny_loop rfl I (fun n s hI => ?_) n h
  show wpAny _ A ((compTurn (two kx vx t0 i0 t1 i1 f0 f1 sc pos) 0 it acc env).onRaise fun x => do noteFrame x env; theTreesLotGoes x) _ _ s
  refine wpAny_noted ?_
  rw [turn_out]
  refine wpAny_bind (wpAny_standAt (wpAny_bind (wpAny_mono (turn n s hI) (fun r s1 h1 => ?_) fun _ _ z => z)))
  cases r with
  | none => exact wpAny_pure h1
  | some v =>
    refine wpAny_bind (wpAny_mono h1 (fun _ s2 h2 => wpAny_bind (wpAny_mono h2 (fun _ s3 h3 => wpAny_bind (wpAny_mono h3 (fun ok s4 h4 => ?_) fun _ _ z => z)) fun _ _ z => z)) fun _ _ z => z)
    cases ok with
    | false => exact wpAny_pure ⟨rfl, h4⟩
    | true =>
      refine wpAny_bind (wpAny_mono h4 (fun x s5 h5 => wpAny_bind (wpAny_standAt (wpAny_bind (wpAny_of_eq (hs x) (wpAny_bind (wpAny_holding (wpAny_mono h5 (fun it1 s6 h6 => ?_) fun _ _ z => z))))))) fun _ _ z => z)
      refine wpAny_bind (wpAny_runOwn ?_)
      rw [Around.mark_none]
      refine codeAny_mono h6 fun r s' hr => ?_
      cases r with
      | error e => exact hr.elim
      | ok f => first | exact wpAny_pure ⟨rfl, hr⟩ | exact wpAny_bind (wpAny_pure (wpAny_pure ⟨rfl, hr⟩))
/-- the loop of the inner for -/
theorem loop_in (I : Nat → Shared → Prop)
    (turn : ∀ n s, I n s → wpAny (model prog w) A (pyNext it) (fun r s1 => match r with
      | none => R (.ok .next) s1
      | some v => wpAny (model prog w) A (letOwnedTupleGo t1 it v) (fun _ s2 => wpAny (model prog w) A (assign t1 env v) (fun _ s3 => wpAny (model prog w) A (tst f1 env) (fun ok s4 =>
          if ok = true then wpAny (model prog w) A (eval kx env) (fun a s5 => wpAny (model prog w) A (eval vx env) (fun b s6 => wpAny (model prog w) A (dictSet D a b) (fun _ s7 => ∃ m, m < n ∧ I m s7) (NB prog w A env R) s6) (NB prog w A env R) s5) (NB prog w A env R) s4
          else ∃ m, m < n ∧ I m s4) (NB prog w A env R) s3) (NB prog w A env R) s2) (NB prog w A env R) s1) (NB prog w A env R) s)
    (n : Nat) (h : I n s) : codeAny (model prog w) A (.compLoop (two kx vx t0 i0 t1 i1 f0 f1 sc pos) 1 it (.ref D) env) R s := by
  refine codeAny_loop rfl I (fun n s hI => ?_) n h
  show wpAny _ A ((compTurn (two kx vx t0 i0 t1 i1 f0 f1 sc pos) 1 it (.ref D) env).onRaise fun x => do noteFrame x env; theTreesLotGoes x) _ _ s
  refine wpAny_noted ?_
  rw [turn_in]
  refine wpAny_bind (wpAny_standAt (wpAny_bind (wpAny_mono (turn n s hI) (fun r s1 h1 => ?_) fun _ _ z => z)))
  cases r with
  | none => exact wpAny_pure h1
  | some v =>
    refine wpAny_bind (wpAny_mono h1 (fun _ s2 h2 => wpAny_bind (wpAny_mono h2 (fun _ s3 h3 => wpAny_bind (wpAny_mono h3 (fun ok s4 h4 => ?_) fun _ _ z => z)) fun _ _ z => z)) fun _ _ z => z)
    cases ok with
    | false => exact wpAny_pure ⟨rfl, h4⟩
    | true => exact wpAny_bind (wpAny_bind (wpAny_mono h4 (fun a s5 h5 => wpAny_bind (wpAny_holding (wpAny_mono h5 (fun b s6 h6 => wpAny_bind (wpAny_standAt (wpAny_holding (wpAny_mono h6 (fun _ s7 h7 => wpAny_pure ⟨rfl, h7⟩) fun _ _ z => z)))) fun _ _ z => z))) fun _ _ z => z))
/-- the start of the inner for -/
theorem start_in (h0 : codeAny (model prog w) A (.compLoop (two kx vx t0 i0 t1 i1 f0 f1 sc pos) 1 it acc env) R s)
    (h : wpAny (model prog w) A (pyIter it) (fun it' s' => codeAny (model prog w) A (.compLoop (two kx vx t0 i0 t1 i1 f0 f1 sc pos) 1 it' acc env) R s') (NB prog w A env R) s) : codeAny (model prog w) A (.compStart (two kx vx t0 i0 t1 i1 f0 f1 sc pos) 1 it acc env) R s := by
  refine codeAny_of_tree ?_
  show wpAny _ _ ((compStart (two kx vx t0 i0 t1 i1 f0 f1 sc pos) 1 it acc env).onRaise fun x => do noteFrame x env; standAt theWindowsPlace) _ _ s
  refine wpAny_notedAt ?_
  unfold compStart
  show wpAny _ _ (ask >>= _) _ _ s
  refine wpAny_bind (wpAny_askSetting (wpAny_ite ?_))
  split
  · first | exact wpAny_bind (wpAny_pure (wpAny_pure (And.intro rfl h0))) | exact wpAny_pure (And.intro rfl h0)
  · first | exact wpAny_bind (wpAny_rule (wpAny_bind (wpAny_standAt (wpAny_bind (wpAny_mono h (fun _ _ z => wpAny_pure (And.intro rfl z)) fun _ _ x => x))))) | (refine wpAny_bind (wpAny_rule ?_); show wpAny _ _ (standAt i1.pos >>= _) _ _ s; exact wpAny_bind (wpAny_standAt (wpAny_bind (wpAny_mono h (fun _ _ z => wpAny_pure (And.intro rfl z)) fun _ _ x => x))))
end
section
variable {X : Cx}
/-- the reading: behind the outer for's store and tests the inner source's own loop, from which Nx is reached; own: all names of the block, own1: those of the inner target -/
def tDc2 (wi : TI) (g : TG) (tt : TT) (wi1 : TI) (g1 : TG) (tt1 : TT) (tk tv : TE) (vs vs1 : List Nat) : TE := fun σ H Q => wi σ H fun J H1 => ∀ D, H1 D = none → ∃ W : Nat → Nat → Hp → Prop, (∃ m, W 0 m (upd H1 D (.dK []))) ∧ ∀ i m H, W i m H → (J.stop i H ∧ Q (.ref D) H) ∨
  (J.go i H ∧ ∃ Nx : Hp → Prop, (∀ H', Nx H' → ∃ m', m' < m ∧ W (i + 1) m' H') ∧ ∀ x H', J.yld i H x H' → g x (wipe σ vs) H' fun σ2 H2 => wipe σ2 vs = wipe σ vs ∧ tt σ2 H2 fun b H3 => if b = true then
    wi1 σ2 H3 fun J1 H4 => ∃ W1 : Nat → Nat → Hp → Prop, (∃ m, W1 0 m H4) ∧ ∀ j k H, W1 j k H → (J1.stop j H ∧ Nx H) ∨
      (J1.go j H ∧ ∃ Nx1 : Hp → Prop, (∀ H', Nx1 H' → ∃ k', k' < k ∧ W1 (j + 1) k' H') ∧ ∀ x H', J1.yld j H x H' → g1 x (wipe σ2 vs1) H' fun σ3 H5 => wipe σ3 vs1 = wipe σ2 vs1 ∧ tt1 σ3 H5 fun b H6 => if b = true then
        tk σ3 H6 fun y H7 => tv σ3 H7 fun u H8 => ∃ kvs k, y = kV k ∧ H8 D = some (.dK kvs) ∧ kvs.length < sizeLine ∧ Nx1 (upd H8 D (.dK (putK kvs k u))) else Nx1 H6) else Nx H3)
abbrev BlkG (X : Cx) (scope : Scope) (P : Cx → Prop) : Prop := ∀ (s : Shared) (H : Hp) (C : Addr) (cl : List (Str × Addr)) (fp : List Addr), P (X.blk s H scope (compEnvC scope cl C X.env) fp)
theorem dc2_core {pins : List (Addr × Obj)} {s : Shared} {σ : L2.St} {H : Hp} {Q : VK} {kx vx tg iter tg1 iter1 : Expr} {ifs ifs1 : List Expr} {scope : Scope} {own : List (Str × Nat)} {vs1 : List Nat} {pos pos' : Pos} {wi wi1 : TI} {g g1 : TG} {tt tt1 : TT} {tk tv : TE} {use : Option (Value → Sem Unit)} {Qf : Value → Shared → Prop}
    (hc : X.calm = true) (hN : X.N.Nodup) (I : L2.Inv X pins σ H s) (hi : PI X tg iter wi) (ok : BlkOk X.N X.env.scope scope own) (hv : ∀ i ∈ vs1, i ∈ own.map (·.2))
    (hg : BlkG X scope fun Y => PG Y tg g) (ht : BlkG X scope fun Y => PTs Y ifs tt) (hk : BlkG X scope fun Y => PE Y kx tk) (he : BlkG X scope fun Y => PE Y vx tv) (hs : ∀ x, foldedSetIterable iter X.env x = pure x)
    (hi1 : BlkG X scope fun Y => PI Y tg1 iter1 wi1) (hg1 : BlkG X scope fun Y => PG Y tg1 g1) (ht1 : BlkG X scope fun Y => PTs Y ifs1 tt1) (hs1 : ∀ env x, foldedSetIterable iter1 env x = pure x) (h : tDc2 wi g tt wi1 g1 tt1 tk tv (own.map (·.2)) vs1 σ H Q)
    (hR : ∀ D C s' m H', L2.Inv X pins σ H' s' → Q (.ref D) H' → s'.heap.Ns C m → FpOk X pins H' C → compPost (model X.prog X.w) X.A X.xe use Qf (.ref D) C (.ok .next) s') :
    wpAny (model X.prog X.w) X.A (comprehension (two kx vx tg iter tg1 iter1 ifs ifs1 scope pos) scope X.env pos' newDict false (eval iter X.env) use) Qf X.xe s := by
  have hf : ∀ y ∈ scope.names, y.2 = .free → ∃ c, X.env.cells.lookup y.1 = some c := fun y hy e => (ok.free y hy e).elim (fun k => I.ok.has _ (.inl k)) fun k => I.ok.has _ (.inr k)
  refine wpAny_comprehension_free (use := use) rfl hs (closure_ok hf) ok.kind (fun y hy e => by rw [ok.uniq y hy, e]) (thn (hi.run pins s σ H _ I h) fun _ s1 hx => thn hx fun _ s2 ⟨it, fp, tn, J, H2, e, I2, T, z2, f2, q⟩ => ?_)
  subst e
  refine wpAny_newObj_type (newEnv_comp ?_)
  generalize eD : s2.heap.objs.size = D
  obtain ⟨W, ⟨m0, w0⟩, turn⟩ := q D (I2.hok.fresh (Nat.le_of_eq eD))
  generalize e3 : ({ s2 with heap := s2.heap.push { cls := .type "dict", data := .dict #[] } } : Shared) = s3
  have h3 : s3.heap = s2.heap.push { cls := .type "dict", data := .dict #[] } := by rw [← e3]
  have I3 : L2.Inv X pins σ (upd H2 D (.dK [])) s3 := by
    subst e3
    refine I2.laid (t' := s2.toks) (fun b o z => Heap.get?_push_of_some _ z) (Nat.le_of_eq eD) ?_
    subst eD
    exact dk_empty s2.heap I2.big
  have f3 : ∀ b ∈ fp, FpOk X pins (upd H2 D (.dK [])) b ∧ b < s3.heap.objs.size := fun b hb => by
    obtain ⟨o, z, _⟩ := T.obj _ _ z2 b hb
    have lt := Heap.lt_size z
    exact ⟨⟨by rw [upd_ne (by rw [← eD]; exact Nat.ne_of_lt lt)]; exact (f2 b hb).1, (f2 b hb).2⟩, by rw [h3, Heap.size_push]; exact Nat.lt_succ_of_lt lt⟩
  have z3 : tn 0 s3.heap := T.keep _ _ _ z2 fun b _ o z => by rw [h3]; exact Heap.get?_push_of_some _ z
  have I4 := block_start I3 ok hN f3
  show codeAny _ _ (.compStart (two kx vx tg iter tg1 iter1 ifs ifs1 scope pos) 0 (.ref it) (.ref D) (compEnvC scope (cellsFrom (s3.heap.objs.size + 1) scope.names (cloFrom X.env.cells scope.names [])) s3.heap.objs.size X.env)) (compPost _ _ _ use Qf (.ref D) s3.heap.objs.size) { s3 with heap := pushCells (s3.heap.push { cls := .type "dict", data := .dict #[] }) scope.names }
  have hfp : ∀ {H' : Hp}, H' s3.heap.objs.size = none → FpOk X pins H' s3.heap.objs.size := fun {H'} z => I3.fpOk (Nat.le_refl _) z
  generalize eC : s3.heap.objs.size = C at I4 f3 hfp ⊢
  generalize ecl : cellsFrom (C + 1) scope.names (cloFrom X.env.cells scope.names []) = cl at I4 ⊢
  have pg := hg s3 (upd H2 D (.dK [])) C cl fp
  have pt := ht s3 (upd H2 D (.dK [])) C cl fp
  have pk := hk s3 (upd H2 D (.dK [])) C cl fp
  have pe := he s3 (upd H2 D (.dK [])) C cl fp
  have pi1 := hi1 s3 (upd H2 D (.dK [])) C cl fp
  have pg1 := hg1 s3 (upd H2 D (.dK [])) C cl fp
  have pt1 := ht1 s3 (upd H2 D (.dK [])) C cl fp
  have nfp : ∀ b ∈ fp, (upd H2 D (.dK [])) b = none := fun b hb => (f3 b hb).1.1
  have cL : (compEnvC scope cl C X.env).locals = C := rfl
  generalize ece : compEnvC scope cl C X.env = ce at I4 pg pt pk pe pi1 pg1 pt1 cL ⊢
  generalize eH3 : upd H2 D (.dK []) = H3 at I3 I4 pg pt pk pe pi1 pg1 pt1 w0 nfp f3
  generalize e4 : ({ s3 with heap := pushCells (s3.heap.push { cls := .type "dict", data := .dict #[] }) scope.names } : Shared) = s4 at I4 ⊢
  have z4 : tn 0 s4.heap := T.keep _ _ _ z3 fun b _ o z => by rw [← e4]; exact pushCells_keeps _ _ _ _ (Heap.get?_push_of_some _ z)
  have stat : ∀ {σ' : L2.St} {H' : Hp} {s' : Shared}, L2.Inv (X.blk s3 H3 scope ce fp) [] σ' H' s' → (∀ b ∈ fp, H' b = none) → ∀ b ∈ fp, FpOk (X.blk s3 H3 scope ce fp) [] H' b := fun {σ' H' s'} J' hn b hb =>
    have ef := J'.ok.exf b hb
    ⟨hn b hb, ef.1, J'.ok.exfs b hb, .inl hb, fun x c e => ef.2 x c e, fun p hp => absurd (show p ∈ ([] : List (Addr × Obj)) ++ [] from hp) (by simp)⟩
  have loop : codeAny (model X.prog X.w) X.A (.compLoop (two kx vx tg iter tg1 iter1 ifs ifs1 scope pos) 0 (.ref it) (.ref D) ce) (compPost (model X.prog X.w) X.A X.xe use Qf (.ref D) C) s4 := by
    refine loop_out (hs1 ce) (fun n s' => ∃ i H', L2.Inv (X.blk s3 H3 scope ce fp) [] (wipe σ (own.map (·.2))) H' s' ∧ tn i s'.heap ∧ (∀ b ∈ fp, H' b = none) ∧ W i n H') ?_ m0 ⟨0, H3, I4, z4, nfp, w0⟩
    rintro n s5 ⟨i, H5, I5, z5, n5, w5⟩
    rcases turn i n H5 w5 with ⟨stop, qq⟩ | ⟨go, Nx, hNx, step⟩
    · refine thnF (T.done (X.blk s3 H3 scope ce fp) rfl rfl rfl hc i [] s5 _ H5 (fun _ _ => False) I5 (stat I5 n5) z5 stop) fun r s6 ⟨hr, I6⟩ => ?_
      subst hr
      have I7 : L2.Inv X pins σ H5 s6 := I3.call' (ch := fp) I6.os I6.base I6.hok I6.bare fun b hb => ⟨(f3 b hb).1.2.2.2.1, (f3 b hb).1.2.1, (f3 b hb).1.2.2.2.2.1, (f3 b hb).1.2.2.2.2.2⟩
      have nC : H5 C = none := cL ▸ (show H5 ce.locals = none from I6.free)
      obtain ⟨m, hn, _⟩ := I6.loc
      exact hR D C s6 m H5 I7 qq (cL ▸ (show s6.heap.Ns ce.locals m from hn)) (hfp nC)
    · refine thnF (T.item (X.blk s3 H3 scope ce fp) rfl rfl rfl hc i [] s5 _ H5 (fun _ _ => False) I5 (stat I5 n5) z5 go) fun r s6 ⟨u, hr, h6⟩ => ?_
      subst hr
      refine thnF h6 fun _ s7 ⟨x, H7, I7, r7, y7, z7, n7⟩ => ?_
      refine thnF (pg.run _ s7 _ H7 x u _ (I7.pinned (stat I7 n7) (T.obj _ _ z7)) r7 (step x H7 y7)) fun _ s8 ⟨σ8, H8, I8, hw8, q8⟩ => ?_
      refine thnF (pt.run _ s8 σ8 H8 _ I8 q8) fun b s9 ⟨H9, I9, q9⟩ => ?_
      have fin : ∀ {σ9 : L2.St} {s' : Shared} {H' : Hp}, L2.Inv (X.blk s3 H3 scope ce fp) ([] ++ pinsAt fp s7.heap) σ9 H' s' → (wipe σ (own.map (·.2))).length = σ9.length → (∀ (j : Nat) v, (wipe σ (own.map (·.2)))[j]? = some (some v) → σ9[j]? = some (some v)) → Nx H' →
          ∃ m, m < n ∧ ∃ i H', L2.Inv (X.blk s3 H3 scope ce fp) [] (wipe σ (own.map (·.2))) H' s' ∧ tn i s'.heap ∧ (∀ b ∈ fp, H' b = none) ∧ W i m H' := fun {σ9 s' H'} J' hl hk nx => by
        obtain ⟨m', hm, w'⟩ := hNx H' nx
        have pin : ∀ b ∈ fp, ∀ o, s7.heap.get? b = some o → s'.heap.get? b = some o ∧ H' b = none := fun b hb o z => (J'.pin (b, o) (List.mem_append_right _ (List.mem_append_right _ (mem_pinsAt hb z)))).imp id fun q => q.1
        exact ⟨m', hm, i + 1, H', (J'.unpinned (pins := [])).weak hl hk, T.keep _ _ _ z7 fun b hb o z => (pin b hb o z).1, fun b hb => (T.obj _ _ z7 b hb).elim fun o z => (pin b hb o z.1).2, w'⟩
      have hl8 : (wipe σ (own.map (·.2))).length = σ8.length := by rw [← hw8, wipe_length]
      have hk8 : ∀ (j : Nat) v, (wipe σ (own.map (·.2)))[j]? = some (some v) → σ8[j]? = some (some v) := fun j v z => (wipe_some (by rw [hw8]; exact z)).1
      have hk9 : ∀ (j : Nat) v, (wipe σ (own.map (·.2)))[j]? = some (some v) → (wipe σ8 vs1)[j]? = some (some v) := fun j v z => by
        have ws := wipe_some (show (wipe σ8 (own.map (·.2)))[j]? = some (some v) by rw [hw8]; exact z)
        rw [wipe_out fun q => ws.2 (hv j q)]
        exact ws.1
      cases b with
      | false => exact fin I9 hl8 hk8 (by simpa using q9)
      | true =>
        simp only [if_true] at q9 ⊢
        refine thnF (pi1.run _ s9 σ8 H9 _ I9 q9) fun _ s10 hx => thnF hx fun _ s11 ⟨it1, fp1, tn1, J1, H11, e11, I11, T1, z11, f11, W1, ⟨m1, w1⟩, turn1⟩ => ?_
        subst e11
        have stat1 : ∀ {H' : Hp}, (∀ b ∈ fp1, H' b = none) → ∀ b ∈ fp1, FpOk (X.blk s3 H3 scope ce fp) ([] ++ pinsAt fp s7.heap) H' b := fun hn b hb => ⟨hn b hb, (f11 b hb).2⟩
        refine (fun lp => start_in lp (T1.self X.A 0 _ _ _ z11 lp)) (loop_in (fun k s' => ∃ j H', L2.Inv (X.blk s3 H3 scope ce fp) ([] ++ pinsAt fp s7.heap) (wipe σ8 vs1) H' s' ∧ tn1 j s'.heap ∧ (∀ b ∈ fp1, H' b = none) ∧ W1 j k H') ?_ m1
          ⟨0, H11, I11.weak (wipe_length _ _) (fun j v z => (wipe_some z).1), z11, fun b hb => (f11 b hb).1, w1⟩)
        rintro k s12 ⟨j, H12, I12, z12, n12, w12⟩
        rcases turn1 j k H12 w12 with ⟨stop1, nx1⟩ | ⟨go1, Nx1, hNx1, step1⟩
        · refine thnF (T1.done (X.blk s3 H3 scope ce fp) rfl rfl rfl hc j _ s12 (wipe σ8 vs1) H12 (fun _ _ => False) I12 (stat1 n12) z12 stop1) fun r s13 ⟨hr, I13⟩ => ?_
          subst hr
          exact fin I13 (hl8.trans (wipe_length σ8 vs1).symm) hk9 nx1
        · refine thnF (T1.item (X.blk s3 H3 scope ce fp) rfl rfl rfl hc j _ s12 (wipe σ8 vs1) H12 (fun _ _ => False) I12 (stat1 n12) z12 go1) fun r s13 ⟨u1, hr, h13⟩ => ?_
          subst hr
          refine thnF h13 fun _ s14 ⟨x1, H14, I14, r14, y14, z14, n14⟩ => ?_
          refine thnF (pg1.run _ s14 (wipe σ8 vs1) H14 x1 u1 _ (I14.pinned (stat1 n14) (T1.obj _ _ z14)) r14 (step1 x1 H14 y14)) fun _ s15 ⟨σ15, H15, I15, hw15, q15⟩ => ?_
          refine thnF (pt1.run _ s15 σ15 H15 _ I15 q15) fun b1 s16 ⟨H16, I16, q16⟩ => ?_
          have fin1 : ∀ {s' : Shared} {H' : Hp}, L2.Inv (X.blk s3 H3 scope ce fp) (([] ++ pinsAt fp s7.heap) ++ pinsAt fp1 s14.heap) σ15 H' s' → Nx1 H' →
              ∃ m, m < k ∧ ∃ j H', L2.Inv (X.blk s3 H3 scope ce fp) ([] ++ pinsAt fp s7.heap) (wipe σ8 vs1) H' s' ∧ tn1 j s'.heap ∧ (∀ b ∈ fp1, H' b = none) ∧ W1 j m H' := fun {s' H'} J' nx => by
            obtain ⟨m', hm, w'⟩ := hNx1 H' nx
            have pin : ∀ b ∈ fp1, ∀ o, s14.heap.get? b = some o → s'.heap.get? b = some o ∧ H' b = none := fun b hb o z => (J'.pin (b, o) (List.mem_append_right _ (List.mem_append_right _ (mem_pinsAt hb z)))).imp id fun q => q.1
            exact ⟨m', hm, j + 1, H', J'.unpinned.weak (by rw [← hw15, wipe_length]) (fun j v z => (wipe_some (by rw [hw15]; exact z)).1), T1.keep _ _ _ z14 fun b hb o z => (pin b hb o z).1, fun b hb => (T1.obj _ _ z14 b hb).elim fun o z => (pin b hb o z.1).2, w'⟩
          cases b1 with
          | false => exact fin1 I16 (by simpa using q16)
          | true =>
            simp only [if_true] at q16 ⊢
            refine thnF (pk.run _ s16 σ15 H16 _ I16 q16) fun _ s17 ⟨yk, H17, I17, r17, q17⟩ => ?_
            refine thnF (pe.run _ s17 σ15 H17 _ I17 q17) fun _ s18 ⟨yv, H18, I18, r18, kvs, kk, ek, hD18, hz18, nx⟩ => ?_
            subst ek
            exact d_dictSet (X := X.blk s3 H3 scope ce fp) I18 hD18 hz18 r17 r18 fun s19 I19 => fin1 I19 nx
  exact codeAny_compStart_dict loop (T.self X.A 0 _ _ _ z4 loop)
theorem pe_dc2 {kx vx tg iter tg1 iter1 : Expr} {ifs ifs1 : List Expr} {scope : Scope} {own : List (Str × Nat)} {vs1 : List Nat} {pos : Pos} {wi wi1 : TI} {g g1 : TG} {tt tt1 : TT} {tk tv : TE}
    (hc : X.calm = true) (hN : X.N.Nodup) (hi : PI X tg iter wi) (ok : BlkOk X.N X.env.scope scope own) (hv : ∀ i ∈ vs1, i ∈ own.map (·.2)) (hg : BlkG X scope fun Y => PG Y tg g) (ht : BlkG X scope fun Y => PTs Y ifs tt)
    (hi1 : BlkG X scope fun Y => PI Y tg1 iter1 wi1) (hg1 : BlkG X scope fun Y => PG Y tg1 g1) (ht1 : BlkG X scope fun Y => PTs Y ifs1 tt1) (hk : BlkG X scope fun Y => PE Y kx tk) (he : BlkG X scope fun Y => PE Y vx tv)
    (hs : ∀ x, foldedSetIterable iter X.env x = pure x := by intro _; rfl) (hs1 : ∀ env x, foldedSetIterable iter1 env x = pure x := by intro _ _; rfl) : PE X (two kx vx tg iter tg1 iter1 ifs ifs1 scope pos) (tDc2 wi g tt wi1 g1 tt1 tk tv (own.map (·.2)) vs1) := by
  refine ⟨fun pins s σ H Q I h => ?_⟩
  rw [show eval (two kx vx tg iter tg1 iter1 ifs ifs1 scope pos) X.env = _ from arm_eval_DictComp ..]
  refine dc2_core hc hN I hi ok hv hg ht hk he hs hi1 hg1 ht1 hs1 h fun D C s' m H' J q hn f => ⟨m, hn, fun h2 sb => ?_⟩
  obtain ⟨f0, f1, _, f3, f4, f5⟩ := f
  exact ⟨.ref D, H', J.turned (t' := s'.toks) (fun b o hb e => (sb.2 b hb).trans e) f0 f1 f3 f4 f5, rfl, q⟩
/-- given to a local name -/
theorem ps_setDc2 {i : Nat} {y : Str} {py : Pos} {kx vx tg iter tg1 iter1 : Expr} {ifs ifs1 : List Expr} {scope : Scope} {own : List (Str × Nat)} {vs1 : List Nat} {pos spos : Pos} {wi wi1 : TI} {g g1 : TG} {tt tt1 : TT} {tk tv : TE}
    (hc : X.calm = true) (hN : X.N.Nodup) (hy : X.N[i]? = some y) (hyl : X.env.scope.names.lookup y = some NameKind.local) (hsw : swapsWith (two kx vx tg iter tg1 iter1 ifs ifs1 scope pos) (some (.Name y py)) spos.line X.env = pure true)
    (hi : PI X tg iter wi) (ok : BlkOk X.N X.env.scope scope own) (hv : ∀ i ∈ vs1, i ∈ own.map (·.2)) (hg : BlkG X scope fun Y => PG Y tg g) (ht : BlkG X scope fun Y => PTs Y ifs tt)
    (hi1 : BlkG X scope fun Y => PI Y tg1 iter1 wi1) (hg1 : BlkG X scope fun Y => PG Y tg1 g1) (ht1 : BlkG X scope fun Y => PTs Y ifs1 tt1) (hk : BlkG X scope fun Y => PE Y kx tk) (he : BlkG X scope fun Y => PE Y vx tv)
    (hs : ∀ x, foldedSetIterable iter X.env x = pure x := by intro _; rfl) (hs1 : ∀ env x, foldedSetIterable iter1 env x = pure x := by intro _ _; rfl) :
    PS X (.Assign [.Name y py] (two kx vx tg iter tg1 iter1 ifs ifs1 scope pos) spos) (tAsg (tDc2 wi g tt wi1 g1 tt1 tk tv (own.map (·.2)) vs1) (gName i)) := by
  refine ⟨fun pins s σ H D I h => ?_⟩
  rw [exec_Assign_Name_used y py (two kx vx tg iter tg1 iter1 ifs ifs1 scope pos) spos hsw]
  refine wpAny_bind (wpAny_standAt (wpAny_bind ?_))
  refine wpAny_bind (thn (dc2_core hc hN I hi ok hv hg ht hk he hs hi1 hg1 ht1 hs1 h fun L C s' m H' J q hn f => ?_) fun _ s' hq => wpAny_pure (wpAny_pure hq))
  obtain ⟨f0, f1, _, f3, f4, f5⟩ := f
  refine wpAny_assign_Name (store_ok2 J hN hy (Or.inl hyl) (show L2.RelV (V.ref L) (Value.ref L) from rfl) (fun s2 I2 ⟨a, sb, ha⟩ => ?_) (Or.inr hyl))
  have hC : C ≠ a := ha.elim (fun z => by rw [z]; exact f1) fun z e => f4 y a z e.symm
  exact ⟨m, Heap.Ns.sameBut hn sb hC, fun h3 sb3 => ⟨_, H', L2.Inv.turned I2 (fun b o hb e => (sb3.2 b hb).trans e) f0 f1 f3 f4 f5, q⟩⟩
end
end TzDD
namespace Tz
open PySem PySem.Spec PyProof.Rows L2 TzF TzRepr
/-- the turns of a walk, whatever is done in them -/
theorem it_gen {J : It} {n : Nat} {G : Hp → Prop} {Y : Nat → Hp → V → Hp → Prop} (w : Walk J n G Y) {B : V → Hp → (Hp → Prop) → Prop} {H0 : Hp} {Qd : Hp → Prop} (Pv : Nat → Hp → Prop) (h0 : Pv 0 H0) (hG : ∀ i H, i ≤ n → Pv i H → G H)
    (hs : ∀ i x H H', i < n → Pv i H → Y i H x H' → B x H' (Pv (i + 1))) (hd : ∀ H, Pv n H → Qd H) :
    ∃ W : Nat → Nat → Hp → Prop, (∃ m, W 0 m H0) ∧ ∀ i m H, W i m H → (J.stop i H ∧ Qd H) ∨ (J.go i H ∧ ∃ Nx : Hp → Prop, (∀ H', Nx H' → ∃ m', m' < m ∧ W (i + 1) m' H') ∧ ∀ x H', J.yld i H x H' → B x H' Nx) := by
  refine ⟨fun i m H => i ≤ n ∧ m = n - i ∧ Pv i H, ⟨n, Nat.zero_le _, rfl, h0⟩, ?_⟩
  rintro i m H ⟨hi, rfl, p⟩
  by_cases e : i = n
  · subst e
    exact .inl ⟨w.stops H (hG _ _ hi p), hd H p⟩
  · have l : i < n := by omega
    exact .inr ⟨w.goes i H l (hG _ _ hi p), Pv (i + 1), fun H' p' => ⟨n - (i + 1), by omega, by omega, rfl, p'⟩, fun x H' y => hs i x H H' l p (w.yields i H x H' l (hG _ _ hi p) y)⟩
/-! ### sayings -/
/-- a step of a saying: its sign, its formulas, each with a bound of its size -/
abbrev SStep : Type := Str × List (Addr × Nat)
def allF (st : List SStep) : List (Addr × Nat) := (st.map Prod.snd).flatten
def wgt (st : List SStep) : Nat := st.length + ((allF st).map Prod.snd).sum
structure SStepsAt (F : Addr) (H : Hp) (p : Addr) (st : List SStep) : Prop where
  ex : ∃ xs : List Addr, H p = some (.tup (xs.map V.ref)) ∧ xs.length = st.length ∧ ∀ (i : Nat) (x : Addr) (s : SStep), xs[i]? = some x → st[i]? = some s → ∃ pp, H x = some (.tup [.str s.1, .ref pp]) ∧ H pp = some (.tup (s.2.map fun f => V.ref f.1)) ∧ ∀ f ∈ s.2, FoN F H f.1 f.2 500 ∧ 1 ≤ f.2
theorem SStepsAt.ext {F : Addr} {H H' : Hp} {p : Addr} {st : List SStep} (h : SStepsAt F H p st) (e : Ex H H') : SStepsAt F H' p st := by
  obtain ⟨xs, a, l, r⟩ := h.ex
  refine ⟨xs, e _ _ a, l, fun i x s h1 h2 => ?_⟩
  obtain ⟨pp, q1, q2, q3⟩ := r i x s h1 h2
  exact ⟨pp, e _ _ q1, e _ _ q2, fun f hf => ⟨(q3 f hf).1.ex e, (q3 f hf).2⟩⟩
def sof (sp : Addr) (n : Int) (wr : Str) (lv : Int) (np : Addr) : List (Str × V) := putF "_names" (.ref np) (putF "level" (.int lv) (putF "written" (.str wr) (putF "steps" (.ref sp) (putF "size" (.int n) []))))
def spSayInit (C F : Addr) : Sp := fun vs H Q _ => ∃ p dx sp wr, ∃ lv : Int, ∃ st, vs = [.ref p, .ref sp, .str wr, .int lv] ∧ H p = some (.ins C dx []) ∧ SStepsAt F H sp st ∧ wgt st ≤ 60 ∧
  ∀ np n H', H' p = some (.ins C dx (sof sp n wr lv np)) → (∀ b o, H b = some o → b ≠ p → H' b = some o) → Q .non H'
def SayAt (C F : Addr) (H : Hp) (a : Addr) (n b : Nat) : Prop := ∃ dx sp m wr, ∃ lv : Int, ∃ np st, H a = some (.ins C dx (sof sp m wr lv np)) ∧ SStepsAt F H sp st ∧ wgt st ≤ n ∧ wr.length ≤ b
theorem SayAt.ex {C F : Addr} {H H' : Hp} {a : Addr} {n b : Nat} (h : SayAt C F H a n b) (e : Ex H H') : SayAt C F H' a n b := by
  obtain ⟨dx, sp, m, wr, lv, np, st, h1, h2, h3, h4⟩ := h
  exact ⟨dx, sp, m, wr, lv, np, st, e _ _ h1, h2.ext e, h3, h4⟩
section
variable {sp np : Addr} {n : Int} {wr : Str} {lv : Int}
theorem sof_steps : (sof sp n wr lv np).lookup ("steps" : Str) = some (.ref sp) := by
  unfold sof
  rw [lookup_putF, if_neg (by decide +kernel), lookup_putF, if_neg (by decide +kernel), lookup_putF, if_neg (by decide +kernel), lookup_putF, if_pos rfl]
theorem sof_written : (sof sp n wr lv np).lookup ("written" : Str) = some (.str wr) := by
  unfold sof
  rw [lookup_putF, if_neg (by decide +kernel), lookup_putF, if_neg (by decide +kernel), lookup_putF, if_pos rfl]
theorem sof_level : (sof sp n wr lv np).lookup ("level" : Str) = some (.int lv) := by
  unfold sof
  rw [lookup_putF, if_neg (by decide +kernel), lookup_putF, if_pos rfl]
end
theorem SayAt.wr {K : PySem.W.Frag} {C F : Addr} {H : Hp} {a : Addr} {n b : Nat} (h : SayAt C F H a n b) (c : Cls K C) (n1 : NoAttr K C "written") (n2 : NoAttr K C "level") : WrAt K H a b := by
  obtain ⟨dx, sp, m, wr, lv, np, st, h1, h2, h3, h4⟩ := h
  exact ⟨C, dx, _, wr, lv, h1, c, n1, n2, sof_written, sof_level, h4⟩
theorem ones_le : ∀ {fs : List (Addr × Nat)}, (∀ f ∈ fs, 1 ≤ f.2) → fs.length ≤ (fs.map Prod.snd).sum
  | [], _ => Nat.zero_le _
  | f :: fs, h => by
    have h1 := h f List.mem_cons_self
    have h2 := ones_le fun g hg => h g (List.mem_cons_of_mem _ hg)
    rw [List.map_cons, List.sum_cons, List.length_cons]
    omega
/-- the formulas' sizes -/
theorem fo_sizes {F : Addr} {H : Hp} : ∀ {fs : List (Addr × Nat)}, (∀ f ∈ fs, FoN F H f.1 f.2 500) → ∃ ns : List Nat, ns.length = fs.length ∧ (∀ (j : Nat) f, fs[j]? = some f → ∃ dx sp wr, ∃ lv : Int, ∃ np, H f.1 = some (.ins F dx (fof sp (ns.getD j 0) wr lv np))) ∧ ns.sum ≤ (fs.map Prod.snd).sum
  | [], _ => ⟨[], rfl, fun j f h => by simp at h, Nat.le_refl _⟩
  | f :: fs, h => by
    obtain ⟨ns, l, g, s⟩ := fo_sizes fun x hx => h x (List.mem_cons_of_mem _ hx)
    obtain ⟨dx, sp, wr, lv, np, st, ys, h1, h2, h3, h4, _⟩ := h f List.mem_cons_self
    refine ⟨st.length :: ns, by simp [l], fun j x hx => ?_, by rw [List.map_cons, List.sum_cons, List.sum_cons]; omega⟩
    match j, hx with
    | 0, hx => cases hx; exact ⟨dx, sp, wr, lv, np, h1⟩
    | j + 1, hx => exact g j x hx
theorem allF_mem {st : List SStep} {s : SStep} {f : Addr × Nat} (hs : s ∈ st) (hf : f ∈ s.2) : f ∈ allF st := List.mem_flatten.mpr ⟨s.2, List.mem_map.mpr ⟨s, hs, rfl⟩, hf⟩
theorem of_allF {st : List SStep} {f : Addr × Nat} (h : f ∈ allF st) : ∃ s ∈ st, f ∈ s.2 := by
  obtain ⟨l, hl, hf⟩ := List.mem_flatten.mp h
  obtain ⟨s, hs, rfl⟩ := List.mem_map.mp hl
  exact ⟨s, hs, hf⟩
theorem SStepsAt.all {F : Addr} {H : Hp} {p : Addr} {st : List SStep} (h : SStepsAt F H p st) : ∀ f ∈ allF st, FoN F H f.1 f.2 500 ∧ 1 ≤ f.2 := fun f hf => by
  obtain ⟨xs, a, l, r⟩ := h.ex
  obtain ⟨s, hs, q⟩ := of_allF hf
  obtain ⟨i, hi, rfl⟩ := List.mem_iff_getElem.mp hs
  obtain ⟨pp, q1, q2, q3⟩ := r i xs[i] st[i] (List.getElem?_eq_getElem (by omega)) (List.getElem?_eq_getElem hi)
  exact q3 f q
theorem allF_take {st : List SStep} {i : Nat} {s : SStep} (h : st[i]? = some s) : allF (st.take (i + 1)) = allF (st.take i) ++ s.2 := by
  unfold allF
  rw [List.take_add_one, h, List.map_append, List.flatten_append]
  show _ ++ (List.map Prod.snd [s]).flatten = _
  simp
theorem allF_le {st : List SStep} {i : Nat} : (allF (st.take i)).length ≤ (allF st).length := by
  have : allF st = allF (st.take i) ++ allF (st.drop i) := by
    unfold allF
    rw [← List.flatten_append, ← List.map_append, List.take_append_drop]
  rw [this, List.length_append]
  omega
theorem cells_nats {ns : List Nat} {n : Nat} (e : ns.length = n) : cells n (fun i => V.int ((ns.getD i 0 : Nat) : Int)) = (ns.map fun x : Nat => (x : Int)).map V.int := by
  subst e
  refine List.ext_getElem (by rw [cells_len, List.length_map, List.length_map]) fun i h1 h2 => ?_
  rw [List.length_map, List.length_map] at h2
  refine Option.some.inj ?_
  rw [← List.getElem?_eq_getElem h1, cells_get h2, List.getElem_map, List.getElem_map, List.getD_eq_getElem?_getD, List.getElem?_eq_getElem h2]
  rfl
theorem sum_nats : ∀ {ns : List Nat}, (ns.map fun x : Nat => (x : Int)).sum = (ns.sum : Nat)
  | [] => rfl
  | n :: ns => by
    rw [List.map_cons, List.sum_cons, List.sum_cons, sum_nats]
    omega
theorem allF_sum {st : List SStep} {i : Nat} {s : SStep} (h : st[i]? = some s) : ((allF (st.take (i + 1))).map Prod.snd).sum = ((allF (st.take i)).map Prod.snd).sum + (s.2.map Prod.snd).sum := by
  rw [allF_take h, List.map_append, List.sum_append]
theorem take_sum_le {fs : List (Addr × Nat)} {i : Nat} : ((fs.take i).map Prod.snd).sum ≤ (fs.map Prod.snd).sum := by
  have : (fs.map Prod.snd).sum = ((fs.take i).map Prod.snd).sum + ((fs.drop i).map Prod.snd).sum := by
    rw [← List.sum_append, ← List.map_append, List.take_append_drop]
  omega
end Tz
namespace Tz
open PySem PySem.Spec PyProof.Rows L2 TzF TzRepr
def spFoStr (F : Addr) : Sp := fun vs H Q _ => ∃ a n b, vs = [.ref a] ∧ FoN F H a n b ∧ ∀ z : Str, z.length ≤ b → Q (.str z) H
def spJoinedS (C F : Addr) : Sp := fun vs H Q _ => ∃ a1 n1 b1 a2 n2 b2, vs = [.ref a1, .str "&", .ref a2] ∧ SayAt C F H a1 n1 b1 ∧ SayAt C F H a2 n2 b2 ∧ b1 ≤ 2000 ∧ b2 ≤ 2000 ∧ n1 + n2 + 1 ≤ 60 ∧ ∀ a H', Ex H H' → SayAt C F H' a (n1 + n2 + 1) (b1 + b2 + 8) → Q (.ref a) H'
def spAndS (C F : Addr) : Sp := fun vs H Q _ => ∃ a1 n1 b1 a2 n2 b2, vs = [.ref a1, .ref a2] ∧ SayAt C F H a1 n1 b1 ∧ SayAt C F H a2 n2 b2 ∧ b1 ≤ 2000 ∧ b2 ≤ 2000 ∧ n1 + n2 + 1 ≤ 60 ∧ ∀ a H', Ex H H' → SayAt C F H' a (n1 + n2 + 1) (b1 + b2 + 8) → Q (.ref a) H'
def spSimple (C F : Addr) : Sp := fun vs H Q _ => ∃ (w : Str) (pp : Addr) (fs : List (Addr × Nat)), vs = [.str w, .ref pp] ∧ w.length ≤ 10 ∧ H pp = some (.tup (fs.map fun f => V.ref f.1)) ∧ fs ≠ [] ∧ fs.length ≤ 2 ∧ (∀ f ∈ fs, FoN F H f.1 f.2 500 ∧ 1 ≤ f.2) ∧ 1 + (fs.map Prod.snd).sum ≤ 60 ∧ ∀ a H', Ex H H' → SayAt C F H' a (1 + (fs.map Prod.snd).sum) 1100 → Q (.ref a) H'
theorem SayAt.ins {C F : Addr} {H : Hp} {a : Addr} {n b : Nat} (h : SayAt C F H a n b) : ∃ dx fs, H a = some (.ins C dx fs) := by
  obtain ⟨dx, sp, m, wr, lv, np, st, h1, _⟩ := h
  exact ⟨_, _, h1⟩
theorem new_say {C F p dx sp np : Addr} {m : Int} {wr : Str} {lv : Int} {st : List SStep} {H H' : Hp} (h : H' p = some (.ins C dx (sof sp m wr lv np))) (fr : ∀ b o, H b = some o → b ≠ p → H' b = some o) (S : SStepsAt F H sp st) (hp : H p = some (.ins C dx [])) {n b : Nat} (ln : wgt st ≤ n) (lb : wr.length ≤ b) : SayAt C F H' p n b := by
  obtain ⟨xs, h1, h2, h3⟩ := S.ex
  have tup : ∀ {c : Addr} {ys : List V}, H c = some (.tup ys) → H' c = some (.tup ys) := fun {c ys} q => fr _ _ q fun e => by rw [e, hp] at q; cases q
  refine ⟨dx, sp, m, wr, lv, np, st, h, ⟨xs, tup h1, h2, fun i x s q1 q2 => ?_⟩, ln, lb⟩
  obtain ⟨pp, r1, r2, r3⟩ := h3 i x s q1 q2
  refine ⟨pp, tup r1, tup r2, fun f hf => ⟨?_, (r3 f hf).2⟩⟩
  obtain ⟨fdx, fsp, fwr, flv, fnp, fst, ys, q1, ⟨⟨fxs, s1, s2, s3⟩⟩, q3, q4, q5, q6, q7⟩ := (r3 f hf).1
  refine ⟨fdx, fsp, fwr, flv, fnp, fst, ys, fr _ _ q1 (fun e => ?_), ⟨⟨fxs, tup s1, s2, fun i x s a b => tup (s3 i x s a b)⟩⟩, q3, q4, q5, tup q6, q7⟩
  rw [e, hp] at q1
  injection q1 with q1
  injection q1 with _ _ z
  have z2 := fof_size (sp := fsp) (np := fnp) (n := fst.length) (wr := fwr) (lv := flv)
  rw [← z] at z2
  cases z2
theorem wgt_app {a b : List SStep} : wgt (a ++ b) = wgt a + wgt b := by
  unfold wgt allF
  rw [List.length_append, List.map_append, List.flatten_append, List.map_append, List.sum_append]
  omega
theorem ssteps_app {F : Addr} {H : Hp} {t q pp : Addr} {st1 st2 : List SStep} {s : Str} {xs1 xs2 : List Addr} (l1 : xs1.length = st1.length) (r1 : ∀ (i : Nat) (x : Addr) (s : SStep), xs1[i]? = some x → st1[i]? = some s → ∃ pp, H x = some (.tup [.str s.1, .ref pp]) ∧ H pp = some (.tup (s.2.map fun f => V.ref f.1)) ∧ ∀ f ∈ s.2, FoN F H f.1 f.2 500 ∧ 1 ≤ f.2)
    (l2 : xs2.length = st2.length) (r2 : ∀ (i : Nat) (x : Addr) (s : SStep), xs2[i]? = some x → st2[i]? = some s → ∃ pp, H x = some (.tup [.str s.1, .ref pp]) ∧ H pp = some (.tup (s.2.map fun f => V.ref f.1)) ∧ ∀ f ∈ s.2, FoN F H f.1 f.2 500 ∧ 1 ≤ f.2)
    (ht : H t = some (.tup [.str s, .ref pp])) (hpp : H pp = some (.tup [])) (hq : H q = some (.tup (xs1.map V.ref ++ (xs2.map V.ref ++ [.ref t])))) : SStepsAt F H q (st1 ++ (st2 ++ [(s, [])])) := by
  refine ⟨xs1 ++ (xs2 ++ [t]), by rw [hq, List.map_append, List.map_append]; rfl, by simp [l1, l2], fun i x y a b => ?_⟩
  by_cases i1 : i < xs1.length
  · rw [List.getElem?_append_left i1] at a
    rw [List.getElem?_append_left (by omega)] at b
    exact r1 i x y a b
  · rw [List.getElem?_append_right (by omega)] at a
    rw [List.getElem?_append_right (by omega)] at b
    rw [l1] at a
    by_cases i2 : i - st1.length < xs2.length
    · rw [List.getElem?_append_left i2] at a
      rw [List.getElem?_append_left (by omega)] at b
      exact r2 _ x y a b
    · rw [List.getElem?_append_right (by omega)] at a
      rw [List.getElem?_append_right (by omega)] at b
      rw [l2] at a
      match i - st1.length - st2.length, a, b with
      | 0, a, b => cases a; cases b; exact ⟨pp, ht, hpp, fun _ h => nomatch h⟩
      | j + 1, a, b => simp at a
end Tz
namespace Tz
open PySem PySem.Spec PyProof.Rows L2 TzF TzRepr
theorem sum_lens {n : Nat} : ∀ {zs : List Str}, (∀ z ∈ zs, z.length ≤ n) → (zs.map (·.length)).sum ≤ n * zs.length
  | [], _ => Nat.zero_le _
  | z :: zs, h => by
    have h1 := h z List.mem_cons_self
    have h2 := sum_lens (zs := zs) fun y hy => h y (List.mem_cons_of_mem _ hy)
    rw [List.map_cons, List.sum_cons, List.length_cons, Nat.mul_add, Nat.mul_one]
    omega
/-- the steps of one simple saying -/
theorem sstep_one {F : Addr} {H : Hp} {t1 t2 pp : Addr} {s : Str} {fs : List (Addr × Nat)} (h1 : H t1 = some (.tup [.str s, .ref pp])) (h2 : H t2 = some (.tup [.ref t1])) (hp : H pp = some (.tup (fs.map fun f => V.ref f.1))) (fo : ∀ f ∈ fs, FoN F H f.1 f.2 500 ∧ 1 ≤ f.2) : SStepsAt F H t2 [(s, fs)] :=
  ⟨[t1], h2, rfl, fun i x q a b => by
    match i, a, b with
    | 0, a, b => cases a; cases b; exact ⟨pp, h1, hp, fo⟩⟩
theorem wgt_one {s : Str} {fs : List (Addr × Nat)} : wgt [(s, fs)] = 1 + (fs.map Prod.snd).sum := by
  unfold wgt allF
  simp
end Tz
namespace Tz
open PySem PySem.Spec PyProof.Rows L2 TzF TzRepr
def spNo : Sp := fun _ _ _ _ => False
def spSame (C F : Addr) : Sp := fun vs H Q _ => ∃ a1 n1 a2 n2, vs = [.ref a1, .ref a2] ∧ FoN F H a1 n1 500 ∧ FoN F H a2 n2 500 ∧ 1 ≤ n1 ∧ 1 ≤ n2 ∧ 1 + (n1 + n2) ≤ 60 ∧ ∀ a H', Ex H H' → SayAt C F H' a (1 + (n1 + n2)) 1100 → Q (.ref a) H'
def spIsFull (C F : Addr) : Sp := fun vs H Q _ => ∃ a1 n1, vs = [.ref a1] ∧ FoN F H a1 n1 500 ∧ 1 ≤ n1 ∧ 1 + n1 ≤ 60 ∧ ∀ a H', Ex H H' → SayAt C F H' a (1 + n1) 1100 → Q (.ref a) H'
def spAllB (C F : Addr) : Sp := fun vs H Q _ => ∃ p a1 n1 b1 a2 n2 b2, vs = [.ref p] ∧ H p = some (.tup [.ref a1, .ref a2]) ∧ SayAt C F H a1 n1 b1 ∧ SayAt C F H a2 n2 b2 ∧ b1 ≤ 2000 ∧ b2 ≤ 2000 ∧ n1 + n2 + 1 ≤ 60 ∧ ∀ a H', Ex H H' → SayAt C F H' a (n1 + n2 + 1) (b1 + b2 + 8) → Q (.ref a) H'
end Tz
/-! anything in a list or tuple of texts -/
namespace Tz
open PySem PySem.Spec PyProof.Rows L2
theorem str_eq_dct (b : Str) (u : Tok) (l : Addr) (dd : Option Addr) (es : Array DictEntry) (n : Nat) (sl : Array (Option Value)) : Meets (Builtin.«str.__eq__» ⟨[.str b u, .ref l], []⟩) (fun _ R s => s.heap.get? l = some { cls := .type "dict", dict := dd, data := .dict es n, slots := sl } ∧ R (.ok (.ret Value.notImplemented)) s) :=
  .of_wp fun prog w A R s h => by obtain ⟨hp, g, d, tk, os⟩ := s; obtain ⟨hl, h⟩ := h; wp_walk; exact ⟨_, rfl, h⟩
theorem dct_eq_str (b : Str) (u : Tok) (l : Addr) (dd : Option Addr) (es : Array DictEntry) (n : Nat) (sl : Array (Option Value)) : Meets (Builtin.«dict.__eq__» ⟨[.ref l, .str b u], []⟩) (fun _ R s => s.heap.get? l = some { cls := .type "dict", dict := dd, data := .dict es n, slots := sl } ∧ R (.ok (.ret Value.notImplemented)) s) :=
  .of_wp fun prog w A R s h => by
                                obtain ⟨hp, g, d, tk, os⟩ := s
                                obtain ⟨hl, h⟩ := h
                                wp_walk
                                show wpAny (model prog w) A.in1 (isSubtype (.type "str") (.type "dict")) _ _ _
                                refine wpAny_of_eq F.sub_str_dict ?_
                                simp only [Bool.not_false, if_true]
                                exact wpAny_bind (wpAny_rule (wpAny_pure ⟨_, rfl, h⟩))
theorem rc_dict {A : Around} {s : Shared} {l : Addr} {dd : Option Addr} {es : Array DictEntry} {n : Nat} {sl : Array (Option Value)} (b : Str) (u : Tok) (ho : s.heap.get? l = some { cls := .type "dict", dict := dd, data := .dict es n, slots := sl }) (hu : A.units < cLine) : SeqAt.RcAt A s (.str b u) (.ref l) false := fun prog w E Q h =>
  SeqAt.rc_eq_decline_or (typeIs_str s b u) ⟨_, ho, rfl⟩ (by decide) F.sub_dict_str F.slot_str_eq F.slot_dict_eq_refl
    (fun x hq => call_meets F.slot_str_eq (typeIs_str s b u) F.entry_str_eq (F.args_str_eq_2 _ _) (str_eq_dct b u l dd es n sl) ⟨ho, hq⟩)
    (fun x hq => call_meets F.slot_dict_eq_refl ⟨_, ho, rfl⟩ F.entry_dict_eq (F.args_dict_eq_2 _ _) (dct_eq_str b u l dd es n sl) ⟨ho, hq⟩)
    (fun x hq => wpAny_of_eq rfl hq) (.inr hu) h
theorem eq_dict {A : Around} {s : Shared} {l : Addr} {dd : Option Addr} {es : Array DictEntry} {n : Nat} {sl : Array (Option Value)} (b : Str) (u : Tok) (ho : s.heap.get? l = some { cls := .type "dict", dict := dd, data := .dict es n, slots := sl }) (hu : A.units < cLine) : SeqAt.EqAt A s (.str b u) (.ref l) false := fun prog w E Q h => by
  unfold eqBool
  refine wpAny_holding (wpAny_ite_split (fun e => absurd (eq_of_beq e) fun a => nomatch a) fun _ => ?_)
  exact wpAny_bind (rc_dict b u ho hu prog w E _ (wpAny_truthy_bool h))
def inS (v : V) (zs : List Str) : Bool := match v with
  | .str z => zs.any fun y => y == z
  | _ => false
def rInX (K : PySem.W.Frag) (neg : Bool) : R2 := fun x y H Q => ∃ p zs g, y = .ref p ∧ (SqL K H p (zs.map V.str) ∨ SqT K H p (zs.map V.str)) ∧ Th H x g ∧ Q (.bl (if neg then !inS x zs else inS x zs)) H
def eX (x : V) (u : Value) : Bool := match x, u with
  | .str z, .str y _ => y == z
  | _, _ => false
theorem any_eX {x : V} {g : Ki} {H : Hp} (d : Th H x g) {zs : List Str} {us : List Value} (h : StrsAre us zs) : us.any (eX x) = inS x zs := by
  induction h with
  | nil => cases d <;> rfl
  | cons y t h ih =>
    rw [List.any_cons, ih]
    cases d <;> rfl
theorem th_eq {X : Cx} {pins : List (Addr × Obj)} {s : Shared} {σ : L2.St} {H : Hp} {x : V} {v : Value} {g : Ki} (I : L2.Inv X pins σ H s) (r : L2.RelV x v) (d : Th H x g) (hu : X.A.in1.units < cLine) (y : Str) (t : Tok) : SeqAt.EqAt X.A.in1 s (.str y t) v (eX x (.str y t)) := by
  cases d with
  | non =>
    cases r
    exact SeqAt.EqAt.str_none y t
  | bl b =>
    cases r
    exact SeqAt.EqAt.str_bool y t b
  | int i =>
    obtain ⟨t', rfl⟩ := r
    exact SeqAt.EqAt.str_int y t i t'
  | str z hz =>
    obtain ⟨t', rfl⟩ := r
    exact SeqAt.EqAt.str_str y t z t'
  | lst h =>
    cases r
    obtain ⟨its, rv, pl, _⟩ := I.list (sq (K := X.K) h)
    exact SeqAt.EqAt.str_list y t pl.isList hu
  | tup h =>
    cases r
    obtain ⟨its, rv, pl, _⟩ := I.tuple (sqT (K := X.K) h)
    exact SeqAt.EqAt.str_tuple y t pl hu
  | dic h =>
    cases r
    obtain ⟨_, lo, vs, rel, dd⟩ := dk_rd I.hok (.inl h)
    obtain ⟨o, es, ep, ho, hx, hd, _⟩ := dd
    obtain ⟨cls, dt, data, sl⟩ := o
    have e1 : cls = .type "dict" := hx.1
    have e2 : data = .dict es ep := hd
    subst e1 e2
    exact eq_dict y t ho hu
theorem strsAre_of : ∀ {zs : List Str} {us : List Value}, Vals (zs.map V.str) us → StrsAre us zs
  | [], _, .nil => .nil
  | z :: zs, u :: us, .cons r h => by
    obtain ⟨t, rfl⟩ := r
    exact .cons z t (strsAre_of h)
theorem strs_mem {us : List Value} {zs : List Str} (h : StrsAre us zs) {u : Value} (m : u ∈ us) : ∃ z t, u = .str z t := by
  induction h with
  | nil => cases m
  | cons y t h ih =>
    rcases List.mem_cons.mp m with rfl | m
    · exact ⟨y, t, rfl⟩
    · exact ih m
theorem op_inXg {X : Cx} (hu : X.A.in1.units < cLine) : OpR X (compareOp .In) (rInX X.K false) := by
  intro pins s σ H x y v u Q I rx ry h
  obtain ⟨p, zs, g, rfl, hs, d, q⟩ := h
  cases ry
  have q : Q (.bl (inS x zs)) H := q
  have key : ∀ {its : List Value}, Vals (zs.map V.str) its → (∀ y ∈ its.toArray, SeqAt.EqAt X.A.in1 s y v (eX x y)) ∧ EP X pins σ Q (.bool (its.toArray.any (eX x))) s := fun {its} rv => by
    have hi := strsAre_of rv
    refine ⟨fun y hy => ?_, ?_⟩
    · obtain ⟨z, t, rfl⟩ := strs_mem hi (by simpa using hy)
      exact th_eq I rx d hu z t
    · rw [List.any_toArray, any_eX d hi]
      exact ⟨.bl (inS x zs), H, I, rfl, q⟩
  rcases hs with hs | hs
  · obtain ⟨its, rv, pl, _⟩ := I.list hs
    exact SeqAt.in_listAt (eX x) pl.isList (key rv).1 (key rv).2
  · obtain ⟨its, rv, pl, _⟩ := I.tuple hs
    exact SeqAt.in_tupleAt (eX x) pl (key rv).1 (key rv).2
theorem op_inX {X : Cx} (hu : X.A.units + 64 < cLine) : OpR X (compareOp .In) (rInX X.K false) := op_inXg (by
  show X.A.units + 1 < cLine
  omega)
end Tz
/-! x, *ys = a list -/
namespace Tz
open PySem PySem.Spec PyProof.Rows L2
theorem star_items {prog : Program} {w : World} {A : Around} {E : Value → Shared → Prop} {s : Shared} {l : Addr} {v0 : Value} {vs : List Value} {Q : List Value → Shared → Prop} (hA : A.handled = none) (hl : s.heap.IsList l (v0 :: vs).toArray) (hn : vs.length + 1 ≤ 1000)
    (q : ∀ (h' : Heap) (tk : Nat), (∀ b o, s.heap.get? b = some o → h'.get? b = some o) → Q [v0, .ref h'.objs.size] { heap := h'.push (seqObj "list" vs.toArray 0), gens := s.gens, drawn := s.drawn, toks := tk, os := s.os }) :
    wpAny (model prog w) A (unpackItems (.ref l) 2 (some 1)) Q E s := by
  have ll : l < s.heap.objs.size := by
    obtain ⟨o, h, _⟩ := hl
    exact Heap.lt_size h
  unfold unpackItems
  refine wpAny_bind ?_
  have hnot : ∀ {R : Bool → Shared → Prop}, R false s → wpAny (model prog w) A (notIterableAtAll (.ref l)) R E s := fun {R} r => by
    unfold notIterableAtAll
    refine wpAny_bind (wpAny_specialOf (Heap.IsList.typeIs hl) slot_list_iter.lookup ?_)
    exact wpAny_pure r
  refine hnot ?_
  simp only [Bool.false_eq_true, if_false]
  refine wpAny_bind (wpAny_holding (wpAny_pyIter_list hl ?_))
  have it0 : (s.heap.push { cls := Value.type "list_iterator", data := Data.fields #[Value.ref l, Value.int 0 0] }).IsListIter s.heap.objs.size l 0 := ⟨_, Heap.get?_push_size _ rfl, rfl, rfl⟩
  have il0 := hl.push { cls := Value.type "list_iterator", data := Data.fields #[Value.ref l, Value.int 0 0] }
  have lne : l ≠ s.heap.objs.size := Nat.ne_of_lt ll
  refine wpAny_bind (wpAny_holding (PySem.W.kun_draw lne 1 0 _ _ it0 il0 (by simp) fun h1 it1 sb1 => ?_))
  have e1 : List.take 1 (List.drop 0 (v0 :: vs).toArray.toList) = [v0] := by simp
  rw [e1]
  simp only [List.length_singleton, Nat.lt_irrefl, if_false]
  have il1 : h1.IsList l (v0 :: vs).toArray := il0.extBut sb1.extBut lne
  have sz1 : h1.objs.size = s.heap.objs.size + 1 := by rw [sb1.1, size_push']
  have W := Walks.list (prog := prog) (w := w) (A := A.in1) hA s.heap.objs.size l lne (v0 :: vs).toArray
  refine wpAny_bind (wpAny_holding (PySem.W.kun_collect (items := (v0 :: vs).toArray) (k := 1) (T := "list_iterator") (.inr (.inr (.inl rfl))) W (fun i u h => h.1.typeIs) (by simp) ⟨it1, il1⟩ (by rw [sz1]; exact Nat.lt_succ_self _) (by rw [sz1]; exact Nat.lt_succ_of_lt ll) (fun h2 tk k2 => ?_) (by
    rw [List.size_toArray, List.length_cons, sizeLine_eq]
    omega)))
  have e2 : List.drop 1 (v0 :: vs).toArray.toList = vs := by simp
  rw [e2]
  have z : ¬ vs.length < 2 - 1 - 1 := by omega
  simp only [z, if_false]
  have e3 : vs.length - (2 - 1 - 1) = vs.length := by omega
  rw [e3, List.take_length, List.drop_length]
  have old : ∀ b o, s.heap.get? b = some o → h2.get? b = some o := fun b o hb => by
    have bl : b < s.heap.objs.size := Heap.lt_size hb
    refine k2 b o (Nat.ne_of_lt bl) ?_
    rw [sb1.2 b (Nat.ne_of_lt bl)]
    exact Heap.get?_push_of_some _ hb
  refine wpAny_bind (wpAny_newList ?_ (by rw [sizeLine_eq]; omega))
  refine wpAny_pure ?_
  exact q h2 tk old
def gStar (K : PySem.W.Frag) (t1 t2 : TG) : TG := fun v σ H Q => ∃ l x xs, v = .ref l ∧ SqL K H l (x :: xs) ∧ xs.length + 1 ≤ 1000 ∧ ∀ q, H q = none → t1 x σ (upd H q (.lst xs)) fun σ1 H1 => t2 (.ref q) σ1 H1 Q
theorem pg_star {X : Cx} {e1 e2 : Expr} {p2 pos : Pos} {k : Nat} {t1 t2 : TG} (hc : X.calm = true) (h1 : PG X e1 t1) (h2 : PG X e2 t2)
    (hs : assignEach [e1, .Starred e2 p2] X.env = [(false, assign e1 X.env), (true, assign e2 X.env)] := by rfl) : PG X (.Tuple [e1, .Starred e2 p2] k pos) (gStar X.K t1 t2) := by
  refine ⟨fun pins s σ H v u Q I r h => ?_⟩
  obtain ⟨l, x, xs, rfl, hl, hn, q⟩ := h
  cases r
  obtain ⟨its, rv, pl, _⟩ := I.list hl
  cases rv with
  | cons r0 rs =>
    rename_i u0 us
    rw [arm_assign_Tuple, hs]
    refine wpAny_bind (wpAny_standAt ?_)
    unfold unpack
    refine wpAny_bind (wpAny_holding ?_)
    have len := rs.length
    refine star_items (I.ok.hd hc) pl.isList (by omega) fun h' tk old => ?_
    have I2 := I.kept (t' := tk) old
    have nD : H h'.objs.size = none := I2.hok.fresh (Nat.le_refl _)
    have I3 := I2.laid (h' := h'.push (seqObj "list" us.toArray 0)) (a := h'.objs.size) (o := .lst xs) (t' := tk) (fun b o hb => Heap.get?_push_of_some _ hb) (Nat.le_refl _) ⟨by rw [sizeLine_eq]; omega, us, 0, rs, Heap.get?_push_size _ rfl⟩
    simp only [List.map, assignInOrder]
    refine wpAny_bind (wpAny_holding (thn (h1.run pins _ σ _ x u0 _ I3 r0 (q _ nD)) fun _ s3 ⟨σ3, H3, I4, q3⟩ => ?_))
    refine wpAny_bind (wpAny_holding (thn (h2.run pins _ σ3 _ (.ref h'.objs.size) _ _ I4 rfl q3) fun _ s4 h4 => ?_))
    exact wpAny_pure h4
end Tz
namespace Tz
open PySem PySem.Spec PyProof.Rows L2 TzF TzRepr
/-! ### lists and tuples alike -/
theorem pi_or {X : Cx} {tg iter : Expr} {w1 w2 : TI} (h1 : PI X tg iter w1) (h2 : PI X tg iter w2) : PI X tg iter (fun σ H R => w1 σ H R ∨ w2 σ H R) :=
  ⟨fun pins s σ H R I h => h.elim (h1.run pins s σ H R I) (h2.run pins s σ H R I)⟩
theorem pe_orr {X : Cx} {e : Expr} {t1 t2 : TE} (h1 : PE X e t1) (h2 : PE X e t2) : PE X e (fun σ H Q => t1 σ H Q ∨ t2 σ H Q) :=
  ⟨fun pins s σ H Q I h => h.elim (h1.run pins s σ H Q I) (h2.run pins s σ H Q I)⟩
def SeqV (H : Hp) (v : V) (xs : List V) : Prop := ∃ a, v = .ref a ∧ (H a = some (.lst xs) ∨ H a = some (.tup xs))
theorem SeqV.ex {H H' : Hp} {v : V} {xs : List V} (s : SeqV H v xs) (e : Ex H H') : SeqV H' v xs := by
  obtain ⟨a, rfl, h | h⟩ := s
  · exact ⟨a, rfl, .inl (e _ _ h)⟩
  · exact ⟨a, rfl, .inr (e _ _ h)⟩
theorem SeqV.of {K : PySem.W.Frag} {H : Hp} {v : V} {xs : List V} (s : SeqV H v xs) : ∃ a, v = .ref a ∧ (SqL K H a xs ∨ SqT K H a xs) := by
  obtain ⟨a, rfl, h | h⟩ := s
  · exact ⟨a, rfl, .inl (sq h)⟩
  · exact ⟨a, rfl, .inr (sqT h)⟩
theorem SeqV.th {H : Hp} {v : V} {xs : List V} (s : SeqV H v xs) : Th H v .lst ∨ Th H v .tup := by
  obtain ⟨a, rfl, h | h⟩ := s
  · exact .inl (.lst h)
  · exact .inr (.tup h)
theorem enum_seq {K : PySem.W.Frag} {σ : L2.St} {i : Nat} {v : V} {H : Hp} {xs : List V} {R : It → Hp → Prop} (hv : σ[i]? = some (some v)) (s : SeqV H v xs)
    (k : ∀ J, Walk J xs.length (fun H' => Ex H H') (YPair (fun i => some (V.int (i : Nat))) fun i => xs[i]?) → R J H) : iEnum K (tCons (tVar i) tNil) σ H R ∨ TzEnum.iEnumT K (tCons (tVar i) tNil) σ H R := by
  obtain ⟨a, rfl, h | h⟩ := s
  · refine .inl ⟨_, hv, a, xs, rfl, sq h, k _ ?_⟩
    exact (walk_enum (K := K) (a := a) (xs := xs)).mono (fun H' q => sq (q _ _ h)) fun i H1 x H2 hi _ y => y
  · refine .inr ⟨_, hv, a, xs, rfl, sqT h, k _ ?_⟩
    exact (TzEnum.walkT (K := K) (a := a) (xs := xs)).mono (fun H' q => sqT (q _ _ h)) fun i H1 x H2 hi _ y => y
theorem cut_take {xs : List V} {n : Nat} : cutV xs none (some (n : Int)) = xs.take n := by
  unfold cutV
  show (xs.drop 0).take ((if (n : Int) < 0 then ((n : Int) + (xs.length : Nat)).toNat else min (n : Int).toNat xs.length) - 0) = _
  rw [if_neg (by omega), Int.toNat_natCast, List.drop_zero, Nat.sub_zero]
  by_cases h : n ≤ xs.length
  · rw [Nat.min_eq_left h]
  · rw [Nat.min_eq_right (by omega), List.take_length, List.take_of_length_le (by omega)]
theorem take_seq {K : PySem.W.Frag} {σ : L2.St} {i j n : Nat} {v : V} {H : Hp} {xs : List V} {Q : VK} (hv : σ[i]? = some (some v)) (hn : σ[j]? = some (some (.int (n : Nat)))) (s : SeqV H v xs) (l : n < xs.length)
    (k : ∀ q H', Ex H H' → SeqV H' (.ref q) (xs.take n) → Q (.ref q) H') : tSl (rSlL K) (tVar i) tNoPart (tPart (tVar j)) σ H Q ∨ tSl (rSlT K) (tVar i) tNoPart (tPart (tVar j)) σ H Q := by
  obtain ⟨a, rfl, h | h⟩ := s
  · refine .inl ⟨_, hv, _, hn, _, rfl, a, xs, rfl, sq h, fun q nq => ?_⟩
    rw [cut_take]
    exact k q _ (Ex.new nq) ⟨q, rfl, .inl upd_same⟩
  · refine .inr ⟨_, hv, _, hn, _, rfl, a, xs, rfl, sqT h, fun w => ?_, fun q nq => ?_⟩
    · have := w.2
      have : (if (n : Int) < 0 then ((n : Int) + (xs.length : Nat)).toNat else min (n : Int).toNat xs.length) = xs.length := this
      rw [if_neg (by omega), Int.toNat_natCast] at this
      omega
    · rw [cut_take]
      exact k q _ (Ex.new nq) ⟨q, rfl, .inr upd_same⟩
/-! ### isinstance(x, (list, tuple)) -/
theorem Th.tyAny {K : PySem.W.Frag} {H : Hp} {v : V} {g : Ki} (h : Th H v g) : ∃ t, TyX K H v t ∧ PySem.W.kitAny K t [.type "list", .type "tuple"] = some (g.is "list" || g.is "tuple") := by
  cases h with
  | non => exact ⟨_, .base .non, by rfl⟩
  | bl b => exact ⟨_, .base (.bl _), by rfl⟩
  | int i => exact ⟨_, .base (.int _), by rfl⟩
  | str z hz => exact ⟨_, .base (.str _), by rfl⟩
  | lst h => exact ⟨_, .base (.lst h), by rfl⟩
  | tup h => exact ⟨_, .base (.tup h), by rfl⟩
  | dic h => exact ⟨_, .base (.dK h), by rfl⟩
/-! ### what is refused -/
def BadMany (H : Hp) (v : V) (most : Nat) : Prop := (∃ g, Th H v g ∧ g.is "list" = false ∧ g.is "tuple" = false) ∨ ∃ xs, SeqV H v xs ∧ ¬ (1 ≤ xs.length ∧ xs.length ≤ most)
def LayF (B : Addr) (part : Str) (at_ : V) (H : Hp) (E : XK) : Prop := Flies B [("at", at_), ("part", .str part)] H E
def spCheckMany (B : Addr) : Sp := fun vs H Q E => ∃ part v, ∃ most : Nat, vs = [.str part, v, .int most] ∧ ((BadMany H v most ∧ LayF B part .non H E) ∨ ∃ xs, SeqV H v xs ∧ 1 ≤ xs.length ∧ xs.length ≤ most ∧ ∀ H', Ex H H' → Q .non H')
def Names (zs : List Str) : Prop := (∀ z ∈ zs, nameB z = true) ∧ zs.Nodup
def spCheckWords (B : Addr) : Sp := fun vs H Q E => ∃ v, vs = [v] ∧ ((BadMany H v 6 ∧ LayF B "words" .non H E) ∨ ∃ xs, SeqV H v xs ∧ 1 ≤ xs.length ∧ xs.length ≤ 6 ∧
  ((∃ zs : List Str, xs = zs.map V.str ∧ Names zs ∧ ∀ H', Ex H H' → Q .non H') ∨ ∃ (zs : List Str) (x : V) (rest : List V) (g : Ki), xs = zs.map V.str ++ x :: rest ∧ Names zs ∧ Th H x g ∧ (nameV x = false ∨ ∃ z ∈ zs, x = .str z) ∧ LayF B "words" (.int (zs.length : Nat)) H E))
theorem nodup_take {zs : List Str} {i : Nat} {z : Str} (nd : zs.Nodup) (h : zs[i]? = some z) : inS (.str z) (zs.take i) = false := by
  show ((zs.take i).any fun y => y == z) = false
  rw [List.any_eq_false]
  intro y hy e
  have e := beq_iff_eq.mp e
  subst e
  obtain ⟨j, hj, q⟩ := List.mem_iff_getElem.mp hy
  rw [List.length_take] at hj
  rw [List.getElem_take] at q
  have l := (List.getElem?_eq_some_iff.mp h).1
  have z : j = i := (List.getElem?_inj (by omega) nd).mp (by rw [h, List.getElem?_eq_getElem (by omega), q])
  omega
theorem take_strs {zs : List Str} {xs : List V} {i : Nat} (h : i ≤ zs.length) : (zs.map V.str ++ xs).take i = (zs.take i).map V.str := by
  rw [List.take_append_of_le_length (by rw [List.length_map]; exact h), List.map_take]
end Tz
namespace Tz
open PySem PySem.Spec PyProof.Rows L2 TzF TzRepr
/-! ### members of a check -/
def strsOf (xs : List V) : List Str := xs.filterMap fun v => match v with | .str z => some z | _ => none
theorem strsOf_strs : ∀ {zs : List Str}, strsOf (zs.map V.str) = zs
  | [] => rfl
  | z :: zs => by
    show z :: strsOf (zs.map V.str) = z :: zs
    rw [strsOf_strs]
def intsOf (ms : List V) : List V := ms.filter isI
def namsOf (ms : List V) : List V := ms.filter fun v => !isI v
def nmB (ns : List V) (ks : List Str) : Bool := (List.range ns.length).all fun i => inS (ns.getD i .non) ks && !inS (ns.getD i .non) (strsOf (ns.take i))
def memsB (ms : List V) (ks : List Str) : Bool := (decide ((intsOf ms).length ≤ 1) && (intsOf ms).all (fromV 1 15)) && nmB (namsOf ms) ks
/-- ahead of a known name stand texts alone -/
def MemsOk (H : Hp) (ms : List V) (ks : List Str) : Prop := ms.length ≤ 900 ∧ (∀ v ∈ ms, ∃ g, Th H v g) ∧ ∀ i, i < (namsOf ms).length → inS ((namsOf ms).getD i .non) ks = true → ∃ zs : List Str, (namsOf ms).take i = zs.map V.str
theorem MemsOk.ex {H H' : Hp} {ms : List V} {ks : List Str} (m : MemsOk H ms ks) (e : Ex H H') : MemsOk H' ms ks :=
  ⟨m.1, fun v hv => by
    obtain ⟨g, d⟩ := m.2.1 v hv
    exact ⟨g, d.ex e⟩, m.2.2⟩
theorem filter_take {ms : List V} {p : V → Bool} {i : Nat} {v : V} (h : ms[i]? = some v) : (ms.take (i + 1)).filter p = (ms.take i).filter p ++ if p v = true then [v] else [] := by
  rw [List.take_add_one, h, List.filter_append]
  cases e : p v with
  | true => rw [if_pos rfl]; simp [e]
  | false => rw [if_neg Bool.false_ne_true]; simp [e]
def spMembers : Sp := fun vs H Q _ => ∃ mp kn ms ks, vs = [.ref mp, .ref kn] ∧ H mp = some (.tup ms) ∧ H kn = some (.lst (ks.map V.str)) ∧ MemsOk H ms ks ∧ ∀ H', Ex H H' → Q (.bl (memsB ms ks)) H'
theorem op_notInX {X : Cx} (hu : X.A.units + 64 < cLine) : OpR X (compareOp .NotIn) (rInX X.K true) := by
  intro pins s σ H x y v u Q I rx ry h
  obtain ⟨p, zs, g, rfl, hs, d, q⟩ := h
  cases ry
  have hu : X.A.in1.units < cLine := by
    show X.A.units + 1 < cLine
    omega
  have q : Q (.bl (!inS x zs)) H := q
  have key : ∀ {its : List Value}, Vals (zs.map V.str) its → (∀ y ∈ its.toArray, SeqAt.EqAt X.A.in1 s y v (eX x y)) ∧ EP X pins σ Q (.bool (!its.toArray.any (eX x))) s := fun {its} rv => by
    have hi := strsAre_of rv
    refine ⟨fun y hy => ?_, ?_⟩
    · obtain ⟨z, t, rfl⟩ := strs_mem hi (by simpa using hy)
      exact th_eq I rx d hu z t
    · rw [List.any_toArray, any_eX d hi]
      exact ⟨.bl (!inS x zs), H, I, rfl, q⟩
  rcases hs with hs | hs
  · obtain ⟨its, rv, pl, _⟩ := I.list hs
    exact SeqAt.notIn_listAt (eX x) pl.isList (key rv).1 (key rv).2
  · obtain ⟨its, rv, pl, _⟩ := I.tuple hs
    exact SeqAt.notIn_tupleAt (eX x) pl (key rv).1 (key rv).2
section
variable {X : Cx} {K : PySem.W.Frag} {e : Expr} {ta : TA} {p pos tpos : Pos} {elts : List Expr} {kk : Nat}
theorem op_inXK (hK : X.K = K) (hu : X.A.units + 64 < cLine) : OpR X (compareOp .In) (rInX K false) := by
  subst hK
  exact op_inX hu
theorem op_notInXK (hK : X.K = K) (hu : X.A.units + 64 < cLine) : OpR X (compareOp .NotIn) (rInX K true) := by
  subst hK
  exact op_notInX hu
theorem sl_listKx (hK : X.K = K) : SlR X (rSlL K) := by
  subst hK
  exact sl_list
theorem pi_enumK (hK : X.K = K) (hg : Gl X "enumerate") (hm : X.mg "enumerate" = none) (ha : PA X [e] ta) (hs : starEach [e] X.env = [(false, eval e X.env)] := by rfl) : PI X (.Tuple elts kk tpos) (.Call (.Name "enumerate" p) [e] [] pos) (iEnum K ta) := by
  subst hK
  exact pi_enum hg hm ha hs
end
theorem all_getD {L : List V} {p : V → Bool} : ((List.range L.length).all fun i => p (L.getD i .non)) = L.all p := by
  rw [Bool.eq_iff_iff, List.all_eq_true, List.all_eq_true]
  constructor
  · intro h v hv
    obtain ⟨j, hj, rfl⟩ := List.mem_iff_getElem.mp hv
    have := h j (List.mem_range.mpr hj)
    rwa [List.getD_eq_getElem?_getD, List.getElem?_eq_getElem hj] at this
  · intro h j hj
    have hj := List.mem_range.mp hj
    rw [List.getD_eq_getElem?_getD, List.getElem?_eq_getElem hj]
    exact h _ (List.getElem_mem hj)
theorem getD_some {L : List V} {i : Nat} {x : V} (h : L[i]? = some x) : L.getD i .non = x := by
  rw [List.getD_eq_getElem?_getD, h]
  rfl
theorem Ex.keepD {H H' : Hp} {D : Addr} {o : HO} (nD : H D = none) (e : Ex H H') : Ex H (upd H' D o) := fun a u q => by
  rw [upd_ne fun z => by rw [z, nD] at q; cases q]
  exact e _ _ q
end Tz
namespace Tz
open PySem PySem.Spec PyProof.Rows L2 TzF TzRepr
/-- a row of checks beside the names known so far: whether it is a check -/
inductive RowK (H : Hp) (ks : List Str) : V → Bool → Prop where
  | no {v : V} {g : Ki} (d : Th H v g) (n : g.is "tuple" = false) : RowK H ks v false
  | short {a : Addr} {xs : List V} (h : H a = some (.tup xs)) (l : xs.length < 2) : RowK H ks (.ref a) false
  | label {a : Addr} {x y : V} {ms : List V} {g : Ki} (h : H a = some (.tup (x :: y :: ms))) (d : Th H x g) (n : nameV x = false ∨ inS x ks = true) : RowK H ks (.ref a) false
  | full {a : Addr} {z : Str} {y : V} {ms : List V} (h : H a = some (.tup (.str z :: y :: ms))) (n : nameB z = true) (o : inS (.str z) ks = false) (M : MemsOk H (y :: ms) ks) : RowK H ks (.ref a) (memsB (y :: ms) ks)
theorem RowK.ex {H H' : Hp} {ks : List Str} {v : V} {b : Bool} (r : RowK H ks v b) (e : Ex H H') : RowK H' ks v b := by
  cases r with
  | no d n => exact .no (d.ex e) n
  | short h l => exact .short (e _ _ h) l
  | label h d n => exact .label (e _ _ h) (d.ex e) n
  | full h n o M => exact .full (e _ _ h) n o (M.ex e)
def spIsCheck : Sp := fun vs H Q _ => ∃ v kn ks b, vs = [v, .ref kn] ∧ H kn = some (.lst (ks.map V.str)) ∧ RowK H ks v b ∧ ∀ H', Ex H H' → Q (.bl b) H'
def CksBad (H : Hp) (ks : List Str) (rows : List V) (at_ : Nat) : Prop := ∃ (ls : List Str), ls.length = at_ ∧ at_ < rows.length ∧ RowK H (ks ++ ls) (rows.getD at_ .non) false ∧ ∀ j, j < at_ → RowK H (ks ++ ls.take j) (rows.getD j .non) true ∧ ∃ a y ms, rows.getD j .non = .ref a ∧ H a = some (.tup (.str (ls.getD j "") :: y :: ms))
def CksOk (H : Hp) (ks : List Str) (rows : List V) (ls : List Str) : Prop := ls.length = rows.length ∧ ∀ j, j < rows.length → RowK H (ks ++ ls.take j) (rows.getD j .non) true ∧ ∃ a y ms, rows.getD j .non = .ref a ∧ H a = some (.tup (.str (ls.getD j "") :: y :: ms))
def spCheckChecks (B : Addr) : Sp := fun vs H Q E => ∃ wv v, ∃ ws : List Str, vs = [wv, v] ∧ SeqV H wv (ws.map V.str) ∧ ws.length ≤ 6 ∧ ((BadMany H v 4 ∧ LayF B "checks" .non H E) ∨ ∃ rows, SeqV H v rows ∧ 1 ≤ rows.length ∧ rows.length ≤ 4 ∧
  ((∃ ls, CksOk H ws rows ls ∧ ∀ H', Ex H H' → Q .non H') ∨ ∃ at_, CksBad H ws rows at_ ∧ LayF B "checks" (.int (at_ : Nat)) H E))
theorem enum_seqB {K : PySem.W.Frag} {σ : L2.St} {i : Nat} {v : V} {H0 H : Hp} {xs : List V} {R : It → Hp → Prop} (hv : σ[i]? = some (some v)) (s : SeqV H0 v xs) (e : Ex H0 H)
    (k : ∀ J, Walk J xs.length (fun H' => Ex H0 H') (YPair (fun i => some (V.int (i : Nat))) fun i => xs[i]?) → R J H) : iEnum K (tCons (tVar i) tNil) σ H R ∨ TzEnum.iEnumT K (tCons (tVar i) tNil) σ H R := by
  obtain ⟨a, rfl, h | h⟩ := s
  · refine .inl ⟨_, hv, a, xs, rfl, sq (e _ _ h), k _ ?_⟩
    exact (walk_enum (K := K) (a := a) (xs := xs)).mono (fun H' q => sq (q _ _ h)) fun i H1 x H2 hi _ y => y
  · refine .inr ⟨_, hv, a, xs, rfl, sqT (e _ _ h), k _ ?_⟩
    exact (TzEnum.walkT (K := K) (a := a) (xs := xs)).mono (fun H' q => sqT (q _ _ h)) fun i H1 x H2 hi _ y => y
theorem take_next {ls : List Str} {i : Nat} (h : i < ls.length) : ls.take (i + 1) = ls.take i ++ [ls.getD i ""] := by
  rw [List.take_add_one, List.getElem?_eq_getElem h, List.getD_eq_getElem?_getD, List.getElem?_eq_getElem h]
  rfl
end Tz
namespace Tz
open PySem PySem.Spec PyProof.Rows L2 TzF TzRepr
def WBad (H : Hp) (wv at_ : V) : Prop := (BadMany H wv 6 ∧ at_ = .non) ∨ ∃ (zs : List Str) (x : V) (rest : List V) (g : Ki), SeqV H wv (zs.map V.str ++ x :: rest) ∧ (zs.map V.str ++ x :: rest).length ≤ 6 ∧ Names zs ∧ Th H x g ∧ (nameV x = false ∨ ∃ z ∈ zs, x = .str z) ∧ at_ = .int (zs.length : Nat)
def CBad (H : Hp) (ws : List Str) (v at_ : V) : Prop := (BadMany H v 4 ∧ at_ = .non) ∨ ∃ (rows : List V) (n : Nat), SeqV H v rows ∧ 1 ≤ rows.length ∧ rows.length ≤ 4 ∧ CksBad H ws rows n ∧ at_ = .int (n : Nat)
def lof (wp cp lp np : Addr) : List (Str × V) := putF "_names" (.ref np) (putF "check_names" (.ref lp) (putF "checks" (.ref cp) (putF "words" (.ref wp) [])))
section
variable {wp cp lp np : Addr}
theorem lof_words : (lof wp cp lp np).lookup ("words" : Str) = some (.ref wp) := by
  unfold lof
  rw [lookup_putF, if_neg (by decide +kernel), lookup_putF, if_neg (by decide +kernel), lookup_putF, if_neg (by decide +kernel), lookup_putF, if_pos rfl]
theorem lof_checks : (lof wp cp lp np).lookup ("checks" : Str) = some (.ref cp) := by
  unfold lof
  rw [lookup_putF, if_neg (by decide +kernel), lookup_putF, if_neg (by decide +kernel), lookup_putF, if_pos rfl]
theorem lof_check_names : (lof wp cp lp np).lookup ("check_names" : Str) = some (.ref lp) := by
  unfold lof
  rw [lookup_putF, if_neg (by decide +kernel), lookup_putF, if_pos rfl]
end
/-- a tuple that is known to have no dict of its own -/
def TupF (H : Hp) (a : Addr) (o : Obj) (xs : List V) : Prop := o.dict = none ∧ H a = some (.frz o (.tup xs))
theorem TupF.ex {H H' : Hp} {a : Addr} {o : Obj} {xs : List V} (h : TupF H a o xs) (e : Ex H H') : TupF H' a o xs := ⟨h.1, e _ _ h.2⟩
theorem TupF.sq {K : PySem.W.Frag} {H : Hp} {a : Addr} {o : Obj} {xs : List V} (h : TupF H a o xs) : SqT K H a xs := .inl (.inr ⟨_, h.2⟩)
theorem call_tuple_fz {X : Cx} : CallR X (.type "tuple") (fun xs H Q => ∃ p ys, xs = [.ref p] ∧ SqL X.K H p ys ∧ ∀ l o, H l = none → o.dict = none → Q (.ref l) (upd H l (.frz o (.tup ys)))) := by
  intro pins s σ H xs us Q I r h
  obtain ⟨p, ys, rfl, hq, q⟩ := h
  obtain ⟨u, rfl, rx⟩ := vals1 r
  cases rx
  obtain ⟨its, r', pl, hz⟩ := I.list hq
  have hlen := r'.length
  refine call_tuple_list pl.isList (fun h' kp => ?_) (by simp only [List.size_toArray] <;> omega)
  have I1 : L2.Inv X pins σ H { s with heap := h' } := I.kept (t' := s.toks) kp
  have I2 : L2.Inv X pins σ (upd H h'.objs.size (.frz { cls := .type "tuple", data := .seq its.toArray } (.tup ys))) { s with heap := h'.push { cls := .type "tuple", data := .seq its.toArray } } :=
    I1.laid (t' := s.toks) (fun b o e => Heap.get?_push_of_some _ e) (Nat.le_refl _) (show L2.ObjOk X.prog X.w _ _ _ (.frz _ (.tup ys)) from ⟨Heap.get?_push_size _ rfl, hz, its, r', IsTup.new _ _⟩)
  exact ⟨.ref h'.objs.size, _, I2, rfl, q _ _ (I1.hok.fresh (Nat.le_refl _)) rfl⟩
def spLayInit (C B : Addr) : Sp := fun vs H Q E => ∃ p dx wv v, vs = [.ref p, wv, v] ∧ H p = some (.ins C dx []) ∧ ((∃ at_, WBad H wv at_ ∧ LayF B "words" at_ H E) ∨ ∃ ws : List Str, SeqV H wv (ws.map V.str) ∧ 1 ≤ ws.length ∧ ws.length ≤ 6 ∧ Names ws ∧
  ((∃ at_, CBad H ws v at_ ∧ LayF B "checks" at_ H E) ∨ ∃ rows ls, SeqV H v rows ∧ 1 ≤ rows.length ∧ rows.length ≤ 4 ∧ CksOk H ws rows ls ∧
    ∀ wp cp lp np ol H', H' p = some (.ins C dx (lof wp cp lp np)) → H' wp = some (.tup (ws.map V.str)) → H' cp = some (.tup rows) → TupF H' lp ol (ls.map V.str) → (∀ b o, H b = some o → b ≠ p → H' b = some o) → Q .non H'))
theorem tuple_seq {K : PySem.W.Frag} {H : Hp} {v : V} {xs : List V} (s : SeqV H v xs) {Q : VK} (k : ∀ q H', Ex H H' → H' q = some (.tup xs) → Q (.ref q) H') : rTupO K [v] H Q := by
  obtain ⟨a, rfl, h | h⟩ := s
  · exact ⟨a, xs, rfl, .inl ⟨sq h, fun l nl => k l _ (Ex.new nl) upd_same⟩⟩
  · exact ⟨a, xs, rfl, .inr ⟨sqT h, k a H (fun _ _ h => h) h⟩⟩
theorem BadMany.ex {H H' : Hp} {v : V} {n : Nat} (b : BadMany H v n) (e : Ex H H') : BadMany H' v n := by
  rcases b with ⟨g, d, h1, h2⟩ | ⟨xs, S, no⟩
  · exact .inl ⟨g, d.ex e, h1, h2⟩
  · exact .inr ⟨xs, S.ex e, no⟩
theorem CksBad.ex {H H' : Hp} {ks : List Str} {rows : List V} {n : Nat} (b : CksBad H ks rows n) (e : Ex H H') : CksBad H' ks rows n := by
  obtain ⟨ls, l, lt, r, g⟩ := b
  refine ⟨ls, l, lt, r.ex e, fun j hj => ?_⟩
  obtain ⟨r, a, y, ms, ea, ha⟩ := g j hj
  exact ⟨r.ex e, a, y, ms, ea, e _ _ ha⟩
theorem CksOk.ex {H H' : Hp} {ks : List Str} {rows : List V} {ls : List Str} (b : CksOk H ks rows ls) (e : Ex H H') : CksOk H' ks rows ls := by
  obtain ⟨l, g⟩ := b
  refine ⟨l, fun j hj => ?_⟩
  obtain ⟨r, a, y, ms, ea, ha⟩ := g j hj
  exact ⟨r.ex e, a, y, ms, ea, e _ _ ha⟩
theorem SeqV.updI {H : Hp} {p C dx : Addr} {fs : List (Str × V)} {o : HO} {v : V} {xs : List V} (s : SeqV H v xs) (hp : H p = some (.ins C dx fs)) : SeqV (upd H p o) v xs := by
  obtain ⟨a, rfl, h | h⟩ := s
  · exact ⟨a, rfl, .inl (by rw [upd_ne fun e => by rw [e, hp] at h; cases h]; exact h)⟩
  · exact ⟨a, rfl, .inr (by rw [upd_ne fun e => by rw [e, hp] at h; cases h]; exact h)⟩
theorem pe_wk {X : Cx} {e : Expr} {t t' : TE} (h : PE X e t) (w : ∀ σ H Q, t' σ H Q → t σ H Q) : PE X e t' :=
  ⟨fun pins s σ H Q I q => h.run pins s σ H Q I (w σ H Q q)⟩
def tTupS (i : Nat) : TE := fun σ H Q => ∃ v ys, σ[i]? = some (some v) ∧ SeqV H v ys ∧ ∀ q H', Ex H H' → H' q = some (.tup ys) → Q (.ref q) H'
theorem tTupS.to {K : PySem.W.Frag} {i : Nat} {σ : L2.St} {H : Hp} {Q : VK} (h : tTupS i σ H Q) : ∃ v, σ[i]? = some (some v) ∧ rTupO K [v] H Q := by
  obtain ⟨v, ys, hv, s, k⟩ := h
  exact ⟨v, hv, tuple_seq s k⟩
theorem cells_strs {ls : List Str} {n : Nat} (e : ls.length = n) : cells n (fun i => V.str (ls.getD i "")) = ls.map V.str := by
  subst e
  refine List.ext_getElem (by rw [cells_len, List.length_map]) fun i h1 h2 => ?_
  rw [List.length_map] at h2
  refine Option.some.inj ?_
  rw [← List.getElem?_eq_getElem h1, cells_get h2, List.getElem_map, List.getD_eq_getElem?_getD, List.getElem?_eq_getElem h2]
  rfl
theorem row_of {H : Hp} {ks : List Str} {rows : List V} {ls : List Str} (c : CksOk H ks rows ls) {j : Nat} {x : V} (hx : rows[j]? = some x) : ∃ a y ms, x = .ref a ∧ H a = some (.tup (.str (ls.getD j "") :: y :: ms)) := by
  obtain ⟨l, g⟩ := c
  obtain ⟨hj, -⟩ := List.getElem?_eq_some_iff.mp hx
  obtain ⟨r, a, y, ms, ea, ha⟩ := g j hj
  rw [getD_some hx] at ea
  exact ⟨a, y, ms, ea, ha⟩
end Tz
namespace Tz
open PySem PySem.Spec PyProof.Rows L2 TzF TzRepr
/-! ### an instance of one class beside an instance of another -/
def rEqL (C L : Addr) (sp : Sp) (E : XK) : R2 := fun x y H Q => ∃ a b dx dy fs gs, x = .ref a ∧ y = .ref b ∧ H a = some (.ins C dx fs) ∧ H b = some (.ins L dy gs) ∧ sp [.ref a, .ref b] H Q E
section
variable {X : Cx} {CX : CXT} {k : Nat} {f C L : Addr} {fd : FuncData} {ps : List Str} {sp : Sp} {E : XK}
theorem cmp_ownL {op : CmpOp} {nm : Str} (F : FnOk X.prog X.w X.K X.mg X.base CX k f fd ps sp) (hr : Room k X.A) (M : Meth X.K C nm f) (hn : (cmpInfo op).2.1 = nm) (ho : compareOp op = richCompare op) (hb : Binds X.K fd ps []) (hx : Passes CX X E) (no : PySem.W.subIn X.K (.ref L) (.ref C) = some false) : OpR X (compareOp op) (rEqL C L sp E) := by
  intro pins s σ H x y v u Q I rx ry h
  obtain ⟨a, b, dx, dy, fs, gs, rfl, rfl, ha, hb', q⟩ := h
  cases rx
  cases ry
  obtain ⟨od, J⟩ := TzOwn.inst_at I ha
  obtain ⟨od', J'⟩ := TzOwn.inst_at I hb'
  obtain ⟨m, hF⟩ := I.fr
  rw [ho]
  refine PySem.W.cmp_K (op := op) (tb := .ref L) hr.units0 hF I.ok.mod.kin J J'.type ?_ (hn ▸ M.at_) M.fn ?_
  · unfold PySem.W.notFirst
    rw [no]
    simp
  · exact thn (run_fn (us := [.ref a, .ref b]) (vs := [.ref a, .ref b]) F hr hb .nil hx I (.cons rfl (.cons rfl .nil)) q) fun _ _ z => TzOwn.back_cmp z
end
def spFoEqL (C L : Addr) : Sp := fun vs H Q _ => ∃ a b dx dy fs gs, vs = [.ref a, .ref b] ∧ H a = some (.ins C dx fs) ∧ H b = some (.ins L dy gs) ∧ Q (.bl false) H
/-! ### what a check covers -/
def LayAt (C : Addr) (H : Hp) (p : Addr) (rows : List V) (ls : List Str) : Prop := ∃ dx wp cp lp np ol, H p = some (.ins C dx (lof wp cp lp np)) ∧ H cp = some (.tup rows) ∧ TupF H lp ol (ls.map V.str)
theorem LayAt.ex {C : Addr} {H H' : Hp} {p : Addr} {rows : List V} {ls : List Str} (h : LayAt C H p rows ls) (e : Ex H H') : LayAt C H' p rows ls := by
  obtain ⟨dx, wp, cp, lp, np, ol, h1, h2, h3⟩ := h
  exact ⟨dx, wp, cp, lp, np, ol, e _ _ h1, e _ _ h2, h3.ex e⟩
def spMembersOf (C : Addr) : Sp := fun vs H Q _ => ∃ (p : Addr) (z : Str) (rows : List V) (ls : List Str) (j : Nat) (ra : Addr) (ms : List V), vs = [.ref p, .str z] ∧ z.length ≤ 1000 ∧ LayAt C H p rows ls ∧ ls[j]? = some z ∧ (∀ m, m < j → ls[m]? ≠ some z) ∧ rows[j]? = some (.ref ra) ∧ H ra = some (.tup (.str z :: ms)) ∧ ms ≠ [] ∧ ∀ q H', Ex H H' → H' q = some (.tup ms) → Q (.ref q) H'
def spCovered (C F : Addr) : Sp := fun vs H Q _ => ∃ (p : Addr) (z : Str) (rows : List V) (ls : List Str) (j : Nat) (ra : Addr) (ms : List V), vs = [.ref p, .str z] ∧ z.length ≤ 1000 ∧ LayAt C H p rows ls ∧ ls[j]? = some z ∧ (∀ m, m < j → ls[m]? ≠ some z) ∧ rows[j]? = some (.ref ra) ∧ H ra = some (.tup (.str z :: ms)) ∧ ms ≠ [] ∧ (∀ v ∈ ms, Mem1 v) ∧ ms.length ≤ 20 ∧ ∀ a H', Ex H H' → FoAt F H' a 60 1000 → Q (.ref a) H'
/-! ### a method of a tuple that was laid -/
def tBMT (K : PySem.W.Frag) (r : V → List V → Hp → VK → Prop) (to : TE) (t : TA) : TE := fun σ H Q => to σ H fun x H1 => (∃ p o xs, x = .ref p ∧ TupF H1 p o xs) ∧ t σ H1 fun xs H2 => r x xs H2 Q
theorem pe_bmT {X : Cx} {o e : Expr} {es : List Expr} {to : TE} {t : TA} {name : Str} {apos cpos : Pos} {id : String} {r : V → List V → Hp → VK → Prop} (slot : Slot "tuple" name id) (hty : typeOf (.builtin id) = pure (.type "method_descriptor")) (hm : MtR X id r) (ho : PE X o to) (ha : PA X (e :: es) t)
    (hbase : attributeBase o name X.env (eval o X.env) = eval o X.env := by rfl)
    (hfew : ((backTo cpos (starEach (e :: es) X.env)).all (fun x => !x.1) && (backToKw cpos (keywordEach [] X.env)).all (fun x => x.1.isSome)
      && decide ((e :: es).length + ([] : List Keyword).length + (if ([] : List Keyword).isEmpty then 0 else 1) < 30)) = true := by rfl)
    (hline : (apos.endLine == cpos.line) = true := by rfl) (hs : starEach (e :: es) X.env = (false, eval e X.env) :: starEach es X.env := by rfl) (hplain : (backTo cpos (starEach es X.env)).any (·.1) = false := by rfl) :
    PE X (.Call (.Attribute o name apos) (e :: es) [] cpos) (tBMT X.K r to t) := by
  refine ⟨fun pins s σ H Q I h => ?_⟩
  refine wpAny_Call_method_late hbase hfew hline rfl (thn (ho.run pins s σ H _ I h) fun v s1 ⟨x, H1, I1, r1, ty, q1⟩ => ?_)
  obtain ⟨p, o, xs, rfl, hd, hq⟩ := ty
  cases r1
  obtain ⟨he, _⟩ := (show L2.ObjOk X.prog X.w H1 s1.heap p (.frz o (.tup xs)) from I1.hok p _ hq)
  obtain ⟨its, rv, pl, hz⟩ := I1.tuple (a := p) (xs := xs) (.inl (.inr ⟨o, hq⟩))
  obtain ⟨ob, he2, hc, _⟩ := pl
  cases he.symm.trans he2
  refine ⟨"tuple", id, PySem.F.plainAttrs_tuple, slot, hty, ⟨o, he, hc⟩, fun a e2 => ?_, ?_⟩
  · cases e2
    exact ⟨o, he, hd⟩
  have hA := ha.run cpos pins s1 σ H1 _ I1 q1
  rw [hs] at hA ⊢
  refine Calls.callWith_builtin (by show (false || (backTo cpos (starEach es X.env)).any (·.1)) = false; rw [hplain] <;> rfl) (Calls.evalArgs_plain ?_)
  exact thn hA fun us s2 ⟨vs, H2, I2, r2, q2⟩ => hm pins s2 σ H2 (.ref p) vs (.ref p) us Q I2 rfl r2 q2
theorem FoAt.updD {C D a : Addr} {H : Hp} {l : List V} {o : HO} {n b : Nat} (hD : H D = some (.lst l)) (h : FoAt C H a n b) : FoAt C (upd H D o) a n b := by
  obtain ⟨dx, sp, wr, lv, np, st, h1, h2, h3, h4, h5⟩ := h
  obtain ⟨xs, g1, g2, g3⟩ := h2.ex
  have ne : ∀ {c : Addr} {u : HO}, H c = some u → (∀ l, u ≠ .lst l) → c ≠ D := fun {c u} hc hu e => by
    rw [e, hD] at hc
    exact hu _ (Option.some.inj hc).symm
  refine ⟨dx, sp, wr, lv, np, st, by rw [upd_ne (ne h1 fun _ z => nomatch z)]; exact h1, ⟨xs, by rw [upd_ne (ne g1 fun _ z => nomatch z)]; exact g1, g2, fun i x s a b => ?_⟩, h3, h4, h5⟩
  have q := g3 i x s a b
  rw [upd_ne (ne q fun _ z => nomatch z)]
  exact q
end Tz
namespace Tz
open PySem PySem.Spec PyProof.Rows L2 TzF TzRepr
/-! ### unlike names -/
def NamesOk (ns : List Str) (n : Nat) : Prop := ns.length = n ∧ ns.Nodup ∧ ∀ s ∈ ns, nameB s = true ∧ s.length ≤ 5
def RES : List Str := ["full", "same", "like", "yes", "no"]
def Lets (l : List Nat) : Prop := ∀ c ∈ l, c ∈ LET.cps.toList
def nmW (pre suf : List Nat) (lead leap : Nat) (k : Nat) : Str := SX.S (pre ++ (97 + (lead + leap * k) % 26) :: suf)
def nmX (w : Str) : Str := if inS (.str w) RES = true then w ++ ("x" : Str) else w
theorem let_at : ∀ j, j < 26 → LET.cps.toList[j]? = some (97 + j) := by decide +kernel
theorem let_mem (j : Nat) (h : j < 26) : 97 + j ∈ LET.cps.toList := List.mem_of_getElem? (let_at j h)
theorem str_ext {a b : Str} (h : a.cps.toList = b.cps.toList) : a = b := by
  cases a; cases b
  congr 1
  exact Array.ext' h
theorem app_cps (a b : Str) : (a ++ b).cps.toList = a.cps.toList ++ b.cps.toList := by
  show (a.cps ++ b.cps).toList = _
  rw [Array.toList_append]
theorem app_emp (a : Str) : a ++ Str.empty = a := str_ext (by rw [app_cps]; exact List.append_nil _)
theorem mul_one (a : Str) : Txt.mul a 1 = a := rfl
theorem mul_zero (a : Str) : Txt.mul a 0 = Str.empty := rfl
theorem S_len (l : List Nat) : (SX.S l).length = l.length := by
  show l.toArray.size = _
  rw [List.size_toArray]
theorem nameB_is {z : Str} (h1 : 1 ≤ z.length) (h6 : z.length ≤ 6) (nn : z ∉ NON) (l : Lets z.cps.toList) : nameB z = true := by
  unfold nameB
  rw [decide_eq_true h1, decide_eq_true h6, Bool.true_and, Bool.true_and, Bool.and_eq_true]
  refine ⟨?_, List.all_eq_true.mpr fun c hc => decide_eq_true (l c hc)⟩
  rw [Bool.not_eq_true', List.any_eq_false]
  intro y hy e
  rw [beq_iff_eq] at e
  exact nn (e ▸ hy)
theorem inS_mem {z : Str} {zs : List Str} : inS (.str z) zs = true ↔ z ∈ zs := by
  show (zs.any fun y => y == z) = true ↔ _
  rw [List.any_eq_true]
  constructor
  · rintro ⟨y, hy, e⟩
    rw [← beq_iff_eq.mp e]
    exact hy
  · exact fun h => ⟨z, h, beq_self_eq_true z⟩
theorem nmX_len {w : Str} {n : Nat} (hw : w.length = n) : (nmX w).length = if inS (.str w) RES = true then n + 1 else n := by
  unfold nmX
  split
  · rw [Str.length_append, hw]; rfl
  · exact hw
theorem res_four : ∀ w ∈ RES, nameB (w ++ ("x" : Str)) = true ∧ (w ++ ("x" : Str)).length ≤ 5 := by decide +kernel
theorem non_res : ∀ w ∈ NON, w ∈ RES ∨ 6 ≤ w.length := by decide +kernel
theorem nmX_ok {w : Str} (h1 : 1 ≤ w.length) (h5 : w.length ≤ 5) (l : Lets w.cps.toList) : nameB (nmX w) = true ∧ (nmX w).length ≤ 5 := by
  unfold nmX
  split
  · rename_i h
    exact res_four w (inS_mem.mp h)
  · rename_i h
    refine ⟨nameB_is h1 (by omega) (fun hn => ?_) l, h5⟩
    rcases non_res w hn with q | q
    · exact h (inS_mem.mpr q)
    · omega
theorem nmX_inj {a b : Str} (l : a.length = b.length) (e : nmX a = nmX b) : a = b := by
  have el := congrArg Str.length e
  rw [nmX_len (n := b.length) l, nmX_len rfl] at el
  unfold nmX at e
  split at e <;> rename_i h
  · split at e <;> rename_i h'
    · have := congrArg (fun s : Str => s.cps.toList) e
      rw [app_cps, app_cps] at this
      exact str_ext (List.append_cancel_right this)
    · rw [if_pos h, if_neg h'] at el
      omega
  · split at e <;> rename_i h'
    · rw [if_neg h, if_pos h'] at el
      omega
    · exact e
theorem leap_inj {lead leap j k : Nat} (hl : leap ∈ [1, 3, 5, 7, 9, 11]) (hj : j < 10) (hk : k < 10) (e : (lead + leap * j) % 26 = (lead + leap * k) % 26) : j = k := by
  simp only [List.mem_cons, List.not_mem_nil, or_false] at hl
  rcases hl with rfl | rfl | rfl | rfl | rfl | rfl <;> omega
theorem names_ok {pre suf : List Nat} {lead leap many : Nat} (lp : Lets pre) (ls : Lets suf) (l4 : pre.length + suf.length ≤ 4) (hl : leap ∈ [1, 3, 5, 7, 9, 11]) (m : many ≤ 10) : NamesOk ((List.range many).map fun k => nmX (nmW pre suf lead leap k)) many := by
  have len : ∀ k, (nmW pre suf lead leap k).length = pre.length + suf.length + 1 := fun k => by
    unfold nmW
    rw [S_len, List.length_append, List.length_cons]
    omega
  have inj : ∀ {a b : Nat}, a ∈ List.range many → b ∈ List.range many → a ≠ b → nmX (nmW pre suf lead leap a) ≠ nmX (nmW pre suf lead leap b) := fun {a b} ha hb ne e => by
    have e := nmX_inj (by rw [len, len]) e
    have e : pre ++ (97 + (lead + leap * a) % 26) :: suf = pre ++ (97 + (lead + leap * b) % 26) :: suf := congrArg (fun s : Str => s.cps.toList) e
    have e := (List.cons.inj (List.append_cancel_left e)).1
    have ha := List.mem_range.mp ha
    have hb := List.mem_range.mp hb
    exact ne (leap_inj hl (by omega) (by omega) (by omega : (lead + leap * a) % 26 = (lead + leap * b) % 26))
  refine ⟨by rw [List.length_map, List.length_range], List.pairwise_map.mpr (List.Pairwise.imp_of_mem inj List.nodup_range), fun s hs => ?_⟩
  · obtain ⟨k, hk, rfl⟩ := List.mem_map.mp hs
    refine nmX_ok (by rw [len]; omega) (by rw [len]; omega) fun c hc => ?_
    rcases List.mem_append.mp (show c ∈ pre ++ (97 + (lead + leap * k) % 26) :: suf from hc) with hc | hc
    · exact lp c hc
    · rcases List.mem_cons.mp hc with rfl | hc
      · exact let_mem _ (Nat.mod_lt _ (by decide))
      · exact ls c hc
def spNames : Sp := fun vs H Q _ => ∃ z c cells t, ∃ many : Nat, vs = [.ref z, .int many] ∧ PenAt H z c cells t ∧ t ≤ 90000 ∧ many ≤ 10 ∧
  ∀ q ns H', H q = none → NamesOk ns many → PenAt H' z c cells (t + 10) → Fw z H H' → H' q = some (.lst (ns.map V.str)) → Q (.ref q) H'
theorem cutS_from {l : List Nat} {n : Nat} : cutS (SX.S l) (some (n : Int)) none = SX.S (l.drop n) := by rw [C8.cutS_slice, SX.slice_from (by omega), Int.toNat_natCast]
theorem S_app (a b : List Nat) : SX.S a ++ SX.S b = SX.S (a ++ b) := str_ext (by rw [app_cps])
theorem take_one {l : List Nat} {n : Nat} (h : l.length ≤ 1) : l.take n = if n = 0 then [] else l := by
  cases n with
  | zero => rw [if_pos rfl]; rfl
  | succ n => rw [if_neg (Nat.succ_ne_zero n), List.take_of_length_le (by omega)]
theorem range_snoc {α : Type} (f : Nat → α) (i : Nat) : (List.range (i + 1)).map f = (List.range i).map f ++ [f i] := by
  rw [List.range_succ, List.map_append]
  rfl
theorem x_mul (b : Bool) : MulOk ("x" : Str) (if b = true then 1 else 0) := by
  cases b with
  | true => exact ⟨by decide, fun _ h => absurd h (by decide), fun _ h => absurd h (by decide)⟩
  | false => exact ⟨by decide, fun h => absurd (by decide : (0 : Int) < 1) h, fun h => absurd (by decide : (0 : Int) < 1) h⟩
theorem nmX_mul {w : Str} : w ++ Txt.mul ("x" : Str) (if inS (.str w) RES = true then 1 else 0) = nmX w := by
  unfold nmX
  cases inS (.str w) RES with
  | true => rfl
  | false => exact app_emp w
theorem x_len (b : Bool) : (Txt.mul ("x" : Str) (if b = true then 1 else 0)).length ≤ 1 := by
  cases b <;> decide
end Tz
namespace Tz
open PySem PySem.Spec PyProof.Rows L2 TzF TzRepr
/-! ### pairs, covers -/
inductive PairV (H : Hp) : V → Bool → Prop where
  | no {v : V} {g : Ki} (d : Th H v g) (n : g.is "tuple" = false) : PairV H v false
  | tup {a : Addr} {xs : List V} (h : H a = some (.tup xs)) : PairV H (.ref a) (decide (xs.length = 2))
theorem PairV.ex {H H' : Hp} {v : V} {b : Bool} (p : PairV H v b) (e : Ex H H') : PairV H' v b := by
  cases p with
  | no d n => exact .no (d.ex e) n
  | tup h => exact .tup (e _ _ h)
theorem PairV.ext {H H' : Hp} {v : V} {b : Bool} (p : PairV H v b) (e : Ex H H') : PairV H' v b := p.ex e
def spIsPair : Sp := fun vs H Q _ => ∃ v b, vs = [v] ∧ PairV H v b ∧ Q (.bl b) H
/-- a row of a cover: a name, how many times -/
inductive CRow (H : Hp) : V → V → V → Prop where
  | mk {a : Addr} {x y : V} (h : H a = some (.tup [x, y])) : CRow H (.ref a) x y
/-- whether a value is a cover beside these names -/
inductive CoverK (H : Hp) (ks : List Str) : V → Bool → Prop where
  | no {v : V} {g : Ki} (d : Th H v g) (n : g.is "tuple" = false) : CoverK H ks v false
  | empty {a : Addr} (h : H a = some (.tup [])) : CoverK H ks (.ref a) false
  | odd {a : Addr} {xs : List V} {bs : List Bool} (h : H a = some (.tup xs)) (l : xs.length ≤ 20) (ne : xs ≠ []) (p : ∀ j, j < xs.length → PairV H (xs.getD j .non) (bs.getD j false)) (n : ((List.range xs.length).all fun j => bs.getD j false) = false) : CoverK H ks (.ref a) false
  | rows {a : Addr} {xs : List V} {ns ts : List V} (h : H a = some (.tup xs)) (l : xs.length ≤ 20) (ne : xs ≠ []) (ln : ns.length = xs.length) (lt : ts.length = xs.length)
      (r : ∀ j, j < xs.length → CRow H (xs.getD j .non) (ns.getD j .non) (ts.getD j .non) ∧ (∃ g, Th H (ns.getD j .non) g) ∧ ∃ g, Th H (ts.getD j .non) g)
      (b : (List.range xs.length).all (fun j => inS (ns.getD j .non) ks && fromV 1 9 (ts.getD j .non)) = false) : CoverK H ks (.ref a) false
  | good {a : Addr} {xs : List V} {zs : List Str} {cs : List Int} (h : H a = some (.tup xs)) (l : xs.length ≤ 20) (ne : xs ≠ []) (ln : zs.length = xs.length) (lt : cs.length = xs.length)
      (r : ∀ j, j < xs.length → CRow H (xs.getD j .non) (.str (zs.getD j "")) (.int (cs.getD j 0)))
      (k : ∀ z ∈ zs, z ∈ ks) (c : ∀ c ∈ cs, 1 ≤ c ∧ c ≤ 9) (z9 : ∀ z ∈ zs, z.length ≤ 1000) : CoverK H ks (.ref a) (decide zs.Nodup)
def spIsCover (K : PySem.W.Frag) : Sp := fun vs H Q _ => ∃ v kn ks b, vs = [v, .ref kn] ∧ SqT K H kn (ks.map V.str) ∧ CoverK H ks v b ∧ ∀ H', Ex H H' → Q (.bl b) H'
theorem putK_nm2 {ks : List Str} {z : Str} : putK (nmD ks) (Sum.inr z : Key) (.bl true) = nmD (if z ∈ ks then ks else ks ++ [z]) := by
  unfold putK
  have e : ((nmD ks).any fun kv => decide (kv.1 = (Sum.inr z : Key))) = decide (z ∈ ks) := by
    rw [Bool.eq_iff_iff, List.any_eq_true, decide_eq_true_iff]
    constructor
    · rintro ⟨kv, hkv, q⟩
      obtain ⟨y, hy, rfl⟩ := List.mem_map.mp hkv
      have := Sum.inr.inj (of_decide_eq_true q)
      subst this
      exact hy
    · exact fun h => ⟨(Sum.inr z, V.bl true), List.mem_map.mpr ⟨z, h, rfl⟩, decide_eq_true rfl⟩
  rw [e]
  by_cases q : z ∈ ks
  · rw [if_pos (decide_eq_true q), if_pos q]
    unfold nmD
    rw [List.map_map]
    refine List.map_congr_left fun y _ => ?_
    show (if (Sum.inr y : Key) = Sum.inr z then ((Sum.inr y : Key), V.bl true) else (Sum.inr y, V.bl true)) = _
    split <;> rfl
  · rw [if_neg (by rw [decide_eq_false q]; exact Bool.false_ne_true), if_neg q]
    unfold nmD
    rw [List.map_append]
    rfl
/-- the names met so far, each once -/
def Met (zs : List Str) (i : Nat) (ks : List Str) : Prop := (∀ y, y ∈ ks ↔ y ∈ zs.take i) ∧ ks.length ≤ i ∧ ((zs.take i).Nodup → ks.length = i) ∧ (¬ (zs.take i).Nodup → ks.length < i)
theorem met_zero {zs : List Str} : Met zs 0 [] := ⟨fun y => by simp, Nat.le_refl _, fun _ => rfl, fun h => absurd (by simp) h⟩
theorem met_next {zs ks : List Str} {i : Nat} {z : Str} (m : Met zs i ks) (hz : zs[i]? = some z) : Met zs (i + 1) (if z ∈ ks then ks else ks ++ [z]) := by
  obtain ⟨m1, m2, m3, m4⟩ := m
  have et : zs.take (i + 1) = zs.take i ++ [z] := by rw [List.take_add_one, hz]; rfl
  have nd : (zs.take (i + 1)).Nodup ↔ (zs.take i).Nodup ∧ z ∉ zs.take i := by
    rw [et, List.nodup_append]
    constructor
    · rintro ⟨a, _, c⟩
      exact ⟨a, fun h => c z h z (List.mem_singleton.mpr rfl) rfl⟩
    · rintro ⟨a, c⟩
      exact ⟨a, by simp, fun y hy w hw e => c (by rw [List.mem_singleton.mp hw] at e; rw [← e]; exact hy)⟩
  by_cases q : z ∈ ks
  · rw [if_pos q]
    have qz := (m1 z).mp q
    refine ⟨fun y => ?_, by omega, fun h => absurd qz (nd.mp h).2, fun _ => by omega⟩
    rw [et, List.mem_append, m1 y, List.mem_singleton]
    exact ⟨.inl, fun h => h.elim id fun e => e ▸ qz⟩
  · rw [if_neg q]
    have qz : z ∉ zs.take i := fun h => q ((m1 z).mpr h)
    refine ⟨fun y => ?_, by rw [List.length_append, List.length_singleton]; omega, fun h => by rw [List.length_append, List.length_singleton, m3 (nd.mp h).1], fun h => ?_⟩
    · rw [et, List.mem_append, List.mem_append, m1 y]
    · have := m4 fun g => h (nd.mpr ⟨g, qz⟩)
      rw [List.length_append, List.length_singleton]
      omega
theorem call_len_dK {X : Cx} : CallR X (.builtin "len") (fun xs H Q => ∃ p kvs, xs = [.ref p] ∧ H p = some (.dK kvs) ∧ Q (.int (kvs.length : Nat)) H) := by
  intro pins s σ H xs us Q I r h
  obtain ⟨p, kvs, rfl, hp, q⟩ := h
  obtain ⟨u, rfl, ru⟩ := vals1 r
  cases ru
  exact d_len I (.inl hp) fun t s' I' => ⟨.int (kvs.length : Nat), H, I', ⟨t, rfl⟩, q⟩
/-! ### contents -/
def spCheckCont (B : Addr) : Sp := fun vs H Q E => ∃ v, vs = [v] ∧ ((∃ g, Th H v g ∧ g.is "tuple" = false ∧ LayF B "contents" (.int 0) H E) ∨ (∃ a, v = .ref a ∧ H a = some (.tup []) ∧ LayF B "contents" (.int 0) H E) ∨ ∃ a xs, v = .ref a ∧ H a = some (.tup xs) ∧ xs ≠ [] ∧ xs.length ≤ 20 ∧
  ((∃ zs : List Str, xs = zs.map V.str ∧ Names zs ∧ ∀ H', Ex H H' → Q .non H') ∨ ∃ (zs : List Str) (x : V) (rest : List V) (g : Ki), xs = zs.map V.str ++ x :: rest ∧ Names zs ∧ Th H x g ∧ (nameV x = false ∨ ∃ z ∈ zs, x = .str z) ∧ LayF B "contents" (.int (zs.length : Nat)) H E))
/-! ### rows of covers -/
inductive PRow (H : Hp) (ks : List Str) : V → Bool → Prop where
  | no {v : V} {g : Ki} (d : Th H v g) (n : g.is "tuple" = false) : PRow H ks v false
  | len {a : Addr} {xs : List V} (h : H a = some (.tup xs)) (l : xs.length ≠ 2) : PRow H ks (.ref a) false
  | label {a : Addr} {x y : V} {g : Ki} (h : H a = some (.tup [x, y])) (d : Th H x g) (n : nameV x = false ∨ inS x ks = true) : PRow H ks (.ref a) false
  | good {a : Addr} {z : Str} {y : V} (h : H a = some (.tup [.str z, y])) (n : nameB z = true) (o : inS (.str z) ks = false) : PRow H ks (.ref a) true
theorem PRow.ex {H H' : Hp} {ks : List Str} {v : V} {b : Bool} (r : PRow H ks v b) (e : Ex H H') : PRow H' ks v b := by
  cases r with
  | no d n => exact .no (d.ex e) n
  | len h l => exact .len (e _ _ h) l
  | label h d n => exact .label (e _ _ h) (d.ex e) n
  | good h n o => exact .good (e _ _ h) n o
def CovsBad (H : Hp) (ks : List Str) (rows : List V) (at_ : Nat) : Prop := ∃ ls : List Str, ls.length = at_ ∧ at_ < rows.length ∧ PRow H (ks ++ ls) (rows.getD at_ .non) false ∧ ∀ j, j < at_ → PRow H (ks ++ ls.take j) (rows.getD j .non) true ∧ ∃ a y, rows.getD j .non = .ref a ∧ H a = some (.tup [.str (ls.getD j ""), y])
def CovsOk (H : Hp) (ks : List Str) (rows : List V) (ls : List Str) : Prop := ls.length = rows.length ∧ ∀ j, j < rows.length → PRow H (ks ++ ls.take j) (rows.getD j .non) true ∧ ∃ a y, rows.getD j .non = .ref a ∧ H a = some (.tup [.str (ls.getD j ""), y])
def spCheckCovs (B : Addr) : Sp := fun vs H Q E => ∃ cp v, ∃ ks : List Str, vs = [.ref cp, v] ∧ H cp = some (.tup (ks.map V.str)) ∧ ks.length ≤ 10 ∧ ((BadMany H v 3 ∧ LayF B "covers" (.int 0) H E) ∨ ∃ rows, SeqV H v rows ∧ 1 ≤ rows.length ∧ rows.length ≤ 3 ∧
  ((∃ at_, CovsBad H ks rows at_ ∧ LayF B "covers" (.int (at_ : Nat)) H E) ∨ ∃ ls, CovsOk H ks rows ls ∧ ((5 < ks.length + ls.length ∧ LayF B "names" (.int ((ks.length + ls.length : Nat) : Int)) H E) ∨ (ks.length + ls.length ≤ 5 ∧ ∀ H', Ex H H' → Q .non H'))))
/-! ### a ring's fields -/
theorem CRow.ex {H H' : Hp} {v x y : V} (r : CRow H v x y) (e : Ex H H') : CRow H' v x y := by
  cases r with
  | mk h => exact .mk (e _ _ h)
theorem CoverK.ex {H H' : Hp} {ks : List Str} {v : V} {b : Bool} (c : CoverK H ks v b) (e : Ex H H') : CoverK H' ks v b := by
  cases c with
  | no d n => exact .no (d.ex e) n
  | empty h => exact .empty (e _ _ h)
  | odd h l ne p n => exact .odd (e _ _ h) l ne (fun j hj => (p j hj).ex e) n
  | rows h l ne ln lt r b => exact .rows (e _ _ h) l ne ln lt (fun j hj => ⟨(r j hj).1.ex e, (r j hj).2.1.imp fun _ d => d.ex e, (r j hj).2.2.imp fun _ d => d.ex e⟩) b
  | good h l ne ln lt r k c z9 => exact .good (e _ _ h) l ne ln lt (fun j hj => (r j hj).ex e) k c z9
structure RgAt (C : Addr) (H : Hp) (p cp vp kp : Addr) : Prop where
  ex : ∃ dx fs, H p = some (.ins C dx fs) ∧ fs.lookup ("contents" : Str) = some (.ref cp) ∧ fs.lookup ("covers" : Str) = some (.ref vp) ∧ fs.lookup ("checks" : Str) = some (.ref kp)
theorem RgAt.mono {C : Addr} {H H' : Hp} {p cp vp kp : Addr} (r : RgAt C H p cp vp kp) (e : Ex H H') : RgAt C H' p cp vp kp := by
  obtain ⟨dx, fs, h, q⟩ := r.ex
  exact ⟨dx, fs, e _ _ h, q⟩
/-- rows of covers: labels and what they cover -/
def CvAt (H : Hp) (rows : List V) (cs : List Str) (covs : List V) : Prop := cs.length = rows.length ∧ covs.length = rows.length ∧ ∀ j, j < rows.length → CRow H (rows.getD j .non) (.str (cs.getD j "")) (covs.getD j .non)
def spCheckTot (C B : Addr) : Sp := fun vs H Q E => ∃ p cp vp kp ol ks cs rows covs, vs = [.ref p] ∧ RgAt C H p cp vp kp ∧ H cp = some (.tup (List.map V.str ks)) ∧ TupF H kp ol (List.map V.str cs) ∧ H vp = some (.tup rows) ∧ CvAt H rows cs covs ∧ ks ≠ [] ∧ cs ≠ [] ∧ ks.length ≤ 10 ∧ cs.length ≤ 10 ∧
  ((∃ at_ : Nat, at_ < rows.length ∧ (∀ j, j < at_ → CoverK H (ks ++ cs) (covs.getD j .non) true) ∧ CoverK H (ks ++ cs) (covs.getD at_ .non) false ∧ LayF B "total" (.int (at_ : Nat)) H E) ∨ ((∀ j, j < rows.length → CoverK H (ks ++ cs) (covs.getD j .non) true) ∧ ∀ H', Ex H H' → Q .non H'))
def spCheckSum (K : PySem.W.Frag) (B : Addr) : Sp := fun vs H Q E => ∃ v kp, ∃ cs : List Str, vs = [v, .ref kp] ∧ SqT K H kp (cs.map V.str) ∧ ((∃ g, Th H v g ∧ g.is "tuple" = false ∧ LayF B "summed" (.int 0) H E) ∨ ∃ a xs, v = .ref a ∧ H a = some (.tup xs) ∧ xs.length ≤ 20 ∧
  ((∃ zs : List Str, xs = zs.map V.str ∧ (∀ z ∈ zs, z ∈ cs ∧ z.length ≤ 1000) ∧ zs.Nodup ∧ ∀ H', Ex H H' → Q .non H') ∨ ∃ (zs : List Str) (x : V) (rest : List V) (g : Ki), xs = zs.map V.str ++ x :: rest ∧ (∀ z ∈ zs, z ∈ cs ∧ z.length ≤ 1000) ∧ zs.Nodup ∧ Th H x g ∧ (inS x cs = false ∨ ∃ z ∈ zs, x = .str z) ∧ LayF B "summed" (.int (zs.length : Nat)) H E))
end Tz
namespace Tz
open PySem PySem.Spec PyProof.Rows L2 TzF TzRepr
/-! ### what a check covers, as a formula -/
structure RgFs (C : Addr) (H : Hp) (p kp vp : Addr) (ol : Obj) (cs : List Str) (rows covs : List V) : Prop where
  ex : ∃ dx fs, H p = some (.ins C dx fs) ∧ fs.lookup ("covers" : Str) = some (.ref vp) ∧ fs.lookup ("checks" : Str) = some (.ref kp) ∧ fs.lookup ("sum_of" : Str) = none ∧ fs.lookup ("wish" : Str) = none
  k : TupF H kp ol (cs.map V.str)
  v : H vp = some (.tup rows)
  cv : CvAt H rows cs covs
theorem RgFs.mono {C : Addr} {H H' : Hp} {p kp vp : Addr} {ol : Obj} {cs : List Str} {rows covs : List V} (r : RgFs C H p kp vp ol cs rows covs) (e : Ex H H') : RgFs C H' p kp vp ol cs rows covs := by
  obtain ⟨⟨dx, fs, h, q⟩, k, v, ⟨c1, c2, c3⟩⟩ := r
  exact ⟨⟨dx, fs, e _ _ h, q⟩, k.ex e, e _ _ v, c1, c2, fun j hj => (c3 j hj).ex e⟩
/-- the place of a label -/
def LabIx (cs : List Str) (j : Nat) (z : Str) : Prop := cs[j]? = some z ∧ ∀ m, m < j → cs[m]? ≠ some z
def spCoverOf (C : Addr) : Sp := fun vs H Q _ => ∃ p kp vp ol cs rows covs j z, vs = [.ref p, .str z] ∧ RgFs C H p kp vp ol cs rows covs ∧ z.length ≤ 1000 ∧ LabIx cs j z ∧ Q (covs.getD j .non) H
/-- a cover that is right: names, how many times -/
structure GoodCv (H : Hp) (v : V) (L : Nat) : Prop where
  ex : ∃ a xs, ∃ zs : List Str, ∃ cs : List Int, v = .ref a ∧ H a = some (.tup xs) ∧ xs.length = L ∧ zs.length = L ∧ cs.length = L ∧ (∀ j, j < L → CRow H (xs.getD j .non) (.str (zs.getD j "")) (.int (cs.getD j 0))) ∧ (∀ z ∈ zs, nameB z = true) ∧ ∀ c ∈ cs, 1 ≤ c ∧ c ≤ 9
theorem GoodCv.mono {H H' : Hp} {v : V} {L : Nat} (g : GoodCv H v L) (e : Ex H H') : GoodCv H' v L := by
  obtain ⟨a, xs, zs, cs, h1, h2, h3, h4, h5, h6, h7⟩ := g.ex
  exact ⟨a, xs, zs, cs, h1, e _ _ h2, h3, h4, h5, fun j hj => (h6 j hj).ex e, h7⟩
def spSumOf (C F : Addr) : Sp := fun vs H Q _ => ∃ p kp vp ol cs rows covs j z L, vs = [.ref p, .str z] ∧ RgFs C H p kp vp ol cs rows covs ∧ z.length ≤ 1000 ∧ LabIx cs j z ∧ GoodCv H (covs.getD j .non) L ∧ 1 ≤ L ∧ L ≤ 5 ∧ ∀ a H', Ex H H' → FoN F H' a (3 * L) (22 * L) → Q (.ref a) H'
def spWish (C F S : Addr) : Sp := fun vs H Q _ => ∃ p kp vp ol cs rows covs j z L mp, ∃ ms : List Str, vs = [.ref p, .str z] ∧ RgFs C H p kp vp ol cs rows covs ∧ (∃ dx fs, H p = some (.ins C dx fs) ∧ fs.lookup ("summed" : Str) = some (.ref mp)) ∧ H mp = some (.tup (ms.map V.str)) ∧ nameB z = true ∧ LabIx cs j z ∧ GoodCv H (covs.getD j .non) L ∧ 1 ≤ L ∧ L ≤ 5 ∧
  ∀ a H', Ex H H' → SayAt S F H' a (3 * L + 3) 1100 → Q (.ref a) H'
theorem FoN.updD {C D a : Addr} {H : Hp} {l : List V} {o : HO} {n b : Nat} (hD : H D = some (.lst l)) (h : FoN C H a n b) : FoN C (upd H D o) a n b := by
  obtain ⟨dx, sp, wr, lv, np, st, ys, h1, ⟨⟨xs, g1, g2, g3⟩⟩, h3, h4, h5, h6, h7⟩ := h
  have ne : ∀ {c : Addr} {u : HO}, H c = some u → (∀ l, u ≠ .lst l) → c ≠ D := fun {c u} hc hu e => by
    rw [e, hD] at hc
    exact hu _ (Option.some.inj hc).symm
  have tup : ∀ {c : Addr} {ys : List V}, H c = some (.tup ys) → upd H D o c = some (.tup ys) := fun {c ys} q => by
    rw [upd_ne (ne q fun _ z => nomatch z)]
    exact q
  exact ⟨dx, sp, wr, lv, np, st, ys, by rw [upd_ne (ne h1 fun _ z => nomatch z)]; exact h1, ⟨⟨xs, tup g1, g2, fun i x s a b => tup (g3 i x s a b)⟩⟩, h3, h4, h5, tup h6, h7⟩
theorem getD_memS {l : List Str} {j : Nat} (h : j < l.length) : l.getD j "" ∈ l := by
  rw [List.getD_eq_getElem?_getD, List.getElem?_eq_getElem h]
  exact List.getElem_mem h
theorem getD_memI {l : List Int} {j : Nat} (h : j < l.length) : l.getD j 0 ∈ l := by
  rw [List.getD_eq_getElem?_getD, List.getElem?_eq_getElem h]
  exact List.getElem_mem h
end Tz
namespace Tz
open PySem PySem.Spec PyProof.Rows L2 TzF TzRepr
/-- a cover that names a check -/
def Looped (H : Hp) (v : V) (cs : List Str) : Prop := ∃ a xs, ∃ zs : List Str, v = .ref a ∧ H a = some (.tup xs) ∧ zs.length = xs.length ∧ xs.length ≤ 10 ∧ (∀ j, j < xs.length → ∃ y, CRow H (xs.getD j .non) (.str (zs.getD j "")) y) ∧ (∀ z ∈ zs, z.length ≤ 1000) ∧ ∃ z ∈ zs, z ∈ cs
theorem Looped.mono {H H' : Hp} {v : V} {cs : List Str} (g : Looped H v cs) (e : Ex H H') : Looped H' v cs := by
  obtain ⟨a, xs, zs, h1, h2, h3, h4, h5, h6⟩ := g
  exact ⟨a, xs, zs, h1, e _ _ h2, h3, h4, fun j hj => (h5 j hj).imp fun y r => r.ex e, h6⟩
def spLayers (C : Addr) : Sp := fun vs H Q _ => ∃ p kp vp ol cs rows covs, vs = [.ref p] ∧ RgFs C H p kp vp ol cs rows covs ∧ cs.Nodup ∧ cs ≠ [] ∧ cs.length ≤ 10 ∧ (∀ c ∈ cs, c.length ≤ 1000) ∧ (∀ j, j < rows.length → Looped H (covs.getD j .non) cs) ∧ ∀ H', Ex H H' → Q .non H'
theorem lab_ix {cs : List Str} {j : Nat} {z : Str} (nd : cs.Nodup) (h : cs[j]? = some z) : LabIx cs j z := by
  refine ⟨h, fun m hm q => ?_⟩
  have l := (List.getElem?_eq_some_iff.mp h).1
  have := (List.getElem?_inj (by omega) nd).mp (q.trans h.symm)
  omega
end Tz
namespace Tz
open PySem PySem.Spec PyProof.Rows L2 TzF TzRepr
/-! ### a ring that is made, or refused -/
def ContBad (H : Hp) (cv : V) (n : Nat) : Prop := (∃ g, Th H cv g ∧ g.is "tuple" = false ∧ n = 0) ∨ (∃ a, cv = .ref a ∧ H a = some (.tup []) ∧ n = 0) ∨
  ∃ (a : Addr) (zs : List Str) (x : V) (rest : List V) (g : Ki), cv = .ref a ∧ H a = some (.tup (zs.map V.str ++ x :: rest)) ∧ zs.length + rest.length + 1 ≤ 20 ∧ Names zs ∧ Th H x g ∧ (nameV x = false ∨ ∃ z ∈ zs, x = .str z) ∧ n = zs.length
def SumBad (H : Hp) (cs : List Str) (sv : V) (n : Nat) : Prop := (∃ g, Th H sv g ∧ g.is "tuple" = false ∧ n = 0) ∨
  ∃ (a : Addr) (zs : List Str) (x : V) (rest : List V) (g : Ki), sv = .ref a ∧ H a = some (.tup (zs.map V.str ++ x :: rest)) ∧ zs.length + rest.length + 1 ≤ 20 ∧ (∀ z ∈ zs, z ∈ cs ∧ z.length ≤ 1000) ∧ zs.Nodup ∧ Th H x g ∧ (inS x cs = false ∨ ∃ z ∈ zs, x = .str z) ∧ n = zs.length
def TotBad (H : Hp) (ks : List Str) (covs : List V) (n : Nat) : Prop := n < covs.length ∧ (∀ j, j < n → CoverK H ks (covs.getD j .non) true) ∧ CoverK H ks (covs.getD n .non) false
/-- the facts stand at H0, ahead of the new ring; all that it is given lies there -/
def spRingInit (C B : Addr) : Sp := fun vs H Q E => ∃ p dx cv v sv H0, vs = [.ref p, cv, v, sv] ∧ H p = some (.ins C dx []) ∧ H0 p = none ∧ Ex H0 H ∧ ((∃ n : Nat, ContBad H0 cv n ∧ LayF B "contents" (.int n) H0 E) ∨ ∃ ca, ∃ ks : List Str, cv = .ref ca ∧ H0 ca = some (.tup (ks.map V.str)) ∧ ks ≠ [] ∧ Names ks ∧ ks.length ≤ 10 ∧
  ((BadMany H0 v 3 ∧ LayF B "covers" (.int 0) H0 E) ∨ ∃ rows, SeqV H0 v rows ∧ 1 ≤ rows.length ∧ rows.length ≤ 3 ∧ ((∃ n : Nat, CovsBad H0 ks rows n ∧ LayF B "covers" (.int n) H0 E) ∨ ∃ cs covs, CovsOk H0 ks rows cs ∧ CvAt H0 rows cs covs ∧
    ((5 < ks.length + cs.length ∧ LayF B "names" (.int ((ks.length + cs.length : Nat) : Int)) H0 E) ∨ (ks.length + cs.length ≤ 5 ∧ ((∃ n : Nat, TotBad H0 (ks ++ cs) covs n ∧ LayF B "total" (.int n) H0 E) ∨ ((∀ j, j < rows.length → CoverK H0 (ks ++ cs) (covs.getD j .non) true) ∧
      ((∃ n : Nat, SumBad H0 cs sv n ∧ LayF B "summed" (.int n) H0 E) ∨ ∃ sa, ∃ ms : List Str, sv = .ref sa ∧ H0 sa = some (.tup (ms.map V.str)) ∧ ms.length ≤ 20 ∧ (∀ m ∈ ms, m ∈ cs ∧ m.length ≤ 1000) ∧ ms.Nodup ∧ rows.length = 2 ∧ (∀ j, j < 2 → ∃ L, GoodCv H0 (covs.getD j .non) L ∧ 1 ≤ L ∧ L ≤ 3) ∧ (∀ j, j < 2 → Looped H0 (covs.getD j .non) cs) ∧ (∀ c ∈ cs, nameB c = true) ∧ cs.Nodup ∧ ∀ H', Ex H0 H' → Q .non H'))))))))
def kwC {α : Type} (a b : List α) : List α := a ++ b
theorem kwC_vals {vs zs : List V} {us ws : List Value} (r : Vals vs us) (z : Vals zs ws) : Vals (kwC vs zs) (kwC us ws) := r.append z
end Tz
namespace Tz
open PySem PySem.Spec PyProof.Rows L2 TzF TzRepr
def rof1 (cp vp kp : Addr) : List (Str × V) := putF "checks" (.ref kp) (putF "covers" (.ref vp) (putF "contents" (.ref cp) []))
def rof2 (cp vp kp : Addr) (sv : V) : List (Str × V) := putF "summed" sv (rof1 cp vp kp)
def rof3 (cp vp kp : Addr) (sv fv : V) : List (Str × V) := putF "_fits" fv (rof2 cp vp kp sv)
section
variable {cp vp kp : Addr} {sv fv : V}
theorem rof1_checks : (rof1 cp vp kp).lookup ("checks" : Str) = some (.ref kp) := by
  unfold rof1
  rw [lookup_putF, if_pos rfl]
theorem rof1_covers : (rof1 cp vp kp).lookup ("covers" : Str) = some (.ref vp) := by
  unfold rof1
  rw [lookup_putF, if_neg (by decide +kernel), lookup_putF, if_pos rfl]
theorem rof1_contents : (rof1 cp vp kp).lookup ("contents" : Str) = some (.ref cp) := by
  unfold rof1
  rw [lookup_putF, if_neg (by decide +kernel), lookup_putF, if_neg (by decide +kernel), lookup_putF, if_pos rfl]
theorem rof1_sum_of : (rof1 cp vp kp).lookup ("sum_of" : Str) = none := by
  unfold rof1
  rw [lookup_putF, if_neg (by decide +kernel), lookup_putF, if_neg (by decide +kernel), lookup_putF, if_neg (by decide +kernel)]
  rfl
theorem rof1_wish : (rof1 cp vp kp).lookup ("wish" : Str) = none := by
  unfold rof1
  rw [lookup_putF, if_neg (by decide +kernel), lookup_putF, if_neg (by decide +kernel), lookup_putF, if_neg (by decide +kernel)]
  rfl
theorem rof2_summed : (rof2 cp vp kp sv).lookup ("summed" : Str) = some (sv) := by
  unfold rof2 rof1
  rw [lookup_putF, if_pos rfl]
theorem rof2_checks : (rof2 cp vp kp sv).lookup ("checks" : Str) = some (.ref kp) := by
  unfold rof2 rof1
  rw [lookup_putF, if_neg (by decide +kernel), lookup_putF, if_pos rfl]
theorem rof2_covers : (rof2 cp vp kp sv).lookup ("covers" : Str) = some (.ref vp) := by
  unfold rof2 rof1
  rw [lookup_putF, if_neg (by decide +kernel), lookup_putF, if_neg (by decide +kernel), lookup_putF, if_pos rfl]
theorem rof2_contents : (rof2 cp vp kp sv).lookup ("contents" : Str) = some (.ref cp) := by
  unfold rof2 rof1
  rw [lookup_putF, if_neg (by decide +kernel), lookup_putF, if_neg (by decide +kernel), lookup_putF, if_neg (by decide +kernel), lookup_putF, if_pos rfl]
theorem rof2_sum_of : (rof2 cp vp kp sv).lookup ("sum_of" : Str) = none := by
  unfold rof2 rof1
  rw [lookup_putF, if_neg (by decide +kernel), lookup_putF, if_neg (by decide +kernel), lookup_putF, if_neg (by decide +kernel), lookup_putF, if_neg (by decide +kernel)]
  rfl
theorem rof2_wish : (rof2 cp vp kp sv).lookup ("wish" : Str) = none := by
  unfold rof2 rof1
  rw [lookup_putF, if_neg (by decide +kernel), lookup_putF, if_neg (by decide +kernel), lookup_putF, if_neg (by decide +kernel), lookup_putF, if_neg (by decide +kernel)]
  rfl
theorem rof3_summed : (rof3 cp vp kp sv fv).lookup ("summed" : Str) = some (sv) := by
  unfold rof3 rof2 rof1
  rw [lookup_putF, if_neg (by decide +kernel), lookup_putF, if_pos rfl]
theorem rof3_checks : (rof3 cp vp kp sv fv).lookup ("checks" : Str) = some (.ref kp) := by
  unfold rof3 rof2 rof1
  rw [lookup_putF, if_neg (by decide +kernel), lookup_putF, if_neg (by decide +kernel), lookup_putF, if_pos rfl]
theorem rof3_covers : (rof3 cp vp kp sv fv).lookup ("covers" : Str) = some (.ref vp) := by
  unfold rof3 rof2 rof1
  rw [lookup_putF, if_neg (by decide +kernel), lookup_putF, if_neg (by decide +kernel), lookup_putF, if_neg (by decide +kernel), lookup_putF, if_pos rfl]
theorem rof3_contents : (rof3 cp vp kp sv fv).lookup ("contents" : Str) = some (.ref cp) := by
  unfold rof3 rof2 rof1
  rw [lookup_putF, if_neg (by decide +kernel), lookup_putF, if_neg (by decide +kernel), lookup_putF, if_neg (by decide +kernel), lookup_putF, if_neg (by decide +kernel), lookup_putF, if_pos rfl]
theorem rof3_sum_of : (rof3 cp vp kp sv fv).lookup ("sum_of" : Str) = none := by
  unfold rof3 rof2 rof1
  rw [lookup_putF, if_neg (by decide +kernel), lookup_putF, if_neg (by decide +kernel), lookup_putF, if_neg (by decide +kernel), lookup_putF, if_neg (by decide +kernel), lookup_putF, if_neg (by decide +kernel)]
  rfl
theorem rof3_wish : (rof3 cp vp kp sv fv).lookup ("wish" : Str) = none := by
  unfold rof3 rof2 rof1
  rw [lookup_putF, if_neg (by decide +kernel), lookup_putF, if_neg (by decide +kernel), lookup_putF, if_neg (by decide +kernel), lookup_putF, if_neg (by decide +kernel), lookup_putF, if_neg (by decide +kernel)]
  rfl
end
theorem SayAt.mono {C F : Addr} {H : Hp} {a : Addr} {n b n' b' : Nat} (h : SayAt C F H a n b) (hn : n ≤ n') (hb : b ≤ b') : SayAt C F H a n' b' := by
  obtain ⟨dx, sp, m, wr, lv, np, st, h1, h2, h3, h4⟩ := h
  exact ⟨dx, sp, m, wr, lv, np, st, h1, h2, Nat.le_trans h3 hn, Nat.le_trans h4 hb⟩
theorem SayAt.updD {C F D a : Addr} {H : Hp} {l : List V} {o : HO} {n b : Nat} (hD : H D = some (.lst l)) (h : SayAt C F H a n b) : SayAt C F (upd H D o) a n b := by
  obtain ⟨dx, sp, m, wr, lv, np, st, h1, ⟨⟨xs, g1, g2, g3⟩⟩, h3, h4⟩ := h
  have ne : ∀ {c : Addr} {u : HO}, H c = some u → (∀ l, u ≠ .lst l) → c ≠ D := fun {c u} hc hu e => by
    rw [e, hD] at hc
    exact hu _ (Option.some.inj hc).symm
  have tup : ∀ {c : Addr} {ys : List V}, H c = some (.tup ys) → upd H D o c = some (.tup ys) := fun {c ys} q => by
    rw [upd_ne (ne q fun _ z => nomatch z)]
    exact q
  refine ⟨dx, sp, m, wr, lv, np, st, by rw [upd_ne (ne h1 fun _ z => nomatch z)]; exact h1, ⟨⟨xs, tup g1, g2, fun i x s a b => ?_⟩⟩, h3, h4⟩
  obtain ⟨pp, q1, q2, q3⟩ := g3 i x s a b
  exact ⟨pp, tup q1, tup q2, fun f hf => ⟨(q3 f hf).1.updD hD, (q3 f hf).2⟩⟩
theorem CovsBad.ex {H H' : Hp} {ks : List Str} {rows : List V} {n : Nat} (b : CovsBad H ks rows n) (e : Ex H H') : CovsBad H' ks rows n := by
  obtain ⟨ls, l, lt, r, g⟩ := b
  refine ⟨ls, l, lt, r.ex e, fun j hj => ?_⟩
  obtain ⟨r, a, y, ea, ha⟩ := g j hj
  exact ⟨r.ex e, a, y, ea, e _ _ ha⟩
theorem CovsOk.ex {H H' : Hp} {ks : List Str} {rows : List V} {ls : List Str} (b : CovsOk H ks rows ls) (e : Ex H H') : CovsOk H' ks rows ls := by
  obtain ⟨l, g⟩ := b
  refine ⟨l, fun j hj => ?_⟩
  obtain ⟨r, a, y, ea, ha⟩ := g j hj
  exact ⟨r.ex e, a, y, ea, e _ _ ha⟩
theorem CvAt.ex {H H' : Hp} {rows : List V} {cs : List Str} {covs : List V} (c : CvAt H rows cs covs) (e : Ex H H') : CvAt H' rows cs covs := ⟨c.1, c.2.1, fun j hj => (c.2.2 j hj).ex e⟩
/-- what a ring's fields are set to leaves all that was there ahead of it -/
theorem Ex.setP {H0 H : Hp} {p : Addr} {o : HO} (np : H0 p = none) (e : Ex H0 H) : Ex H0 (upd H p o) := Ex.keepD np e
end Tz
namespace Tz
open PySem PySem.Spec PyProof.Rows L2 TzF TzRepr
/-! ### k80's law -/
theorem draw8a {cell ix a b : Int} (h0 : 0 ≤ ix) (h1 : ix ≤ 100000) (ha : 0 ≤ a) (ha2 : a ≤ 1000000) (hb : 0 ≤ b) (hb2 : b ≤ 1000000) : CPow (cell % 2147483477 + a * ix + b) 5 := by
  have h := emod_bd (a := cell) (m := 2147483477) (by decide)
  have m := mul_bd ha ha2 h0 h1
  exact cpow_of (by omega) (by omega) (by decide) (by decide)
theorem draw8b {m ix c d e : Int} (h0 : 0 ≤ ix) (h1 : ix ≤ 100000) (m0 : 0 ≤ m) (m1 : m < 2147483477) (hc : 0 ≤ c) (hc2 : c ≤ 1000000) (hd : 0 ≤ d) (hd2 : d ≤ 1000000) (he : 0 ≤ e) (he2 : e ≤ 1000000) :
    CPow (m * (2 * ix + c) + d * ix * ix + e) 3 := by
  have a := mul_bd m0 (A := 2147483629) (by omega) (b := 2 * ix + c) (by omega) (B := 1200000) (by omega)
  have b := mul_bd hd hd2 h0 h1
  have g := mul_bd b.1 b.2 h0 h1
  exact cpow_of (by omega) (by omega) (by decide) (by decide)
def spOne : Sp := fun vs H Q _ => ∃ z c cells t l, ∃ xs : List V, vs = [.ref z, .ref l] ∧ PenAt H z c cells t ∧ t ≤ 100000 ∧ H l = some (.lst xs) ∧ 0 < xs.length ∧ xs.length ≤ 100 ∧ l ≠ z ∧
  ∀ (j : Nat) y H', xs[j]? = some y → PenAt H' z c cells (t + 1) → Fw z H H' → Q y H'
end Tz
namespace Tz
open PySem PySem.Spec PyProof.Rows L2 TzF TzRepr
/-! ### a ring refused, a ring taken -/
/-- what the totals are read from: right contents and right covers -/
structure RgTo (H : Hp) (cv v : V) (ca : Addr) (ks : List Str) (rows : List V) (cs : List Str) (covs : List V) : Prop where
  cv : cv = .ref ca
  hc : H ca = some (.tup (ks.map V.str))
  ne : ks ≠ []
  nm : Names ks
  k10 : ks.length ≤ 10
  seq : SeqV H v rows
  r1 : 1 ≤ rows.length
  r3 : rows.length ≤ 3
  ok : CovsOk H ks rows cs
  at_ : CvAt H rows cs covs
inductive RgBad (H : Hp) (cv v sv : V) : Str → Nat → Prop where
  | cont {n : Nat} (b : ContBad H cv n) : RgBad H cv v sv "contents" n
  | many {ca : Addr} {ks : List Str} (e : cv = .ref ca) (hc : H ca = some (.tup (ks.map V.str))) (ne : ks ≠ []) (nm : Names ks) (k10 : ks.length ≤ 10) (b : BadMany H v 3) : RgBad H cv v sv "covers" 0
  | covs {ca : Addr} {ks : List Str} {rows : List V} {n : Nat} (e : cv = .ref ca) (hc : H ca = some (.tup (ks.map V.str))) (ne : ks ≠ []) (nm : Names ks) (k10 : ks.length ≤ 10) (s : SeqV H v rows) (r1 : 1 ≤ rows.length) (r3 : rows.length ≤ 3) (b : CovsBad H ks rows n) : RgBad H cv v sv "covers" n
  | names {ca : Addr} {ks : List Str} {rows : List V} {cs : List Str} {covs : List V} (g : RgTo H cv v ca ks rows cs covs) (l : 5 < ks.length + cs.length) : RgBad H cv v sv "names" (ks.length + cs.length)
  | total {ca : Addr} {ks : List Str} {rows : List V} {cs : List Str} {covs : List V} {n : Nat} (g : RgTo H cv v ca ks rows cs covs) (l : ks.length + cs.length ≤ 5) (b : TotBad H (ks ++ cs) covs n) : RgBad H cv v sv "total" n
  | summed {ca : Addr} {ks : List Str} {rows : List V} {cs : List Str} {covs : List V} {n : Nat} (g : RgTo H cv v ca ks rows cs covs) (l : ks.length + cs.length ≤ 5) (t : ∀ j, j < rows.length → CoverK H (ks ++ cs) (covs.getD j .non) true) (b : SumBad H cs sv n) : RgBad H cv v sv "summed" n
def RgGood (H : Hp) (cv v sv : V) : Prop := ∃ (ca : Addr) (ks : List Str) (rows : List V) (cs : List Str) (covs : List V) (sa : Addr) (ms : List Str), RgTo H cv v ca ks rows cs covs ∧ ks.length + cs.length ≤ 5 ∧ (∀ j, j < rows.length → CoverK H (ks ++ cs) (covs.getD j .non) true) ∧
  sv = .ref sa ∧ H sa = some (.tup (ms.map V.str)) ∧ ms.length ≤ 20 ∧ (∀ m ∈ ms, m ∈ cs ∧ m.length ≤ 1000) ∧ ms.Nodup ∧ rows.length = 2 ∧ (∀ j, j < 2 → ∃ L, GoodCv H (covs.getD j .non) L ∧ 1 ≤ L ∧ L ≤ 3) ∧ (∀ j, j < 2 → Looped H (covs.getD j .non) cs) ∧ (∀ c ∈ cs, nameB c = true) ∧ cs.Nodup
theorem rg_bad {C B p dx : Addr} {cv v sv : V} {H0 H : Hp} {part : Str} {n : Nat} {Q : VK} {E : XK} (b : RgBad H0 cv v sv part n) (hp : H p = some (.ins C dx [])) (np : H0 p = none) (e : Ex H0 H) (f : LayF B part (.int n) H0 E) : spRingInit C B [.ref p, cv, v, sv] H Q E := by
  refine ⟨p, dx, cv, v, sv, H0, rfl, hp, np, e, ?_⟩
  cases b with
  | cont b => exact .inl ⟨_, b, f⟩
  | many e hc ne nm k10 b => exact .inr ⟨_, _, e, hc, ne, nm, k10, .inl ⟨b, f⟩⟩
  | covs e hc ne nm k10 s r1 r3 b => exact .inr ⟨_, _, e, hc, ne, nm, k10, .inr ⟨_, s, r1, r3, .inl ⟨_, b, f⟩⟩⟩
  | names g l => exact .inr ⟨_, _, g.cv, g.hc, g.ne, g.nm, g.k10, .inr ⟨_, g.seq, g.r1, g.r3, .inr ⟨_, _, g.ok, g.at_, .inl ⟨l, f⟩⟩⟩⟩
  | total g l b => exact .inr ⟨_, _, g.cv, g.hc, g.ne, g.nm, g.k10, .inr ⟨_, g.seq, g.r1, g.r3, .inr ⟨_, _, g.ok, g.at_, .inr ⟨l, .inl ⟨_, b, f⟩⟩⟩⟩⟩
  | summed g l t b => exact .inr ⟨_, _, g.cv, g.hc, g.ne, g.nm, g.k10, .inr ⟨_, g.seq, g.r1, g.r3, .inr ⟨_, _, g.ok, g.at_, .inr ⟨l, .inr ⟨t, .inl ⟨_, b, f⟩⟩⟩⟩⟩⟩
theorem rg_good {C B p dx : Addr} {cv v sv : V} {H0 H : Hp} {Q : VK} {E : XK} (b : RgGood H0 cv v sv) (hp : H p = some (.ins C dx [])) (np : H0 p = none) (e : Ex H0 H) (f : ∀ H', Ex H0 H' → Q .non H') : spRingInit C B [.ref p, cv, v, sv] H Q E := by
  obtain ⟨ca, ks, rows, cs, covs, sa, ms, g, l, t, h⟩ := b
  obtain ⟨h1, h2, h3, h4, h5, h6, h7, h8, h9, h10⟩ := h
  exact ⟨p, dx, cv, v, sv, H0, rfl, hp, np, e, .inr ⟨_, _, g.cv, g.hc, g.ne, g.nm, g.k10, .inr ⟨_, g.seq, g.r1, g.r3, .inr ⟨_, _, g.ok, g.at_, .inr ⟨l, .inr ⟨t, .inr ⟨sa, ms, h1, h2, h3, h4, h5, h6, h7, h8, h9, h10, f⟩⟩⟩⟩⟩⟩⟩
def spRfs : Sp := fun vs H Q _ => ∃ cv v sv, vs = [cv, v, sv] ∧ ((∃ part n, RgBad H cv v sv part n ∧ ∀ q H', Ex H H' → H' q = some (.tup [.str part, .int n]) → Q (.ref q) H') ∨ (RgGood H cv v sv ∧ ∀ H', Ex H H' → Q .non H'))
theorem pss_ex {X : Cx} {ss : List Stmt} {t : XK → TS} {W : WX} (h : ∀ Ech : XK, (∀ k d z J, Ech k d J → W k d z J) → PSs X ss (t Ech)) : PSs X ss (fun D z J => ∃ Ech : XK, (∀ k d z J, Ech k d J → W k d z J) ∧ t Ech D z J) :=
  ⟨fun pins s z J D I ⟨Ech, hW, q⟩ => (h Ech hW).run pins s z J D I q⟩
/-- a ring's error, in flight -/
def Torn (B : Addr) (H0 : Hp) (part : Str) (n : Nat) : XK := fun k d J => Ex H0 J ∧ k = .ref B ∧ ∃ dd, d = some dd ∧ J dd = some (.xd [("at", .int n), ("part", .str part)])
theorem fly_torn {B : Addr} {H : Hp} {part : Str} {n : Nat} : LayF B part (.int n) H (Torn B H part n) := fun d H' e q => ⟨e, rfl, d, rfl, q⟩
end Tz
namespace Tz
open PySem PySem.Spec PyProof.Rows L2 TzF TzRepr
/-! ### what is bent -/
theorem cut_dropR {xs : List V} {n : Nat} : cutV xs (some (n : Int)) none = xs.drop n := by
  unfold cutV
  show (xs.drop (if (n : Int) < 0 then ((n : Int) + (xs.length : Nat)).toNat else min (n : Int).toNat xs.length)).take (xs.length - (if (n : Int) < 0 then ((n : Int) + (xs.length : Nat)).toNat else min (n : Int).toNat xs.length)) = _
  rw [if_neg (by omega), Int.toNat_natCast]
  by_cases h : n ≤ xs.length
  · rw [Nat.min_eq_left h, List.take_of_length_le (by rw [List.length_drop]; omega)]
  · rw [Nat.min_eq_right (by omega), List.drop_of_length_le (Nat.le_refl _), List.drop_of_length_le (by omega)]
    exact List.take_nil
theorem Fw.backR {z p : Addr} {H H' : Hp} (f : Fw z H H') (np : H' p = none) (n : p ≠ z) : H p = none := by
  cases q : H p with
  | none => rfl
  | some o =>
    rw [f _ _ n q] at np
    cases np
/-- a fact that the pen leaves -/
def Aft (z : Addr) (H : Hp) (P : Hp → Prop) : Prop := ∀ H', Fw z H H' → P H'
theorem Aft.fw {z : Addr} {H H' : Hp} {P : Hp → Prop} (a : Aft z H P) (f : Fw z H H') : Aft z H' P := fun H'' f' => a H'' (f.trans f')
theorem Aft.now {z : Addr} {H : Hp} {P : Hp → Prop} (a : Aft z H P) : P H := a H (Fw.refl z H)
def OddN (z : Addr) (H : Hp) (x : V) : Prop := nameV x = false ∧ Aft z H fun H' => ∃ g, Th H' x g
def spThingR : Sp := fun vs H Q _ => ∃ z c cells t, vs = [.ref z] ∧ PenAt H z c cells t ∧ t ≤ 90000 ∧ ∀ x H', OddN z H' x → PenAt H' z c cells (t + 1) → Fw z H H' → Q x H'
def ST : List V := [.str "s", .str "t"]
/-- a pair that is answered: what is bent, where -/
def Gives (z c : Addr) (cells : List Int) (t : Nat) (H : Hp) (P : V → Nat → Hp → Prop) (Q : VK) : Prop := ∀ q v (n : Nat) H', Aft z H' (P v n) → H' q = some (.tup [v, .int n]) → H q = none → PenAt H' z c cells (t + 10) → Fw z H H' → Q (.ref q) H'
def spBentCont : Sp := fun vs H Q _ => ∃ z c cells t g, vs = [.ref z, .ref g] ∧ PenAt H z c cells t ∧ t ≤ 85000 ∧ H g = some (.tup ST) ∧ Gives z c cells t H (fun v n H' => ContBad H' v n) Q
def spBentFold : Sp := fun vs H Q _ => ∃ z c cells t, vs = [.ref z] ∧ PenAt H z c cells t ∧ t ≤ 85000 ∧ Gives z c cells t H (fun v n H' => SumBad H' ["c", "d"] v n) Q
theorem PenAt.nl {z c : Addr} {cells : List Int} {t : Nat} {H : Hp} (P : PenAt H z c cells t) {a : Addr} {xs : List V} (h : H a = some (.tup xs)) : a ≠ z := by
  obtain ⟨⟨i, l, h1, _⟩, _⟩ := P
  exact ne_of h h1 fun q => nomatch q
theorem Names.takeR {zs : List Str} (n : Names zs) (k : Nat) : Names (zs.take k) := ⟨fun z hz => n.1 z (List.mem_of_mem_take hz), List.Sublist.nodup (List.take_sublist _ _) n.2⟩
theorem names_st : Names ["s", "t"] := ⟨fun z hz => by
  rcases List.mem_cons.mp hz with rfl | hz
  · decide +kernel
  · rw [List.mem_singleton.mp hz]
    decide +kernel, by decide⟩
/-- t[:m] + (x,) + t[m + 1:], two in t -/
theorem bent_two {K : PySem.W.Frag} {σ : L2.St} {H : Hp} {g : Addr} {y0 y1 : V} {m i j : Nat} {tm : TE} {G : V → Hp → Prop} {Q : VK} (h2 : m < 2) (si : σ[i]? = some (some (.ref g))) (sj : σ[j]? = some (some (.int (m : Nat)))) (hg : H g = some (.tup [y0, y1]))
    (hm : ∀ H1, Ex H H1 → ∀ Q1 : VK, (∀ q x H2, Ex H1 H2 → H2 q = some (.tup [x]) → G x H2 → Q1 (.ref q) H2) → tm σ H1 Q1) (k : ∀ p x H2 H', Ex H H2 → Ex H2 H' → G x H2 → H' p = some (.tup (if m = 0 then [x, y1] else [y0, x])) → Q (.ref p) H') :
    tOp (rCatA K) (tOp (rCatA K) (tSl (rSlT K) (tVar i) tNoPart (tPart (tVar j))) tm) (tSl (rSlT K) (tVar i) (tPart (tOp (rI0 fun i j => V.int (i + j)) (tVar j) (tC (V.int 1)))) tNoPart) σ H Q := by
  match m, h2, sj, k with
  | 0, _, sj, k =>
    refine ⟨_, si, _, sj, _, rfl, g, _, rfl, sqT hg, (by show ¬ (HT.sIx 2 0 none = 0 ∧ HT.sIx 2 2 (some 0) = 2); decide), fun p1 np1 => ?_⟩
    (generalize g_H1 : upd _ p1 _ = H1); have hp1 := gat g_H1; have e1 := gex g_H1 np1; clear g_H1
    refine hm _ e1 _ fun q x H2 e2 hq gx => ?_
    refine ⟨_, _, _, _, rfl, rfl, sqT (e2 _ _ hp1), sqT hq, (by show 0 + 1 ≤ sizeLine; decide), fun _ => ?_, fun q => absurd rfl q, fun q => absurd rfl q⟩
    have hg2 := e2 _ _ (e1 _ _ hg)
    refine ⟨_, si, _, sj, _, _, rfl, rfl, _, rfl, g, _, rfl, sqT hg2, (by show ¬ (HT.sIx 2 0 (some 1) = 0 ∧ HT.sIx 2 2 none = 2); decide), fun p3 np3 => ?_⟩
    (generalize g_H3 : upd _ p3 _ = H3); have hp3 := gat g_H3; have e3 := gex g_H3 np3; clear g_H3
    refine ⟨_, _, _, _, rfl, rfl, sqT (e3 _ _ hq), sqT hp3, (by show 1 + 1 ≤ sizeLine; decide), (fun q => nomatch q), fun _ q => ?_, fun _ _ p4 n4 => ?_⟩
    · exact absurd q (by show ¬ [y1] = []; exact fun q => nomatch q)
    · exact k p4 x H2 _ (fun _ _ q => e2 _ _ (e1 _ _ q)) (fun _ _ q => Ex.new n4 _ _ (e3 _ _ q)) gx upd_same
  | 1, _, sj, k =>
    refine ⟨_, si, _, sj, _, rfl, g, _, rfl, sqT hg, (by show ¬ (HT.sIx 2 0 none = 0 ∧ HT.sIx 2 2 (some 1) = 2); decide), fun p1 np1 => ?_⟩
    (generalize g_H1 : upd _ p1 _ = H1); have hp1 := gat g_H1; have e1 := gex g_H1 np1; clear g_H1
    refine hm _ e1 _ fun q x H2 e2 hq gx => ?_
    refine ⟨_, _, _, _, rfl, rfl, sqT (e2 _ _ hp1), sqT hq, (by show 1 + 1 ≤ sizeLine; decide), fun q => ?_, (fun _ q => nomatch q), fun _ _ p2 np2 => ?_⟩
    · exact absurd q (by show ¬ [y0] = []; exact fun q => nomatch q)
    have hg2 := e2 _ _ (e1 _ _ hg)
    (generalize g_H3 : upd _ p2 _ = H3); have hp2 := gat g_H3; have e3 := gex g_H3 np2; clear g_H3
    refine ⟨_, si, _, sj, _, _, rfl, rfl, _, rfl, g, _, rfl, sqT (e3 _ _ hg2), (by show ¬ (HT.sIx 2 0 (some 2) = 0 ∧ HT.sIx 2 2 none = 2); decide), fun p4 np4 => ?_⟩
    (generalize g_H4 : upd _ p4 _ = H4); have hp4 := gat g_H4; have e4 := gex g_H4 np4; clear g_H4
    have e24 : Ex H2 H4 := fun _ _ q => e4 _ _ (e3 _ _ q)
    refine ⟨_, _, _, _, rfl, rfl, sqT (e4 _ _ hp2), sqT hp4, (by show 2 + 0 ≤ sizeLine; decide), fun q => ?_, fun _ _ => ?_, fun _ q => absurd rfl q⟩
    · exact absurd q (by show ¬ [y0, x] = []; exact fun q => nomatch q)
    · exact k p2 x H2 H4 (fun _ _ q => e2 _ _ (e1 _ _ q)) e24 gx (e4 _ _ hp2)
  | m + 2, h2, _, _ => exact absurd h2 (by omega)
end Tz
namespace Tz
open PySem PySem.Spec PyProof.Rows L2 TzF TzRepr
/-! ### the covers of the law -/
structure CvS (H : Hp) (g r0 r1 c0 c1 x0 x1 y0 y1 y2 : Addr) : Prop where
  g : H g = some (.tup [.ref r0, .ref r1])
  r0 : H r0 = some (.tup [.str "c", .ref c0])
  r1 : H r1 = some (.tup [.str "d", .ref c1])
  c0 : H c0 = some (.tup [.ref x0, .ref x1])
  c1 : H c1 = some (.tup [.ref y0, .ref y1, .ref y2])
  x0 : H x0 = some (.tup [.str "s", .int 1])
  x1 : H x1 = some (.tup [.str "d", .int 9])
  y0 : H y0 = some (.tup [.str "c", .int 2])
  y1 : H y1 = some (.tup [.str "t", .int 3])
  y2 : H y2 = some (.tup [.str "s", .int 1])
theorem CvS.of {H H' : Hp} {g r0 r1 c0 c1 x0 x1 y0 y1 y2 : Addr} (c : CvS H g r0 r1 c0 c1 x0 x1 y0 y1 y2) (f : ∀ a xs, H a = some (.tup xs) → H' a = some (.tup xs)) : CvS H' g r0 r1 c0 c1 x0 x1 y0 y1 y2 :=
  ⟨f _ _ c.g, f _ _ c.r0, f _ _ c.r1, f _ _ c.c0, f _ _ c.c1, f _ _ c.x0, f _ _ c.x1, f _ _ c.y0, f _ _ c.y1, f _ _ c.y2⟩
theorem PenAt.tups {z c : Addr} {cells : List Int} {t : Nat} {H H' : Hp} (P : PenAt H z c cells t) (f : Fw z H H') : ∀ a xs, H a = some (.tup xs) → H' a = some (.tup xs) := fun a xs h => f a _ (P.nl h) h
def SK : List Str := ["s", "t", "c", "d"]
theorem cv_first {H : Hp} {g r0 r1 c0 c1 x0 x1 y0 y1 y2 : Addr} (c : CvS H g r0 r1 c0 c1 x0 x1 y0 y1 y2) : CoverK H SK (.ref c0) true :=
  CoverK.good (zs := ["s", "d"]) (cs := [1, 9]) c.c0 (by show 2 ≤ 20; omega) (fun q => nomatch q) rfl rfl (fun j hj => match j, hj with
    | 0, _ => .mk c.x0
    | 1, _ => .mk c.x1
    | j + 2, h => absurd h (by show ¬ j + 2 < 2; omega)) (by decide) (by decide) (by decide)
theorem cv_second {H : Hp} {g r0 r1 c0 c1 x0 x1 y0 y1 y2 : Addr} (c : CvS H g r0 r1 c0 c1 x0 x1 y0 y1 y2) : CoverK H SK (.ref c1) true :=
  CoverK.good (zs := ["c", "t", "s"]) (cs := [2, 3, 1]) c.c1 (by show 3 ≤ 20; omega) (fun q => nomatch q) rfl rfl (fun j hj => match j, hj with
    | 0, _ => .mk c.y0
    | 1, _ => .mk c.y1
    | 2, _ => .mk c.y2
    | j + 3, h => absurd h (by show ¬ j + 3 < 3; omega)) (by decide) (by decide) (by decide)
/-! odd covers -/
theorem ck_row1 {H : Hp} {ks : List Str} {a r : Addr} {x y : V} (h : H a = some (.tup [.ref r])) (hr : H r = some (.tup [x, y])) (dx : ∃ g, Th H x g) (dy : ∃ g, Th H y g) (b : (inS x ks && fromV 1 9 y) = false) : CoverK H ks (.ref a) false :=
  CoverK.rows (ns := [x]) (ts := [y]) h (by show 1 ≤ 20; omega) (fun q => nomatch q) rfl rfl (fun j hj => match j, hj with
    | 0, _ => ⟨.mk hr, dx, dy⟩
    | j + 1, h => absurd h (by show ¬ j + 1 < 1; omega)) (by show ((inS x ks && fromV 1 9 y) && true) = false; rw [b]; rfl)
theorem ck_row2 {H : Hp} {ks : List Str} {a r q : Addr} {x y x' y' : V} (h : H a = some (.tup [.ref q, .ref r])) (hq : H q = some (.tup [x', y'])) (hr : H r = some (.tup [x, y])) (dx' : ∃ g, Th H x' g) (dy' : ∃ g, Th H y' g) (dx : ∃ g, Th H x g) (dy : ∃ g, Th H y g) (b : (inS x ks && fromV 1 9 y) = false) : CoverK H ks (.ref a) false :=
  CoverK.rows (ns := [x', x]) (ts := [y', y]) h (by show 2 ≤ 20; omega) (fun q => nomatch q) rfl rfl (fun j hj => match j, hj with
    | 0, _ => ⟨.mk hq, dx', dy'⟩
    | 1, _ => ⟨.mk hr, dx, dy⟩
    | j + 2, h => absurd h (by show ¬ j + 2 < 2; omega)) (by show ((inS x' ks && fromV 1 9 y') && ((inS x ks && fromV 1 9 y) && true)) = false; rw [b]; simp)
theorem ck_twice {H : Hp} {a r : Addr} (h : H a = some (.tup [.ref r, .ref r])) (hr : H r = some (.tup [.str "s", .int 1])) : CoverK H SK (.ref a) false :=
  CoverK.good (zs := ["s", "s"]) (cs := [1, 1]) h (by show 2 ≤ 20; omega) (fun q => nomatch q) rfl rfl (fun j hj => match j, hj with
    | 0, _ => .mk hr
    | 1, _ => .mk hr
    | j + 2, h => absurd h (by show ¬ j + 2 < 2; omega)) (by decide) (by decide) (by decide)
theorem ck_pair {H : Hp} {ks : List Str} {a : Addr} {u v : V} {b : Bool} (h : H a = some (.tup [u, v])) (pu : PairV H u b) (pv : PairV H v false) : CoverK H ks (.ref a) false :=
  CoverK.odd (bs := [b, false]) h (by show 2 ≤ 20; omega) (fun q => nomatch q) (fun j hj => match j, hj with
    | 0, _ => pu
    | 1, _ => pv
    | j + 2, h => absurd h (by show ¬ j + 2 < 2; omega)) (by show (b && (false && true)) = false; simp)
def TotB (v : V) (n : Nat) (H : Hp) : Prop := ∃ a rows covs, v = .ref a ∧ H a = some (.tup rows) ∧ rows.length = 2 ∧ CvAt H rows ["c", "d"] covs ∧ TotBad H SK covs n
def CovsB (v : V) (n : Nat) (H : Hp) : Prop := (BadMany H v 3 ∧ n = 0) ∨ ∃ rows, SeqV H v rows ∧ 1 ≤ rows.length ∧ rows.length ≤ 3 ∧ CovsBad H ["s", "t"] rows n
def spBentOf (P : V → Nat → Hp → Prop) : Sp := fun vs H Q _ => ∃ z c cells t g r0 r1 c0 c1 x0 x1 y0 y1 y2, vs = [.ref z, .ref g] ∧ PenAt H z c cells t ∧ t ≤ 85000 ∧ CvS H g r0 r1 c0 c1 x0 x1 y0 y1 y2 ∧ Gives z c cells t H P Q
theorem tot_first {H : Hp} {a p g r0 r1 c0 c1 x0 x1 y0 y1 y2 : Addr} {x : V} (c : CvS H g r0 r1 c0 c1 x0 x1 y0 y1 y2) (ha : H a = some (.tup [.ref p, .ref r1])) (hp : H p = some (.tup [.str "c", x])) (b : CoverK H SK x false) : TotB (.ref a) 0 H :=
  ⟨a, _, [x, .ref c1], rfl, ha, rfl, ⟨rfl, rfl, fun j hj => match j, hj with
    | 0, _ => .mk hp
    | 1, _ => .mk c.r1
    | j + 2, h => absurd h (by show ¬ j + 2 < 2; omega)⟩, by show 0 < 2; omega, fun j h => absurd h (Nat.not_lt_zero j), b⟩
theorem tot_second {H : Hp} {a p g r0 r1 c0 c1 x0 x1 y0 y1 y2 : Addr} {x : V} (c : CvS H g r0 r1 c0 c1 x0 x1 y0 y1 y2) (ha : H a = some (.tup [.ref r0, .ref p])) (hp : H p = some (.tup [.str "d", x])) (b : CoverK H SK x false) : TotB (.ref a) 1 H :=
  ⟨a, _, [.ref c0, x], rfl, ha, rfl, ⟨rfl, rfl, fun j hj => match j, hj with
    | 0, _ => .mk c.r0
    | 1, _ => .mk hp
    | j + 2, h => absurd h (by show ¬ j + 2 < 2; omega)⟩, by show 1 < 2; omega, fun j h => match j, h with
    | 0, _ => cv_first c
    | j + 1, h => absurd h (by omega), b⟩
/-- the names ahead of the m-th cover -/
def KL (m : Nat) : List Str := if m = 0 then ["s", "t"] else ["s", "t", "c"]
theorem covs_first {H : Hp} {a g r0 r1 c0 c1 x0 x1 y0 y1 y2 : Addr} {x : V} (ha : H a = some (.lst [x, .ref r1])) (b : PRow H (KL 0) x false) : CovsB (.ref a) 0 H :=
  .inr ⟨_, ⟨a, rfl, .inl ha⟩, by show 1 ≤ 2; omega, by show 2 ≤ 3; omega, [], rfl, by show 0 < 2; omega, b, fun j h => absurd h (Nat.not_lt_zero j)⟩
theorem covs_second {H : Hp} {a g r0 r1 c0 c1 x0 x1 y0 y1 y2 : Addr} {x : V} (c : CvS H g r0 r1 c0 c1 x0 x1 y0 y1 y2) (ha : H a = some (.lst [.ref r0, x])) (b : PRow H (KL 1) x false) : CovsB (.ref a) 1 H :=
  .inr ⟨_, ⟨a, rfl, .inl ha⟩, by show 1 ≤ 2; omega, by show 2 ≤ 3; omega, ["c"], rfl, by show 1 < 2; omega, b, fun j h => match j, h with
    | 0, _ => ⟨.good c.r0 (by decide +kernel) (by decide), r0, .ref c0, rfl, c.r0⟩
    | j + 1, h => absurd h (by omega)⟩
end Tz
namespace Tz
open PySem PySem.Spec PyProof.Rows L2 TzF TzRepr
/-! ### the law of the rings that are refused -/
theorem told_data {K : PySem.W.Frag} {H : Hp} {p : Addr} {part : Str} {n : Int} (h : H p = some (.tup [.str part, .int n])) : Dp K H (.ref p) (.tuple [.str part, .int n]) := .tup (.inl (.inl h)) (.cons (.str _) (.cons (.int _) .nil))
theorem told_eqv (part : Str) (n : Int) : PyData.eqv (.tuple [.str part, .int n]) (.tuple [.str part, .int n]) = true := by
  simp [PyData.eqv, PyData.eqvAll]
theorem told_shaped {part : Str} {n : Int} (ok : PyData.canLay0 (.str part) = true) : SeqAt.shaped (.tuple [.str part, .int n]) = true := by
  refine Bool.and_eq_true_iff.mpr ⟨?_, ?_⟩
  · simp only [PyData.canLay0, PyData.canLayAll0] at ok ⊢
    rw [ok]
    rfl
  · simp [PyData.depth, PyData.depthAll]
theorem told_ne {K : PySem.W.Frag} {H : Hp} {p q : Addr} {part : Str} {n : Int} {Q : VK} (ok : PyData.canLay0 (.str part) = true) (hp : H p = some (.tup [.str part, .int n])) (hq : H q = some (.tup [.str part, .int n])) (k : Q (.bl false) H) : rNeD K (.ref p) (.ref q) H Q :=
  ⟨_, _, told_data hp, told_data hq, told_shaped ok, told_shaped ok, by rw [told_eqv]; exact k⟩
theorem to_of {H : Hp} {v : V} {n : Nat} {ca : Addr} {ks : List Str} (b : TotB v n H) (hc : H ca = some (.tup (ks.map V.str))) (ne : ks ≠ []) (nm : Names ks) (k10 : ks.length ≤ 10) (c1 : inS (.str "c") ks = false) (d1 : inS (.str "d") (ks ++ [("c" : Str)]) = false) :
    ∃ rows covs, RgTo H (.ref ca) v ca ks rows ["c", "d"] covs ∧ TotBad H SK covs n := by
  obtain ⟨a, rows, covs, rfl, ha, l2, ⟨h1, h2, h3⟩, tb⟩ := b
  refine ⟨rows, covs, ⟨rfl, hc, ne, nm, k10, ⟨a, rfl, .inr ha⟩, by omega, by omega, ⟨by rw [l2]; rfl, fun j hj => ?_⟩, ⟨h1, h2, h3⟩⟩, tb⟩
  have r := h3 j hj
  match j, (show j < 2 by omega), r with
  | 0, _, r =>
    generalize rows.getD 0 .non = v0 at r
    generalize covs.getD 0 .non = w0 at r
    cases r with
    | mk h => exact ⟨.good h (by decide +kernel) (by rw [List.take_zero, List.append_nil]; exact c1), _, _, rfl, h⟩
  | 1, _, r =>
    generalize rows.getD 1 .non = v0 at r
    generalize covs.getD 1 .non = w0 at r
    cases r with
    | mk h => exact ⟨.good h (by decide +kernel) d1, _, _, rfl, h⟩
  | j + 2, h, _ => exact absurd h (by omega)
theorem rg_covs {H : Hp} {v sv : V} {n : Nat} {ca : Addr} (b : CovsB v n H) (hc : H ca = some (.tup ST)) : RgBad H (.ref ca) v sv "covers" n := by
  rcases b with ⟨b, rfl⟩ | ⟨rows, s, l1, l3, b⟩
  · exact .many (ks := ["s", "t"]) rfl hc (by decide) names_st (by decide) b
  · exact .covs (ks := ["s", "t"]) rfl hc (by decide) names_st (by decide) s l1 l3 b
theorem rg_names {H : Hp} {v sv : V} {n : Nat} {ca : Addr} {ks : List Str} (b : TotB v n H) (hc : H ca = some (.tup (ks.map V.str))) (ne : ks ≠ []) (nm : Names ks) (k10 : ks.length ≤ 10) (c1 : inS (.str "c") ks = false) (d1 : inS (.str "d") (ks ++ [("c" : Str)]) = false) (k4 : 4 ≤ ks.length) : RgBad H (.ref ca) v sv "names" (ks.length + 2) := by
  obtain ⟨rows, covs, g, _⟩ := to_of b hc ne nm k10 c1 d1
  exact .names g (by show 5 < ks.length + 2; omega)
theorem rg_total {H : Hp} {v sv : V} {n : Nat} {ca : Addr} (b : TotB v n H) (hc : H ca = some (.tup ST)) : RgBad H (.ref ca) v sv "total" n := by
  obtain ⟨rows, covs, g, tb⟩ := to_of (ks := ["s", "t"]) b hc (by decide) names_st (by decide) (by decide) (by decide)
  exact .total g (by decide) tb
section
variable {H : Hp} {v : V} {ct g r0 r1 c0 c1 x0 x1 y0 y1 y2 : Addr}
theorem to_good (c : CvS H g r0 r1 c0 c1 x0 x1 y0 y1 y2) (hc : H ct = some (.tup ST)) (s : SeqV H v [.ref r0, .ref r1]) : RgTo H (.ref ct) v ct ["s", "t"] [.ref r0, .ref r1] ["c", "d"] [.ref c0, .ref c1] := by
  refine ⟨rfl, hc, by decide, names_st, by decide, s, by show 1 ≤ 2; omega, by show 2 ≤ 3; omega, ⟨rfl, fun j hj => ?_⟩, ⟨rfl, rfl, fun j hj => ?_⟩⟩
  · match j, hj with
    | 0, _ => exact ⟨.good c.r0 (by decide +kernel) (by decide), _, _, rfl, c.r0⟩
    | 1, _ => exact ⟨.good c.r1 (by decide +kernel) (by decide), _, _, rfl, c.r1⟩
    | j + 2, h => exact absurd h (by show ¬ j + 2 < 2; omega)
  · match j, hj with
    | 0, _ => exact .mk c.r0
    | 1, _ => exact .mk c.r1
    | j + 2, h => exact absurd h (by show ¬ j + 2 < 2; omega)
theorem totals_good (c : CvS H g r0 r1 c0 c1 x0 x1 y0 y1 y2) : ∀ j, j < [V.ref r0, V.ref r1].length → CoverK H ([("s" : Str), "t"] ++ [("c" : Str), "d"]) ([V.ref c0, V.ref c1].getD j .non) true := fun j hj =>
  match j, hj with
  | 0, _ => cv_first c
  | 1, _ => cv_second c
  | j + 2, h => absurd h (by show ¬ j + 2 < 2; omega)
theorem rg_summed {n : Nat} {sv : V} (c : CvS H g r0 r1 c0 c1 x0 x1 y0 y1 y2) (hc : H ct = some (.tup ST)) (s : SeqV H v [.ref r0, .ref r1]) (b : SumBad H ["c", "d"] sv n) : RgBad H (.ref ct) v sv "summed" n :=
  .summed (to_good c hc s) (by decide) (totals_good c) b
theorem rg_taken {fo : Addr} {ms : List Str} (c : CvS H g r0 r1 c0 c1 x0 x1 y0 y1 y2) (hc : H ct = some (.tup ST)) (s : SeqV H v [.ref r0, .ref r1]) (hf : H fo = some (.tup (ms.map V.str))) (l : ms.length ≤ 20) (m1 : ∀ m ∈ ms, m ∈ [("c" : Str), "d"] ∧ m.length ≤ 1000) (nd : ms.Nodup) : RgGood H (.ref ct) v (.ref fo) := by
  refine ⟨ct, ["s", "t"], _, ["c", "d"], [.ref c0, .ref c1], fo, ms, to_good c hc s, by decide, totals_good c, rfl, hf, l, m1, nd, rfl, fun j hj => ?_, fun j hj => ?_, by decide +kernel, by decide⟩
  · match j, hj with
    | 0, _ =>
      refine ⟨2, ⟨c0, _, ["s", "d"], [1, 9], rfl, c.c0, rfl, rfl, rfl, fun j hj => ?_, by decide +kernel, by decide⟩, by decide, by decide⟩
      match j, hj with
      | 0, _ => exact .mk c.x0
      | 1, _ => exact .mk c.x1
      | j + 2, h => exact absurd h (by omega)
    | 1, _ =>
      refine ⟨3, ⟨c1, _, ["c", "t", "s"], [2, 3, 1], rfl, c.c1, rfl, rfl, rfl, fun j hj => ?_, by decide +kernel, by decide⟩, by decide, by decide⟩
      match j, hj with
      | 0, _ => exact .mk c.y0
      | 1, _ => exact .mk c.y1
      | 2, _ => exact .mk c.y2
      | j + 3, h => exact absurd h (by omega)
    | j + 2, h => exact absurd h (by omega)
  · match j, hj with
    | 0, _ =>
      refine ⟨c0, _, ["s", "d"], rfl, c.c0, rfl, by show 2 ≤ 10; omega, fun j hj => ?_, by decide, "d", by decide, by decide⟩
      match j, hj with
      | 0, _ => exact ⟨_, .mk c.x0⟩
      | 1, _ => exact ⟨_, .mk c.x1⟩
      | j + 2, h => exact absurd h (by show ¬ j + 2 < 2; omega)
    | 1, _ =>
      refine ⟨c1, _, ["c", "t", "s"], rfl, c.c1, rfl, by show 3 ≤ 10; omega, fun j hj => ?_, by decide, "c", by decide, by decide⟩
      match j, hj with
      | 0, _ => exact ⟨_, .mk c.y0⟩
      | 1, _ => exact ⟨_, .mk c.y1⟩
      | 2, _ => exact ⟨_, .mk c.y2⟩
      | j + 3, h => exact absurd h (by show ¬ j + 3 < 3; omega)
    | j + 2, h => exact absurd h (by omega)
end
end Tz
namespace Tz
open PySem PySem.Spec PyProof.Rows L2 TzF TzRepr
/-- what the law holds while it asks -/
structure BentAt (z c : Addr) (ns : List Int) (t : Nat) (H : Hp) (ct g r0 r1 c0 c1 x0 x1 y0 y1 y2 b q0 q1 q2 q3 : Addr) (v0 v1 v2 v3 : V) (n0 n1 n2 n3 : Nat) : Prop where
  pen : PenAt H z c ns t
  hc : H ct = some (.tup ST)
  cs : CvS H g r0 r1 c0 c1 x0 x1 y0 y1 y2
  zb : b ≠ z
  hb : H b = some (.lst [.ref q0, .ref q1, .ref q2, .ref q3])
  h0 : H q0 = some (.tup [v0, .int n0])
  h1 : H q1 = some (.tup [v1, .int n1])
  h2 : H q2 = some (.tup [v2, .int n2])
  h3 : H q3 = some (.tup [v3, .int n3])
  w0 : Aft z H fun H' => ContBad H' v0 n0
  w1 : Aft z H (CovsB v1 n1)
  w2 : Aft z H (TotB v2 n2)
  w3 : Aft z H fun H' => SumBad H' ["c", "d"] v3 n3
section
variable {z c : Addr} {ns : List Int} {t u : Nat} {H H' : Hp} {ct g r0 r1 c0 c1 x0 x1 y0 y1 y2 b q0 q1 q2 q3 : Addr} {v0 v1 v2 v3 : V} {n0 n1 n2 n3 : Nat}
theorem BentAt.fw (B : BentAt z c ns t H ct g r0 r1 c0 c1 x0 x1 y0 y1 y2 b q0 q1 q2 q3 v0 v1 v2 v3 n0 n1 n2 n3) (f : Fw z H H') (P : PenAt H' z c ns u) : BentAt z c ns u H' ct g r0 r1 c0 c1 x0 x1 y0 y1 y2 b q0 q1 q2 q3 v0 v1 v2 v3 n0 n1 n2 n3 :=
  have T := B.pen.tups f
  ⟨P, T _ _ B.hc, B.cs.of T, B.zb, f _ _ B.zb B.hb, T _ _ B.h0, T _ _ B.h1, T _ _ B.h2, T _ _ B.h3, B.w0.fw f, B.w1.fw f, B.w2.fw f, B.w3.fw f⟩
theorem BentAt.ex (B : BentAt z c ns t H ct g r0 r1 c0 c1 x0 x1 y0 y1 y2 b q0 q1 q2 q3 v0 v1 v2 v3 n0 n1 n2 n3) (e : Ex H H') : BentAt z c ns t H' ct g r0 r1 c0 c1 x0 x1 y0 y1 y2 b q0 q1 q2 q3 v0 v1 v2 v3 n0 n1 n2 n3 := B.fw e.fw (B.pen.ex e)
end
end Tz
namespace Tz
open PySem L2 TzF TzRepr
def top (i : Nat) : Stmt := PySem.Challenge.pw_twozeros_k80_what_rings_refuse.main.body.getD i (.Pass ⟨0, 0, 0, 0⟩)
abbrev s_is_whole : Stmt := top 10
abbrev s_is_from : Stmt := top 11
abbrev s_is_name : Stmt := top 37
abbrev s_Formula_init_ : Stmt := inClass (top 33) 1
abbrev s_number : Stmt := top 35
abbrev s_right_written : Stmt := top 18
abbrev s_joined_written : Stmt := top 17
abbrev s_complement_written : Stmt := top 19
abbrev s_Formula_names : Stmt := inClass (top 33) 3
abbrev s_named : Stmt := top 34
abbrev s_operand_formula : Stmt := top 38
abbrev s_put_together : Stmt := top 39
abbrev s_Formula_invert_ : Stmt := inClass (top 33) 8
abbrev s_product_formula : Stmt := top 40
abbrev s_Formula_add_ : Stmt := inClass (top 33) 9
abbrev s_Formula_rmul_ : Stmt := inClass (top 33) 14
abbrev s_Saying_init_ : Stmt := inClass (top 47) 1
abbrev s_Formula_str_ : Stmt := inClass (top 33) 6
abbrev s_joined_sayings : Stmt := top 53
abbrev s_Saying_and_ : Stmt := inClass (top 47) 11
abbrev s_simple_saying : Stmt := top 52
abbrev s_yes : Stmt := top 50
abbrev s_same : Stmt := top 48
abbrev s_is_full : Stmt := top 49
abbrev s_all_of : Stmt := top 51
abbrev s_is_pair : Stmt := top 67
abbrev s_is_cover : Stmt := top 68
abbrev s_BadRing_init_ : Stmt := inClass (top 8) 0
abbrev s_check_contents : Stmt := top 63
abbrev s_check_covers : Stmt := top 64
abbrev s_check_totals : Stmt := top 65
abbrev s_check_summed : Stmt := top 66
abbrev s_cover_of : Stmt := top 69
abbrev s_Ring_sum_of : Stmt := inClass (top 62) 3
abbrev s_Ring_wish : Stmt := inClass (top 62) 4
abbrev s_found_layers : Stmt := top 70
abbrev s_Ring_init_ : Stmt := inClass (top 62) 0
abbrev s_law_pen : Stmt := top 72
abbrev s_law_draw : Stmt := top 73
abbrev s_law_one : Stmt := top 74
abbrev s_law_refused : Stmt := top 75
abbrev s_law_thing : Stmt := top 76
abbrev s_law_bent_contents : Stmt := top 77
abbrev s_law_bent_folded : Stmt := top 80
abbrev s_law_bent_total : Stmt := top 79
abbrev s_law_bent_covers : Stmt := top 78
abbrev s_law : Stmt := top 81
abbrev s_Formula_mul_ : Stmt := inClass (top 33) 13
structure FnG (K : PySem.W.Frag) (mg : Str → Option Value) (x : Str) (st : Stmt) where
  a : Addr
  fd : FuncData
  F : Fun K x x st a fd
  m : mg x = some (.ref a)
structure FnM (K : PySem.W.Frag) (C : Addr) (x q : Str) (st : Stmt) where
  a : Addr
  fd : FuncData
  F : Fun K x q st a fd
  M : Meth K C x a
structure Kl (K : PySem.W.Frag) (mg : Str → Option Value) (x : Str) where
  C : Addr
  cl : Cls K C
  m : mg x = some (.ref C)
  kp : PySem.W.keepIn K (.ref C) = true
  al : Alone K C
  rd : ClX.CRead K C (.type "type")
structure ErG (K : PySem.W.Frag) (mg : Str → Option Value) (x : Str) where
  C : Addr
  m : mg x = some (.ref C)
  er : Err K C
structure CoI (mg : Str → Option Value) (x : Str) (n : Int) where
  t : Tok
  m : mg x = some (.int n t)
structure CoC (K : PySem.W.Frag) (C : Addr) (x : Str) (n : Int) where
  t : Tok
  c : ClX.CVal K C (.type "type") x (.int n) (.int n t)
structure FnS (K : PySem.W.Frag) (C : Addr) (x q : Str) (st : Stmt) where
  a : Addr
  fd : FuncData
  F : Fun K x q st a fd
  p : Addr
  S : TzOwn.SMet K C (.type "type") x p a
structure FnC (K : PySem.W.Frag) (C : Addr) (x q : Str) (st : Stmt) where
  a : Addr
  fd : FuncData
  F : Fun K x q st a fd
  p : Addr
  S : ClX.CMet K C (.type "type") x p a
structure FnP (K : PySem.W.Frag) (C : Addr) (x q : Str) (st : Stmt) where
  a : Addr
  fd : FuncData
  F : Fun K x q st a fd
  p : Addr
  P : PropOf K C x p a
structure Tx (K : PySem.W.Frag) (mg : Str → Option Value) (w : World) where
  b_int : mg "int" = none
  b_len : mg "len" = none
  b_abs : mg "abs" = none
  b_list : mg "list" = none
  b_isinstance : mg "isinstance" = none
  b_bool : mg "bool" = none
  b_range : mg "range" = none
  b_repr : mg "repr" = none
  b_sum : mg "sum" = none
  b_tuple : mg "tuple" = none
  b_all : mg "all" = none
  b_str : mg "str" = none
  b_sorted : mg "sorted" = none
  b_dict : mg "dict" = none
  b_enumerate : mg "enumerate" = none
  c_TIGHTEST : CoI mg "TIGHTEST" 5
  c_MOST_LETTERS : CoI mg "MOST_LETTERS" 6
  c_MOST_NUMBER : CoI mg "MOST_NUMBER" 15
  c_MOST_TIMES_OF : CoI mg "MOST_TIMES_OF" 9
  c_MOST_RING_CHECKS : CoI mg "MOST_RING_CHECKS" 3
  c_MOST_RING_NAMES : CoI mg "MOST_RING_NAMES" 5
  c_MOST_TIMES_ADDED : CoI mg "MOST_TIMES_ADDED" 9
  k_Formula : Kl K mg "Formula"
  mk_Formula_ : PySem.W.makesIn K k_Formula.C = true
  n_Formula_steps : NoAttr K k_Formula.C "steps"
  n_Formula_size : NoAttr K k_Formula.C "size"
  n_Formula_written : NoAttr K k_Formula.C "written"
  n_Formula_level : NoAttr K k_Formula.C "level"
  n_Formula__names : NoAttr K k_Formula.C "_names"
  k_Saying : Kl K mg "Saying"
  mk_Saying_ : PySem.W.makesIn K k_Saying.C = true
  n_Saying_steps : NoAttr K k_Saying.C "steps"
  n_Saying_size : NoAttr K k_Saying.C "size"
  n_Saying_written : NoAttr K k_Saying.C "written"
  n_Saying_level : NoAttr K k_Saying.C "level"
  n_Saying__names : NoAttr K k_Saying.C "_names"
  k_Ring : Kl K mg "Ring"
  mk_Ring_ : PySem.W.makesIn K k_Ring.C = true
  n_Ring_contents : NoAttr K k_Ring.C "contents"
  n_Ring_covers : NoAttr K k_Ring.C "covers"
  n_Ring_checks : NoAttr K k_Ring.C "checks"
  n_Ring_summed : NoAttr K k_Ring.C "summed"
  n_Ring__fits : NoAttr K k_Ring.C "_fits"
  n_Ring__layers : NoAttr K k_Ring.C "_layers"
  e_ZerosError : ErG K mg "ZerosError"
  e_BadName : ErG K mg "BadName"
  n_BadName_name : PySem.W.findIn K (.ref e_BadName.C) "name" = some none
  e_BadFormula : ErG K mg "BadFormula"
  n_BadFormula_value : PySem.W.findIn K (.ref e_BadFormula.C) "value" = some none
  e_BadSaying : ErG K mg "BadSaying"
  n_BadSaying_value : PySem.W.findIn K (.ref e_BadSaying.C) "value" = some none
  e_TooLarge : ErG K mg "TooLarge"
  n_TooLarge_what : PySem.W.findIn K (.ref e_TooLarge.C) "what" = some none
  n_TooLarge_most : PySem.W.findIn K (.ref e_TooLarge.C) "most" = some none
  e_NoWord : ErG K mg "NoWord"
  n_NoWord_name : PySem.W.findIn K (.ref e_NoWord.C) "name" = some none
  e_BadRing : ErG K mg "BadRing"
  n_BadRing_part : PySem.W.findIn K (.ref e_BadRing.C) "part" = some none
  n_BadRing_at : PySem.W.findIn K (.ref e_BadRing.C) "at" = some none
  x_BadRing : ExcK K e_BadRing.C
  c_LETTERS : CoS mg "LETTERS" "abcdefghijklmnopqrstuvwxyz"
  g_NO_NAMES : GTup K mg "NO_NAMES" ["full", "same", "like", "isempty", "isfull", "yes", "no"]
  g_LEVELS : GDct K w mg "LEVELS" [("~", 4), ("*", 3), ("&", 3), ("+", 2), ("-", 2), ("^", 2), ("<<", 1), (">>", 1), ("|", 1)]
  cc_Formula_MOST_SIZE : CoC K k_Formula.C "MOST_SIZE" 60
  cc_Saying_MOST_SIZE : CoC K k_Saying.C "MOST_SIZE" 150
  sf_Formula : PySem.W.selfFirst K k_Formula.C = true
  s_get : PySem.W.specialIn K (.builtin "object.__class__") "__get__" = some (some (.builtin "getset_descriptor.__get__"))
  s_takes : PySem.W.takesIn K (.builtin "object.__class__") = some true
  xm_BadRing_ZerosError : PySem.W.exmOne K (.ref e_BadRing.C) (.ref e_ZerosError.C) = some true
  f_is_whole : FnG K mg "is_whole" s_is_whole
  f_is_from : FnG K mg "is_from" s_is_from
  f_is_name : FnG K mg "is_name" s_is_name
  f_Formula_init_ : FnM K k_Formula.C "__init__" "Formula.__init__" s_Formula_init_
  f_number : FnG K mg "number" s_number
  f_right_written : FnG K mg "right_written" s_right_written
  f_joined_written : FnG K mg "joined_written" s_joined_written
  f_complement_written : FnG K mg "complement_written" s_complement_written
  f_Formula_names : FnP K k_Formula.C "names" "Formula.names" s_Formula_names
  f_named : FnG K mg "named" s_named
  f_operand_formula : FnG K mg "operand_formula" s_operand_formula
  f_put_together : FnG K mg "put_together" s_put_together
  f_Formula_invert_ : FnM K k_Formula.C "__invert__" "Formula.__invert__" s_Formula_invert_
  f_product_formula : FnG K mg "product_formula" s_product_formula
  f_Formula_add_ : FnM K k_Formula.C "__add__" "Formula.__add__" s_Formula_add_
  f_Formula_rmul_ : FnM K k_Formula.C "__rmul__" "Formula.__rmul__" s_Formula_rmul_
  f_Saying_init_ : FnM K k_Saying.C "__init__" "Saying.__init__" s_Saying_init_
  f_Formula_str_ : FnM K k_Formula.C "__str__" "Formula.__str__" s_Formula_str_
  f_joined_sayings : FnG K mg "joined_sayings" s_joined_sayings
  f_Saying_and_ : FnM K k_Saying.C "__and__" "Saying.__and__" s_Saying_and_
  f_simple_saying : FnG K mg "simple_saying" s_simple_saying
  f_yes : FnG K mg "yes" s_yes
  f_same : FnG K mg "same" s_same
  f_is_full : FnG K mg "is_full" s_is_full
  f_all_of : FnG K mg "all_of" s_all_of
  f_is_pair : FnG K mg "is_pair" s_is_pair
  f_is_cover : FnG K mg "is_cover" s_is_cover
  f_BadRing_init_ : FnM K e_BadRing.C "__init__" "BadRing.__init__" s_BadRing_init_
  f_check_contents : FnG K mg "check_contents" s_check_contents
  f_check_covers : FnG K mg "check_covers" s_check_covers
  f_check_totals : FnG K mg "check_totals" s_check_totals
  f_check_summed : FnG K mg "check_summed" s_check_summed
  f_cover_of : FnG K mg "cover_of" s_cover_of
  f_Ring_sum_of : FnM K k_Ring.C "sum_of" "Ring.sum_of" s_Ring_sum_of
  f_Ring_wish : FnM K k_Ring.C "wish" "Ring.wish" s_Ring_wish
  f_found_layers : FnG K mg "found_layers" s_found_layers
  f_Ring_init_ : FnM K k_Ring.C "__init__" "Ring.__init__" s_Ring_init_
  f_law_pen : FnG K mg "_law_pen" s_law_pen
  f_law_draw : FnG K mg "_law_draw" s_law_draw
  f_law_one : FnG K mg "_law_one" s_law_one
  f_law_refused : FnG K mg "_law_refused" s_law_refused
  f_law_thing : FnG K mg "_law_thing" s_law_thing
  f_law_bent_contents : FnG K mg "_law_bent_contents" s_law_bent_contents
  f_law_bent_folded : FnG K mg "_law_bent_folded" s_law_bent_folded
  f_law_bent_total : FnG K mg "_law_bent_total" s_law_bent_total
  f_law_bent_covers : FnG K mg "_law_bent_covers" s_law_bent_covers
  f_law : FnG K mg "law" s_law
  f_Formula_mul_ : FnM K k_Formula.C "__mul__" "Formula.__mul__" s_Formula_mul_
section
variable {P : Program} {w : World} {K : PySem.W.Frag} {mg : Str → Option Value} {base : Heap}
theorem sc_is_whole : FnScope ["value"] ["value"] (defScope s_is_whole) := ⟨rfl, rfl, rfl, by decide +kernel, rfl, by decide +kernel, by decide +kernel⟩
theorem bd_is_whole (T : Tx K mg w) : Binds K T.f_is_whole.fd ["value"] [] := T.f_is_whole.F.binds (ps := ["value"]) fun _ _ _ _ _ _ us hl => match us, hl with | [_], _ => rfl
theorem sc_is_from : FnScope ["value", "least", "most"] ["value", "least", "most"] (defScope s_is_from) := ⟨rfl, rfl, rfl, by decide +kernel, rfl, by decide +kernel, by decide +kernel⟩
theorem bd_is_from (T : Tx K mg w) : Binds K T.f_is_from.fd ["value", "least", "most"] [] := T.f_is_from.F.binds (ps := ["value", "least", "most"]) fun _ _ _ _ _ _ us hl => match us, hl with | [_, _, _], _ => rfl
theorem sc_is_name : FnScope ["value", "letter"] ["value"] (defScope s_is_name) := ⟨rfl, rfl, rfl, by decide +kernel, rfl, by decide +kernel, by decide +kernel⟩
theorem bd_is_name (T : Tx K mg w) : Binds K T.f_is_name.fd ["value"] [] := T.f_is_name.F.binds (ps := ["value"]) fun _ _ _ _ _ _ us hl => match us, hl with | [_], _ => rfl
theorem mk_Formula (T : Tx K mg w) : Mk K T.k_Formula.C T.f_Formula_init_.a := ⟨T.mk_Formula_, T.f_Formula_init_.M.at_, T.f_Formula_init_.M.fn, T.k_Formula.kp⟩
theorem sc_Formula_init_ : FnScope ["self", "steps", "written", "level", "names", "sign", "worth"] ["self", "steps", "written", "level"] (defScope s_Formula_init_) := ⟨rfl, rfl, rfl, by decide +kernel, rfl, by decide +kernel, by decide +kernel⟩
theorem bd_Formula_init_ (T : Tx K mg w) : Binds K T.f_Formula_init_.fd ["self", "steps", "written", "level"] [] := T.f_Formula_init_.F.binds (ps := ["self", "steps", "written", "level"]) fun _ _ _ _ _ _ us hl => match us, hl with | [_, _, _, _], _ => rfl
theorem sc_number : FnScope ["c"] ["c"] (defScope s_number) := ⟨rfl, rfl, rfl, by decide +kernel, rfl, by decide +kernel, by decide +kernel⟩
theorem bd_number (T : Tx K mg w) : Binds K T.f_number.fd ["c"] [] := T.f_number.F.binds (ps := ["c"]) fun _ _ _ _ _ _ us hl => match us, hl with | [_], _ => rfl
theorem sc_right_written : FnScope ["part", "sign"] ["part", "sign"] (defScope s_right_written) := ⟨rfl, rfl, rfl, by decide +kernel, rfl, by decide +kernel, by decide +kernel⟩
theorem bd_right_written (T : Tx K mg w) : Binds K T.f_right_written.fd ["part", "sign"] [] := T.f_right_written.F.binds (ps := ["part", "sign"]) fun _ _ _ _ _ _ us hl => match us, hl with | [_, _], _ => rfl
theorem sc_joined_written : FnScope ["left", "sign", "right", "before"] ["left", "sign", "right"] (defScope s_joined_written) := ⟨rfl, rfl, rfl, by decide +kernel, rfl, by decide +kernel, by decide +kernel⟩
theorem bd_joined_written (T : Tx K mg w) : Binds K T.f_joined_written.fd ["left", "sign", "right"] [] := T.f_joined_written.F.binds (ps := ["left", "sign", "right"]) fun _ _ _ _ _ _ us hl => match us, hl with | [_, _, _], _ => rfl
theorem sc_complement_written : FnScope ["part"] ["part"] (defScope s_complement_written) := ⟨rfl, rfl, rfl, by decide +kernel, rfl, by decide +kernel, by decide +kernel⟩
theorem bd_complement_written (T : Tx K mg w) : Binds K T.f_complement_written.fd ["part"] [] := T.f_complement_written.F.binds (ps := ["part"]) fun _ _ _ _ _ _ us hl => match us, hl with | [_], _ => rfl
theorem sc_Formula_names : FnScope ["self"] ["self"] (defScope s_Formula_names) := ⟨rfl, rfl, rfl, by decide +kernel, rfl, by decide +kernel, by decide +kernel⟩
theorem bd_Formula_names (T : Tx K mg w) : Binds K T.f_Formula_names.fd ["self"] [] := T.f_Formula_names.F.binds (ps := ["self"]) fun _ _ _ _ _ _ us hl => match us, hl with | [_], _ => rfl
theorem sc_named : FnScope ["name"] ["name"] (defScope s_named) := ⟨rfl, rfl, rfl, by decide +kernel, rfl, by decide +kernel, by decide +kernel⟩
theorem bd_named (T : Tx K mg w) : Binds K T.f_named.fd ["name"] [] := T.f_named.F.binds (ps := ["name"]) fun _ _ _ _ _ _ us hl => match us, hl with | [_], _ => rfl
theorem sc_operand_formula : FnScope ["other"] ["other"] (defScope s_operand_formula) := ⟨rfl, rfl, rfl, by decide +kernel, rfl, by decide +kernel, by decide +kernel⟩
theorem bd_operand_formula (T : Tx K mg w) : Binds K T.f_operand_formula.fd ["other"] [] := T.f_operand_formula.F.binds (ps := ["other"]) fun _ _ _ _ _ _ us hl => match us, hl with | [_], _ => rfl
theorem sc_put_together : FnScope ["left", "sign", "right"] ["left", "sign", "right"] (defScope s_put_together) := ⟨rfl, rfl, rfl, by decide +kernel, rfl, by decide +kernel, by decide +kernel⟩
theorem bd_put_together (T : Tx K mg w) : Binds K T.f_put_together.fd ["left", "sign", "right"] [] := T.f_put_together.F.binds (ps := ["left", "sign", "right"]) fun _ _ _ _ _ _ us hl => match us, hl with | [_, _, _], _ => rfl
theorem sc_Formula_invert_ : FnScope ["self"] ["self"] (defScope s_Formula_invert_) := ⟨rfl, rfl, rfl, by decide +kernel, rfl, by decide +kernel, by decide +kernel⟩
theorem bd_Formula_invert_ (T : Tx K mg w) : Binds K T.f_Formula_invert_.fd ["self"] [] := T.f_Formula_invert_.F.binds (ps := ["self"]) fun _ _ _ _ _ _ us hl => match us, hl with | [_], _ => rfl
theorem sc_product_formula : FnScope ["k", "formula", "written"] ["k", "formula"] (defScope s_product_formula) := ⟨rfl, rfl, rfl, by decide +kernel, rfl, by decide +kernel, by decide +kernel⟩
theorem bd_product_formula (T : Tx K mg w) : Binds K T.f_product_formula.fd ["k", "formula"] [] := T.f_product_formula.F.binds (ps := ["k", "formula"]) fun _ _ _ _ _ _ us hl => match us, hl with | [_, _], _ => rfl
theorem sc_Formula_add_ : FnScope ["self", "other", "beside"] ["self", "other"] (defScope s_Formula_add_) := ⟨rfl, rfl, rfl, by decide +kernel, rfl, by decide +kernel, by decide +kernel⟩
theorem bd_Formula_add_ (T : Tx K mg w) : Binds K T.f_Formula_add_.fd ["self", "other"] [] := T.f_Formula_add_.F.binds (ps := ["self", "other"]) fun _ _ _ _ _ _ us hl => match us, hl with | [_, _], _ => rfl
theorem sc_Formula_rmul_ : FnScope ["self", "other"] ["self", "other"] (defScope s_Formula_rmul_) := ⟨rfl, rfl, rfl, by decide +kernel, rfl, by decide +kernel, by decide +kernel⟩
theorem bd_Formula_rmul_ (T : Tx K mg w) : Binds K T.f_Formula_rmul_.fd ["self", "other"] [] := T.f_Formula_rmul_.F.binds (ps := ["self", "other"]) fun _ _ _ _ _ _ us hl => match us, hl with | [_, _], _ => rfl
theorem mk_Saying (T : Tx K mg w) : Mk K T.k_Saying.C T.f_Saying_init_.a := ⟨T.mk_Saying_, T.f_Saying_init_.M.at_, T.f_Saying_init_.M.fn, T.k_Saying.kp⟩
theorem sc_Saying_init_ : FnScope ["self", "steps", "written", "level", "formulas", "names", "_", "parts", "formula", "name"] ["self", "steps", "written", "level"] (defScope s_Saying_init_) := ⟨rfl, rfl, rfl, by decide +kernel, rfl, by decide +kernel, by decide +kernel⟩
theorem bd_Saying_init_ (T : Tx K mg w) : Binds K T.f_Saying_init_.fd ["self", "steps", "written", "level"] [] := T.f_Saying_init_.F.binds (ps := ["self", "steps", "written", "level"]) fun _ _ _ _ _ _ us hl => match us, hl with | [_, _, _, _], _ => rfl
theorem sc_Formula_str_ : FnScope ["self"] ["self"] (defScope s_Formula_str_) := ⟨rfl, rfl, rfl, by decide +kernel, rfl, by decide +kernel, by decide +kernel⟩
theorem bd_Formula_str_ (T : Tx K mg w) : Binds K T.f_Formula_str_.fd ["self"] [] := T.f_Formula_str_.F.binds (ps := ["self"]) fun _ _ _ _ _ _ us hl => match us, hl with | [_], _ => rfl
theorem sc_joined_sayings : FnScope ["left", "sign", "right"] ["left", "sign", "right"] (defScope s_joined_sayings) := ⟨rfl, rfl, rfl, by decide +kernel, rfl, by decide +kernel, by decide +kernel⟩
theorem bd_joined_sayings (T : Tx K mg w) : Binds K T.f_joined_sayings.fd ["left", "sign", "right"] [] := T.f_joined_sayings.F.binds (ps := ["left", "sign", "right"]) fun _ _ _ _ _ _ us hl => match us, hl with | [_, _, _], _ => rfl
theorem sc_Saying_and_ : FnScope ["self", "other"] ["self", "other"] (defScope s_Saying_and_) := ⟨rfl, rfl, rfl, by decide +kernel, rfl, by decide +kernel, by decide +kernel⟩
theorem bd_Saying_and_ (T : Tx K mg w) : Binds K T.f_Saying_and_.fd ["self", "other"] [] := T.f_Saying_and_.F.binds (ps := ["self", "other"]) fun _ _ _ _ _ _ us hl => match us, hl with | [_, _], _ => rfl
theorem sc_simple_saying : FnScope ["word", "parts", "inside", "part"] ["word", "parts"] (defScope s_simple_saying) := ⟨rfl, rfl, rfl, by decide +kernel, rfl, by decide +kernel, by decide +kernel⟩
theorem bd_simple_saying (T : Tx K mg w) : Binds K T.f_simple_saying.fd ["word", "parts"] [] := T.f_simple_saying.F.binds (ps := ["word", "parts"]) fun _ _ _ _ _ _ us hl => match us, hl with | [_, _], _ => rfl
theorem sc_yes : FnScope [] [] (defScope s_yes) := ⟨rfl, rfl, rfl, by decide +kernel, rfl, by decide +kernel, by decide +kernel⟩
theorem bd_yes (T : Tx K mg w) : Binds K T.f_yes.fd [] [] := T.f_yes.F.binds (ps := []) fun _ _ _ _ _ _ us hl => match us, hl with | [], _ => rfl
theorem sc_same : FnScope ["e", "f"] ["e", "f"] (defScope s_same) := ⟨rfl, rfl, rfl, by decide +kernel, rfl, by decide +kernel, by decide +kernel⟩
theorem bd_same (T : Tx K mg w) : Binds K T.f_same.fd ["e", "f"] [] := T.f_same.F.binds (ps := ["e", "f"]) fun _ _ _ _ _ _ us hl => match us, hl with | [_, _], _ => rfl
theorem sc_is_full : FnScope ["e"] ["e"] (defScope s_is_full) := ⟨rfl, rfl, rfl, by decide +kernel, rfl, by decide +kernel, by decide +kernel⟩
theorem bd_is_full (T : Tx K mg w) : Binds K T.f_is_full.fd ["e"] [] := T.f_is_full.F.binds (ps := ["e"]) fun _ _ _ _ _ _ us hl => match us, hl with | [_], _ => rfl
theorem sc_all_of : FnScope ["sayings", "so_far", "saying"] ["sayings"] (defScope s_all_of) := ⟨rfl, rfl, rfl, by decide +kernel, rfl, by decide +kernel, by decide +kernel⟩
theorem sc_is_pair : FnScope ["value"] ["value"] (defScope s_is_pair) := ⟨rfl, rfl, rfl, by decide +kernel, rfl, by decide +kernel, by decide +kernel⟩
theorem bd_is_pair (T : Tx K mg w) : Binds K T.f_is_pair.fd ["value"] [] := T.f_is_pair.F.binds (ps := ["value"]) fun _ _ _ _ _ _ us hl => match us, hl with | [_], _ => rfl
theorem sc_is_cover : FnScope ["cover", "known", "name", "times", "_", "part"] ["cover", "known"] (defScope s_is_cover) := ⟨rfl, rfl, rfl, by decide +kernel, rfl, by decide +kernel, by decide +kernel⟩
theorem bd_is_cover (T : Tx K mg w) : Binds K T.f_is_cover.fd ["cover", "known"] [] := T.f_is_cover.F.binds (ps := ["cover", "known"]) fun _ _ _ _ _ _ us hl => match us, hl with | [_, _], _ => rfl
theorem sc_BadRing_init_ : FnScope ["self", "part", "at"] ["self", "part", "at"] (defScope s_BadRing_init_) := ⟨rfl, rfl, rfl, by decide +kernel, rfl, by decide +kernel, by decide +kernel⟩
theorem bd_BadRing_init_ (T : Tx K mg w) : Binds K T.f_BadRing_init_.fd ["self", "part", "at"] [] := T.f_BadRing_init_.F.binds (ps := ["self", "part", "at"]) fun _ _ _ _ _ _ us hl => match us, hl with | [_, _, _], _ => rfl
theorem sc_check_contents : FnScope ["contents", "at", "name"] ["contents"] (defScope s_check_contents) := ⟨rfl, rfl, rfl, by decide +kernel, rfl, by decide +kernel, by decide +kernel⟩
theorem bd_check_contents (T : Tx K mg w) : Binds K T.f_check_contents.fd ["contents"] [] := T.f_check_contents.F.binds (ps := ["contents"]) fun _ _ _ _ _ _ us hl => match us, hl with | [_], _ => rfl
theorem sc_check_covers : FnScope ["contents", "covers", "known", "at", "pair"] ["contents", "covers"] (defScope s_check_covers) := ⟨rfl, rfl, rfl, by decide +kernel, rfl, by decide +kernel, by decide +kernel⟩
theorem bd_check_covers (T : Tx K mg w) : Binds K T.f_check_covers.fd ["contents", "covers"] [] := T.f_check_covers.F.binds (ps := ["contents", "covers"]) fun _ _ _ _ _ _ us hl => match us, hl with | [_, _], _ => rfl
theorem sc_check_totals : FnScope ["ring", "at", "pair"] ["ring"] (defScope s_check_totals) := ⟨rfl, rfl, rfl, by decide +kernel, rfl, by decide +kernel, by decide +kernel⟩
theorem bd_check_totals (T : Tx K mg w) : Binds K T.f_check_totals.fd ["ring"] [] := T.f_check_totals.F.binds (ps := ["ring"]) fun _ _ _ _ _ _ us hl => match us, hl with | [_], _ => rfl
theorem sc_check_summed : FnScope ["summed", "checks", "at", "name"] ["summed", "checks"] (defScope s_check_summed) := ⟨rfl, rfl, rfl, by decide +kernel, rfl, by decide +kernel, by decide +kernel⟩
theorem bd_check_summed (T : Tx K mg w) : Binds K T.f_check_summed.fd ["summed", "checks"] [] := T.f_check_summed.F.binds (ps := ["summed", "checks"]) fun _ _ _ _ _ _ us hl => match us, hl with | [_, _], _ => rfl
theorem sc_cover_of : FnScope ["ring", "check"] ["ring", "check"] (defScope s_cover_of) := ⟨rfl, rfl, rfl, by decide +kernel, rfl, by decide +kernel, by decide +kernel⟩
theorem bd_cover_of (T : Tx K mg w) : Binds K T.f_cover_of.fd ["ring", "check"] [] := T.f_cover_of.F.binds (ps := ["ring", "check"]) fun _ _ _ _ _ _ us hl => match us, hl with | [_, _], _ => rfl
theorem sc_Ring_sum_of : FnScope ["self", "check", "first", "others", "so_far", "part", "name", "times"] ["self", "check"] (defScope s_Ring_sum_of) := ⟨rfl, rfl, rfl, by decide +kernel, rfl, by decide +kernel, by decide +kernel⟩
theorem bd_Ring_sum_of (T : Tx K mg w) : Binds K T.f_Ring_sum_of.fd ["self", "check"] [] := T.f_Ring_sum_of.F.binds (ps := ["self", "check"]) fun _ _ _ _ _ _ us hl => match us, hl with | [_, _], _ => rfl
theorem sc_Ring_wish : FnScope ["self", "check", "covered"] ["self", "check"] (defScope s_Ring_wish) := ⟨rfl, rfl, rfl, by decide +kernel, rfl, by decide +kernel, by decide +kernel⟩
theorem bd_Ring_wish (T : Tx K mg w) : Binds K T.f_Ring_wish.fd ["self", "check"] [] := T.f_Ring_wish.F.binds (ps := ["self", "check"]) fun _ _ _ _ _ _ us hl => match us, hl with | [_, _], _ => rfl
theorem sc_found_layers : FnScope ["ring", "layers", "left", "layer", "check", "name", "_"] ["ring"] (defScope s_found_layers) := ⟨rfl, rfl, rfl, by decide +kernel, rfl, by decide +kernel, by decide +kernel⟩
theorem bd_found_layers (T : Tx K mg w) : Binds K T.f_found_layers.fd ["ring"] [] := T.f_found_layers.F.binds (ps := ["ring"]) fun _ _ _ _ _ _ us hl => match us, hl with | [_], _ => rfl
theorem mk_Ring (T : Tx K mg w) : Mk K T.k_Ring.C T.f_Ring_init_.a := ⟨T.mk_Ring_, T.f_Ring_init_.M.at_, T.f_Ring_init_.M.fn, T.k_Ring.kp⟩
theorem sc_Ring_init_ : FnScope ["self", "contents", "covers", "summed", "wishes", "check", "_"] ["self", "contents", "covers", "summed"] (defScope s_Ring_init_) := ⟨rfl, rfl, rfl, by decide +kernel, rfl, by decide +kernel, by decide +kernel⟩
theorem sc_law_pen : FnScope ["_law_script"] ["_law_script"] (defScope s_law_pen) := ⟨rfl, rfl, rfl, by decide +kernel, rfl, by decide +kernel, by decide +kernel⟩
theorem bd_law_pen (T : Tx K mg w) : Binds K T.f_law_pen.fd ["_law_script"] [] := T.f_law_pen.F.binds (ps := ["_law_script"]) fun _ _ _ _ _ _ us hl => match us, hl with | [_], _ => rfl
theorem sc_law_draw : FnScope ["_law_pen_here", "_law_bound", "_law_digit", "_law_at", "_law_cell", "_law_great", "_law_mixed"] ["_law_pen_here", "_law_bound"] (defScope s_law_draw) := ⟨rfl, rfl, rfl, by decide +kernel, rfl, by decide +kernel, by decide +kernel⟩
theorem bd_law_draw (T : Tx K mg w) : Binds K T.f_law_draw.fd ["_law_pen_here", "_law_bound"] [] := T.f_law_draw.F.binds (ps := ["_law_pen_here", "_law_bound"]) fun _ _ _ _ _ _ us hl => match us, hl with | [_, _], _ => rfl
theorem sc_law_one : FnScope ["_law_pen_here", "_law_some"] ["_law_pen_here", "_law_some"] (defScope s_law_one) := ⟨rfl, rfl, rfl, by decide +kernel, rfl, by decide +kernel, by decide +kernel⟩
theorem bd_law_one (T : Tx K mg w) : Binds K T.f_law_one.fd ["_law_pen_here", "_law_some"] [] := T.f_law_one.F.binds (ps := ["_law_pen_here", "_law_some"]) fun _ _ _ _ _ _ us hl => match us, hl with | [_, _], _ => rfl
theorem sc_law_refused : FnScope ["_law_contents", "_law_covers", "_law_folded", "error"] ["_law_contents", "_law_covers", "_law_folded"] (defScope s_law_refused) := ⟨rfl, rfl, rfl, by decide +kernel, rfl, by decide +kernel, by decide +kernel⟩
theorem bd_law_refused (T : Tx K mg w) : Binds K T.f_law_refused.fd ["_law_contents", "_law_covers", "_law_folded"] [] := T.f_law_refused.F.binds (ps := ["_law_contents", "_law_covers", "_law_folded"]) fun _ _ _ _ _ _ us hl => match us, hl with | [_, _, _], _ => rfl
theorem sc_law_thing : FnScope ["_law_pen_here"] ["_law_pen_here"] (defScope s_law_thing) := ⟨rfl, rfl, rfl, by decide +kernel, rfl, by decide +kernel, by decide +kernel⟩
theorem bd_law_thing (T : Tx K mg w) : Binds K T.f_law_thing.fd ["_law_pen_here"] [] := T.f_law_thing.F.binds (ps := ["_law_pen_here"]) fun _ _ _ _ _ _ us hl => match us, hl with | [_], _ => rfl
theorem sc_law_bent_contents : FnScope ["_law_pen_here", "_law_good", "_law_pick", "_law_at", "_law_odd"] ["_law_pen_here", "_law_good"] (defScope s_law_bent_contents) := ⟨rfl, rfl, rfl, by decide +kernel, rfl, by decide +kernel, by decide +kernel⟩
theorem bd_law_bent_contents (T : Tx K mg w) : Binds K T.f_law_bent_contents.fd ["_law_pen_here", "_law_good"] [] := T.f_law_bent_contents.F.binds (ps := ["_law_pen_here", "_law_good"]) fun _ _ _ _ _ _ us hl => match us, hl with | [_, _], _ => rfl
theorem sc_law_bent_folded : FnScope ["_law_pen_here", "_law_pick"] ["_law_pen_here"] (defScope s_law_bent_folded) := ⟨rfl, rfl, rfl, by decide +kernel, rfl, by decide +kernel, by decide +kernel⟩
theorem bd_law_bent_folded (T : Tx K mg w) : Binds K T.f_law_bent_folded.fd ["_law_pen_here"] [] := T.f_law_bent_folded.F.binds (ps := ["_law_pen_here"]) fun _ _ _ _ _ _ us hl => match us, hl with | [_], _ => rfl
theorem sc_law_bent_total : FnScope ["_law_pen_here", "_law_good", "_law_at", "_law_row", "_law_odds", "_law_odd"] ["_law_pen_here", "_law_good"] (defScope s_law_bent_total) := ⟨rfl, rfl, rfl, by decide +kernel, rfl, by decide +kernel, by decide +kernel⟩
theorem bd_law_bent_total (T : Tx K mg w) : Binds K T.f_law_bent_total.fd ["_law_pen_here", "_law_good"] [] := T.f_law_bent_total.F.binds (ps := ["_law_pen_here", "_law_good"]) fun _ _ _ _ _ _ us hl => match us, hl with | [_, _], _ => rfl
theorem sc_law_bent_covers : FnScope ["_law_pen_here", "_law_good", "_law_pick", "_law_at", "_law_cover", "_law_odd"] ["_law_pen_here", "_law_good"] (defScope s_law_bent_covers) := ⟨rfl, rfl, rfl, by decide +kernel, rfl, by decide +kernel, by decide +kernel⟩
theorem bd_law_bent_covers (T : Tx K mg w) : Binds K T.f_law_bent_covers.fd ["_law_pen_here", "_law_good"] [] := T.f_law_bent_covers.F.binds (ps := ["_law_pen_here", "_law_good"]) fun _ _ _ _ _ _ us hl => match us, hl with | [_, _], _ => rfl
theorem sc_law : FnScope ["_law_script", "_law_pen_here", "_law_turn", "_law_contents", "_law_covers", "_law_folded", "_law_bent", "_law_many", "_law_row"] ["_law_script"] (defScope s_law) := ⟨rfl, rfl, rfl, by decide +kernel, rfl, by decide +kernel, by decide +kernel⟩
theorem bd_law (T : Tx K mg w) : Binds K T.f_law.fd ["_law_script"] [] := T.f_law.F.binds (ps := ["_law_script"]) fun _ _ _ _ _ _ us hl => match us, hl with | [_], _ => rfl
theorem sc_Formula_mul_ : FnScope ["self", "other"] ["self", "other"] (defScope s_Formula_mul_) := ⟨rfl, rfl, rfl, by decide +kernel, rfl, by decide +kernel, by decide +kernel⟩
theorem bd_Formula_mul_ (T : Tx K mg w) : Binds K T.f_Formula_mul_.fd ["self", "other"] [] := T.f_Formula_mul_.F.binds (ps := ["self", "other"]) fun _ _ _ _ _ _ us hl => match us, hl with | [_, _], _ => rfl
end
section
variable {P : Program} {w : World} {K : PySem.W.Frag} {mg : Str → Option Value} {base : Heap}
theorem ok_is_whole (T : Tx K mg w) : FnOk P w K mg base CX0 1 T.f_is_whole.a T.f_is_whole.fd ["value"] spThWhole := by
  refine T.f_is_whole.F.ok sc_is_whole (fun vs H Q E h => ?_) (fun cdv A outer s H vs Q E hr h => ?_)
  · obtain ⟨v, g, rfl, _⟩ := h
    rfl
  · obtain ⟨v, g, rfl, d, k⟩ := h
    refine ⟨_, (pss_one (ps_ret (pe_and (pe_callB call_isi (by rfl) T.b_isinstance (by decide +kernel) (pa_cons (pv 0) (pa_cons (pe_bltn (v := .ty "int") (by rfl) T.b_int (by decide +kernel) rfl) pa_nil))) (pe_one (pe_not (pe_callB call_isi (by rfl) T.b_isinstance (by decide +kernel) (pa_cons (pv 0) (pa_cons (pe_bltn (v := .ty "bool") (by rfl) T.b_bool (by decide +kernel) rfl) pa_nil)))))))), ?_⟩

    obtain ⟨t, ty, kt⟩ := d.ty (K := K)
    refine ⟨_, rfl, _, _, _, _, _, rfl, .ty "int", ty, kt "int" (by decide), _, rfl, ?_⟩
    cases d with
    | int i => exact iteT ⟨_, rfl, _, _, _, _, _, rfl, .ty "bool", ty, kt "bool" (by decide), _, rfl, k⟩
    | bl b => exact iteT ⟨_, rfl, _, _, _, _, _, rfl, .ty "bool", ty, kt "bool" (by decide), _, rfl, k⟩
    | _ => exact iteF k
theorem ok_is_from (T : Tx K mg w) : FnOk P w K mg base CX0 2 T.f_is_from.a T.f_is_from.fd ["value", "least", "most"] spThFrom := by
  refine T.f_is_from.F.ok sc_is_from (fun vs H Q E h => ?_) (fun cdv A outer s H vs Q E hr h => ?_)
  · obtain ⟨v, g, lo, hi, rfl, _⟩ := h
    rfl
  · obtain ⟨v, g, lo, hi, rfl, d, k⟩ := h
    refine ⟨_, (pss_one (ps_ret (pe_and (pe_call (ok_is_whole T) (hr.mono (by decide)) (by rfl) T.f_is_whole.m T.f_is_whole.F.kp (bd_is_whole T) .nil pass0 (pa_cons (pv 0) pa_nil)) (pe_one (pe_chain op_le op_le (pv 1) (pv 0) (pv 2)))))), ?_⟩

    refine ⟨_, rfl, v, g, rfl, d, _, rfl, ?_⟩
    cases d with
    | int n =>
      refine iteT ?_
      refine ⟨_, rfl, _, rfl, _, _, rfl, rfl, _, rfl, ?_⟩
      refine ite2 (fun h1 => ?_) (fun h1 => ?_)
      · refine ⟨_, rfl, _, _, rfl, rfl, ?_⟩
        have k : Q (.bl (decide (lo ≤ n) && decide (n ≤ hi))) H := k
        rw [h1, Bool.true_and] at k
        exact k
      · have k : Q (.bl (decide (lo ≤ n) && decide (n ≤ hi))) H := k
        rw [Bool.eq_false_iff.mpr h1, Bool.false_and] at k
        exact k
    | _ => exact iteF k
theorem ok_is_name (T : Tx K mg w) : FnOk P w K mg base CX0 1 T.f_is_name.a T.f_is_name.fd ["value"] spIsName := by
  refine T.f_is_name.F.ok sc_is_name (fun vs H Q E h => ?_) (fun cdv A outer s H vs Q E hr h => ?_)
  · obtain ⟨v, g, rfl, _⟩ := h
    rfl
  · obtain ⟨v, g, rfl, d, k⟩ := h
    refine ⟨_, (pss_cons (ps_if (PW.pt (pw_or (pt_not (pt_val (pe_callB call_isi (by rfl) T.b_isinstance (by decide +kernel) (pa_cons (pv 0) (pa_cons (pe_bltn (v := .ty "str") (by rfl) T.b_str (by decide +kernel) rfl) pa_nil))))) (pw_or (pt_not (pt_chain op_le op_le pe_int (pe_callB call_len (by rfl) T.b_len (by decide +kernel) (pa_cons (pv 0) pa_nil)) (pe_glob (v := .int 6) (by rfl) T.c_MOST_LETTERS.m ⟨_, rfl⟩))) (pw_or1 (pt_cmpR op_in_seq (pv 0) (pe_glob (v := .ref T.g_NO_NAMES.a) (by rfl) T.g_NO_NAMES.m rfl) (by rfl)))))) (pss_one (ps_ret pe_bl)) pss_nil)
      (pss_one (ps_ret (pe_callB (cr_all rfl) (by rfl) T.b_all (by decide +kernel) (pa_cons (pe_lc (own := [("letter", 1)]) (g := gName 1) (tt := tYes) (by rfl) sc_is_name.nd (pi_str (pv 0)) (blkOk_by (own := [("letter", 1)]) (N := ["value", "letter"]) (sc := defScope s_is_name) (by decide +kernel)) (fun _ _ _ _ _ => pg_name (i := 1) sc_is_name.nd rfl (Or.inl rfl)) (fun _ _ _ _ _ => pts_nil) (fun _ _ _ _ _ => (pe_cmpR op_in_sign (pv 1) (pe_glob (v := (.str "abcdefghijklmnopqrstuvwxyz")) (by rfl) T.c_LETTERS.m ⟨_, rfl⟩) (by rfl)))) pa_nil))))), ?_⟩

    obtain ⟨t, ty, kt⟩ := d.ty (K := K)
    refine ⟨_, rfl, _, _, _, _, _, rfl, .ty "str", ty, kt "str" (by decide), _, rfl, ?_⟩
    cases d with
    | str z hz =>
      refine iteF ?_
      refine ⟨_, rfl, .str z, z.length, rfl, by constructor <;> first | exact Nat.le_trans hz (by decide) | rfl, ?_⟩
      have k : ∀ H', Ex H H' → Q (.bl ((decide (1 ≤ z.length) && decide (z.length ≤ 6)) && !(NON.any fun y => y == z) && z.cps.toList.all fun c => decide (c ∈ LET.cps.toList))) H' := k
      refine ⟨_, _, rfl, rfl, _, rfl, ?_⟩
      by_cases l1 : 1 ≤ z.length
      · refine iteD (by omega) ?_
        refine ⟨_, _, rfl, rfl, _, rfl, ?_⟩
        by_cases l6 : z.length ≤ 6
        · refine iteNd (by omega) ?_
          rw [decide_eq_true l1, decide_eq_true l6] at k
          refine ⟨_, rfl, T.g_NO_NAMES.a, _, rfl, .inr (T.g_NO_NAMES.s H), rfl, rfl, _, rfl, ?_⟩
          have en : inV (.str z) (List.map V.str ["full", "same", "like", "isempty", "isfull", "yes", "no"]) = NON.any fun y => y == z := rfl
          rw [en]
          cases hb : NON.any fun y => y == z with
          | true =>
            rw [hb] at k
            exact iteT (k _ fun _ _ h => h)
          | false =>
            rw [hb] at k
            refine iteF ?_
            refine ⟨_, rfl, ?_⟩
            refine ⟨z, rfl, fun D nD => ?_⟩
            have hz' : z.cps.size ≤ 1000 := hz
            refine lc_vals walk_strC (fun i => .bl (decide (z.cps.getD i 0 ∈ LET.cps.toList))) nD hz' (fun _ _ => trivial) ?_ (fun H3 e3 h => allC h ?_)
            · rintro j y H3 H4 hj e3 ⟨rfl, rfl⟩ R hR
              refine ⟨rfl, ?_⟩
              exact ⟨_, rfl, _, _, rfl, rfl, hR _ _ rfl fun _ _ h => h⟩
            · rw [all_cps (p := fun c => decide (c ∈ LET.cps.toList))]
              have k := k H3 e3
              rw [Bool.not_false, Bool.and_self, Bool.true_and] at k
              exact k
        · refine iteNn (by omega) ?_
          rw [decide_eq_false l6, Bool.and_false, Bool.false_and, Bool.false_and] at k
          exact k _ fun _ _ h => h
      · refine iteN (by omega) ?_
        rw [decide_eq_false l1, Bool.false_and, Bool.false_and, Bool.false_and] at k
        exact ⟨_, rfl, iteT (k _ fun _ _ h => h)⟩
    | _ => exact iteT (k _ fun _ _ h => h)
theorem ok_Formula_init_ (T : Tx K mg w) : FnOk P w K mg base CX0 1 T.f_Formula_init_.a T.f_Formula_init_.fd ["self", "steps", "written", "level"] (spFoInitN T.k_Formula.C) := by
  refine T.f_Formula_init_.F.ok sc_Formula_init_ (fun vs H Q E h => ?_) (fun cdv A outer s H vs Q E hr h => ?_)
  · obtain ⟨p, dx, sp, wr, lv, st, rfl, _⟩ := h
    rfl
  · obtain ⟨p, dx, sp, wr, lv, st, rfl, hp, S, l60, sok, k⟩ := h
    refine ⟨_, (pss_cons (ps_if (pt_cmpR op_gt (pe_callB call_len_seq (by rfl) T.b_len (by decide +kernel) (pa_cons (pv 1) pa_nil)) (ClX.pe_cval (pe_glob (v := .ref T.k_Formula.C) (by rfl) T.k_Formula.m rfl)) (nomark _)) (pss_one ps_never) pss_nil)
      (pss_cons (ps_fld (pv 0) (pv 1) rfl)
      (pss_cons (ps_fld (pv 0) (pe_callB call_len_seq (by rfl) T.b_len (by decide +kernel) (pa_cons (pv 1) pa_nil)) rfl)
      (pss_cons (ps_fld (pv 0) (pv 2) rfl)
      (pss_cons (ps_fld (pv 0) (pv 3) rfl)
      (pss_cons (ps_setDc (i := 4) (own := [("sign", 5), ("worth", 6)]) (g := gTup K 2 (gCons (gName 5) (gCons (gName 6) gNil))) rfl sc_Formula_init_.nd rfl rfl (Tz.sw_trueD rfl rfl rfl (by decide +kernel)) (pi_tupK (K := K) rfl (pv 1)) (blkOk_by (own := [("sign", 5), ("worth", 6)]) (N := ["self", "steps", "written", "level", "names", "sign", "worth"]) (sc := defScope s_Formula_init_) (by decide +kernel)) (fun _ _ _ _ _ => pg_tup rfl (pgs_cons (pg_name (i := 5) sc_Formula_init_.nd rfl (Or.inl rfl)) (pgs_cons (pg_name (i := 6) sc_Formula_init_.nd rfl (Or.inl rfl)) pgs_nil))) (fun _ _ _ _ _ => (pts_one (pt_cmpR op_eq (pv 5) pe_str (nomark _)))) (fun _ _ _ _ _ => (pv 6)) (fun _ _ _ _ _ => pe_bl))
      (pss_one (ps_fld (pv 0) (pe_callTy call_tuple_of (by rfl) T.b_tuple (by decide +kernel) (pa_cons (pe_callBK (TzSort.cr_sortedStrD rfl) (by rfl) T.b_sorted (by decide +kernel) (pa_cons (pv 4) pa_nil) (pk_cons (pe_bltn (v := .ty "str") (by rfl) T.b_str (by decide +kernel) rfl) pk_nil)) pa_nil)) rfl)))))))), ?_⟩

    obtain ⟨xs, hs, ls, rs⟩ := S.ex
    have spp : sp ≠ p := fun e => by rw [e, hp] at hs; cases hs
    refine ⟨_, rfl, sp, _, rfl, .inr (sqT hs), T.k_Formula.C, _, .int 60, _, rfl, T.k_Formula.rd, T.cc_Formula_MOST_SIZE.c, _, _, rfl, rfl, _, rfl, iteN (by rw [List.length_map, ls]; omega) ?_⟩
    refine ⟨_, rfl, _, rfl, p, _, dx, _, rfl, hp, T.k_Formula.cl, T.n_Formula_steps, by show 0 < 1000; decide, ?_⟩
    refine ⟨_, rfl, sp, _, rfl, .inr (sqT (by rw [upd_ne spp]; exact hs)), _, rfl, p, _, dx, _, rfl, upd_same, T.k_Formula.cl, T.n_Formula_size, by show 1 < 1000; decide, ?_⟩
    refine ⟨_, rfl, _, rfl, p, _, dx, _, rfl, upd_same, T.k_Formula.cl, T.n_Formula_written, by show 2 < 1000; decide, ?_⟩
    refine ⟨_, rfl, _, rfl, p, _, dx, _, rfl, upd_same, T.k_Formula.cl, T.n_Formula_level, by show 3 < 1000; decide, ?_⟩
    rw [List.length_map, ls]
    generalize g4 : upd _ p _ = H4
    have hp4 := gat g4
    have fr : ∀ b o, H b = some o → b ≠ p → H4 b = some o := fun b o hb ne => by
      rw [← g4, upd_ne ne, upd_ne ne, upd_ne ne, upd_ne ne]
      exact hb
    clear g4
    have hs4 := fr _ _ hs spp
    have rs4 : ∀ (i : Nat) (x : Addr) (s : Str × V), xs[i]? = some x → st[i]? = some s → H4 x = some (.tup [.str s.1, s.2]) := fun i x s h1 h2 => fr _ _ (rs i x s h1 h2) fun e => by
      have := rs i x s h1 h2
      rw [e, hp] at this
      cases this
    refine ⟨_, rfl, sp, rfl, ⟨_, sqT hs4⟩, fun D nD => ?_⟩
    refine dc_it (walk_rowsT ls) (fun i H' => ∃ ks, H' D = some (.dK (nmD ks)) ∧ ks.length ≤ i ∧ Ex H4 H') ⟨[], upd_same, Nat.le_refl _, Ex.new nD⟩ (fun i H' _ ⟨ks, h⟩ => h.2.2 _ _ hs4) ?_ ?_
    · rintro i v H5 H6 hi ⟨ks, hD, hl, e5⟩ ⟨rfl, x, hx, rfl⟩
      have hst : st[i]? = some st[i] := List.getElem?_eq_getElem hi
      have hx5 := e5 _ _ (rs4 i x _ hx hst)
      refine ⟨x, _, rfl, sqT hx5, rfl, _, _, rfl, _, _, rfl, rfl, rfl, ?_⟩
      refine ⟨_, rfl, rfl, _, rfl, ite2 (fun q => ?_) (fun q => ?_)⟩
      · obtain ⟨z, hz⟩ := sok st[i] (List.getElem_mem hi) (V.str.inj (of_decide_eq_true q))
        obtain ⟨ks', e1, e2, e3⟩ := putK_nm (ks := ks) (z := z)
        refine ⟨_, rfl, _, Sum.inr z, hz, hD, by rw [nmD_len]; exact Nat.lt_of_le_of_lt (show ks.length ≤ 60 by omega) (by decide), ks', by rw [upd_same, e1], by omega, fun a o h => ?_⟩
        rw [upd_ne fun w => by rw [w, nD] at h; cases h]
        exact e5 _ _ h
      · exact ⟨ks, hD, Nat.le_succ_of_le hl, e5⟩
    · rintro H5 ⟨ks, hD, hl, e5⟩
      have hp5 := e5 _ _ hp4
      refine ⟨_, rfl, D, _, ks, rfl, rfl, .inl hD, nmD_keys, by omega, fun ys q pm so nq => ?_⟩
      refine ⟨q, _, rfl, .inl ⟨sq upd_same, fun np nnp => ?_⟩⟩
      have e7 : Ex H5 (upd (upd H5 q (.lst (ys.map V.str))) np (.tup (ys.map V.str))) := fun a o h => Ex.new nnp _ _ (Ex.new nq _ _ h)
      have npp : np ≠ p := (some_none ⟨_, Ex.new nq _ _ hp5⟩ nnp).symm
      refine ⟨_, rfl, p, _, dx, _, rfl, e7 _ _ hp5, T.k_Formula.cl, T.n_Formula__names, by show 4 < 1000; decide, ?_⟩
      exact k np ys _ upd_same (by rw [upd_ne npp]; exact upd_same) (by have := pm.length_eq; omega) fun b o hb ne => by
        rw [upd_ne ne]
        exact e7 _ _ (e5 _ _ (fr b o hb ne))
theorem ok_number (T : Tx K mg w) : FnOk P w K mg base CX0 3 T.f_number.a T.f_number.fd ["c"] (spNumber T.k_Formula.C) := by
  refine T.f_number.F.ok sc_number (fun vs H Q E h => ?_) (fun cdv A outer s H vs Q E hr h => ?_)
  · obtain ⟨c, rfl, _⟩ := h
    rfl
  · obtain ⟨c, rfl, c0, c15, k⟩ := h
    refine ⟨_, (pss_cons (ps_if (pt_not (pt_val (pe_call (ok_is_from T) (hr.mono (by decide)) (by rfl) T.f_is_from.m T.f_is_from.F.kp (bd_is_from T) .nil pass0 (pa_cons (pv 0) (pa_cons pe_int (pa_cons (pe_glob (v := .int 15) (by rfl) T.c_MOST_NUMBER.m ⟨_, rfl⟩) pa_nil)))))) (pss_one ps_never) pss_nil)
      (pss_one (ps_ret (pe_make (mk_Formula T) (ok_Formula_init_ T) (hr.mono (by decide)) (by rfl) T.k_Formula.m (bd_Formula_init_ T) .nil pass0 (pa_cons (pe_tup (pa_cons (pe_tup (pa_cons pe_str (pa_cons (pv 0) pa_nil))) pa_nil)) (pa_cons (pe_callTy call_str_int (by rfl) T.b_str (by decide +kernel) (pa_cons (pv 0) pa_nil)) (pa_cons (pe_glob (v := .int 5) (by rfl) T.c_TIGHTEST.m ⟨_, rfl⟩) pa_nil))))))), ?_⟩

    refine ⟨_, rfl, .int c, .int, _, _, rfl, .int c, ?_⟩
    show ∃ k, V.bl (decide (0 ≤ c) && decide (c ≤ 15)) = V.bl k ∧ _
    rw [decide_eq_true c0, decide_eq_true c15]
    refine ⟨_, rfl, iteF ?_⟩
    refine ⟨_, rfl, by show 2 ≤ sizeLine; decide, fun t1 nt1 => ?_⟩
    (generalize g_H2 : upd _ t1 _ = H2); have ht1 := gat g_H2; have e2 := gex g_H2 nt1; clear g_H2
    refine ⟨by show 1 ≤ sizeLine; decide, fun t2 nt2 => ?_⟩
    (generalize g_H3 : upd _ t2 _ = H3); have ht2 := gat g_H3; have e3 := gex g_H3 nt2; clear g_H3
    have lg : c.natAbs.log2 < 1920 := by
      have : c.natAbs < 2 ^ 40 := by omega
      have := PySem.Flt.log2_lt_of (by decide) this
      omega
    refine ⟨_, rfl, c, rfl, lg, fun x dx nx ndx ne => ?_⟩
    have S := step_one (e3 _ _ ht1) ht2
    have ey : Ex H3 (upd (upd H3 dx (.own x)) x (.ins T.k_Formula.C dx [])) := ex_two nx ndx
    have sok : ∀ s ∈ [(("number" : Str), V.int c)], StepOk s := fun s hs => by
      rw [List.mem_singleton.mp hs]
      exact fun e => absurd (show ("number" : Str) = "name" from e) (by decide)
    refine ⟨x, dx, t2, _, 5, [("number", .int c)], rfl, upd_same, S.ext ey, by show 1 ≤ 60; decide, sok, fun np ys H4 h4 _ _ fr => ?_⟩
    refine ⟨rfl, k x H4 (fun a o q => fr_ex nx ndx fr _ _ (e3 _ _ (e2 _ _ q))) (new_fo h4 fr (S.ext ey) upd_same sok (Nat.le_refl _) ?_)⟩
    exact Nat.le_trans (PyProof.Rows.toString_length_le c0 (k := 2) (by decide) (by omega)) (by decide)
theorem ok_right_written (T : Tx K mg w) : FnOk P w K mg base CX0 1 T.f_right_written.a T.f_right_written.fd ["part", "sign"] (spRightR K) := by
  refine T.f_right_written.F.ok sc_right_written (fun vs H Q E h => ?_) (fun cdv A outer s H vs Q E hr h => ?_)
  · obtain ⟨a, b, q, rfl, _⟩ := h
    rfl
  · obtain ⟨a, b, q, rfl, hq, F, b1, k⟩ := h
    refine ⟨_, (pss_one (ps_ret (pe_ifExp (pt_cmpR op_le (pe_fld (pv 0) rfl) (pe_ix ix_kdict (pe_glob (v := .ref T.g_LEVELS.a) (by rfl) T.g_LEVELS.m rfl) (pv 1) (fun _ _ => rfl)) (nomark _)) (pe_joined (.cons pe_str (.cons (pe_fmt (pe_fld (pv 0) rfl)) (.cons pe_str .nil)))) (pe_fld (pv 0) rfl)))), ?_⟩

    obtain ⟨C, dx, fs, wr, lv, ha, cl, nw, nl, fw, fl, lb⟩ := F
    refine ⟨_, rfl, a, _, dx, _, _, rfl, ha, cl, nl, fl, _, rfl, T.g_LEVELS.a, _, .int q.2, rfl, rfl, T.g_LEVELS.g q hq, _, _, rfl, rfl, _, rfl, ite2 (fun _ => ?_) (fun _ => ?_)⟩
    · have l0 : (Str.empty ++ ("(" : Str)).length ≤ 1 := by decide
      have l1 := app_le l0 lb
      have l2 := app_le l1 (show ((")" : Str)).length ≤ 1 by decide)
      refine ⟨_, rfl, le_line l0 (by decide), _, rfl, a, _, dx, _, _, rfl, ha, cl, nw, fw, .inl ⟨wr, rfl, le_line lb (by omega), _, rfl, le_line l1 (by omega), _, rfl, le_line l2 (by omega), k _ (by omega)⟩⟩
    · exact ⟨_, rfl, a, _, dx, _, _, rfl, ha, cl, nw, fw, k _ (by omega)⟩
theorem ok_joined_written (T : Tx K mg w) : FnOk P w K mg base CX0 2 T.f_joined_written.a T.f_joined_written.fd ["left", "sign", "right"] (spJoinedR K) := by
  refine T.f_joined_written.F.ok sc_joined_written (fun vs H Q E h => ?_) (fun cdv A outer s H vs Q E hr h => ?_)
  · obtain ⟨a1, b1, a2, b2, q, rfl, _⟩ := h
    rfl
  · obtain ⟨a1, b1, a2, b2, q, rfl, hq, F1, F2, h1, h2, k⟩ := h
    refine ⟨_, (Evl.pss_cut (ps_set (i := 3) sc_joined_written.nd rfl (Or.inl rfl) (pe_ifExp (pt_cmpR op_lt (pe_fld (pv 0) rfl) (pe_ix ix_kdict (pe_glob (v := .ref T.g_LEVELS.a) (by rfl) T.g_LEVELS.m rfl) (pv 1) (fun _ _ => rfl)) (nomark _)) (pe_joined (.cons pe_str (.cons (pe_fmt (pe_fld (pv 0) rfl)) (.cons pe_str .nil)))) (pe_fld (pv 0) rfl)))
      (pss_one (ps_ret (pe_joined (.cons (pe_fmt (pv 3)) (.cons pe_str (.cons (pe_fmt (pv 1)) (.cons pe_str (.cons (pe_fmt (pe_call (ok_right_written T) (hr.mono (by decide)) (by rfl) T.f_right_written.m T.f_right_written.F.kp (bd_right_written T) .nil pass0 (pa_cons (pv 2) (pa_cons (pv 1) pa_nil)))) .nil))))))))), ?_⟩

    obtain ⟨C, dx, fs, wr, lv, ha, cl, nw, nl, fw, fl, lb⟩ := id F1
    have lq := lev_len q hq
    refine ⟨fun σ' H' => H' = H ∧ ∃ z : Str, z.length ≤ b1 + 2 ∧ σ' = [some (.ref a1), some (.str q.1), some (.ref a2), some (.str z)], ?_, ?_⟩
    · refine ⟨_, rfl, a1, _, dx, _, _, rfl, ha, cl, nl, fl, _, rfl, T.g_LEVELS.a, _, .int q.2, rfl, rfl, T.g_LEVELS.g q hq, _, _, rfl, rfl, _, rfl, ite2 (fun _ => ?_) (fun _ => ?_)⟩
      · have l0 : (Str.empty ++ ("(" : Str)).length ≤ 1 := by decide
        have l1 := app_le l0 lb
        have l2 := app_le l1 (show ((")" : Str)).length ≤ 1 by decide)
        exact ⟨_, rfl, le_line l0 (by decide), _, rfl, a1, _, dx, _, _, rfl, ha, cl, nw, fw, .inl ⟨wr, rfl, le_line lb (by omega), _, rfl, le_line l1 (by omega), _, rfl, le_line l2 (by omega), rfl, _, by omega, rfl⟩⟩
      · exact ⟨_, rfl, a1, _, dx, _, _, rfl, ha, cl, nw, fw, rfl, _, by omega, rfl⟩
    · rintro σ' H' ⟨rfl, z, lz, rfl⟩
      have l1 : (Str.empty ++ z).length ≤ b1 + 2 := by rw [Str.length_append]; exact Nat.le_trans (Nat.le_of_eq (Nat.zero_add _)) lz
      have l2 := app_le l1 (show ((" " : Str)).length ≤ 1 by decide)
      have l3 := app_le l2 lq
      have l4 := app_le l3 (show ((" " : Str)).length ≤ 1 by decide)
      refine ⟨_, rfl, .inl ⟨_, rfl, le_line lz (by omega), _, rfl, le_line l1 (by omega), _, rfl, le_line l2 (by omega), ?_⟩⟩
      refine ⟨_, rfl, .inl ⟨_, rfl, le_line lq (by omega), _, rfl, le_line l3 (by omega), _, rfl, le_line l4 (by omega), _, rfl, _, rfl, a2, b2, q, rfl, hq, F2, h2, fun z2 lz2 => .inl ⟨z2, rfl, le_line lz2 (by omega), _, rfl, le_line (app_le l4 lz2) (by omega), k _ ?_⟩⟩⟩
      have := app_le l4 lz2
      omega
theorem ok_complement_written (T : Tx K mg w) : FnOk P w K mg base CX0 1 T.f_complement_written.a T.f_complement_written.fd ["part"] (spComplR K) := by
  refine T.f_complement_written.F.ok sc_complement_written (fun vs H Q E h => ?_) (fun cdv A outer s H vs Q E hr h => ?_)
  · obtain ⟨a, b, rfl, _⟩ := h
    rfl
  · obtain ⟨a, b, rfl, F, b1, k⟩ := h
    refine ⟨_, (pss_one (ps_ret (pe_ifExp (pt_cmpR op_lt (pe_fld (pv 0) rfl) (pe_ix ix_kdict (pe_glob (v := .ref T.g_LEVELS.a) (by rfl) T.g_LEVELS.m rfl) pe_str (fun _ _ => rfl)) (nomark _)) (pe_joined (.cons pe_str (.cons (pe_fmt (pe_fld (pv 0) rfl)) (.cons pe_str .nil)))) (pe_joined (.cons pe_str (.cons (pe_fmt (pe_fld (pv 0) rfl)) .nil)))))), ?_⟩

    obtain ⟨C, dx, fs, wr, lv, ha, cl, nw, nl, fw, fl, lb⟩ := F
    refine ⟨_, rfl, a, _, dx, _, _, rfl, ha, cl, nl, fl, T.g_LEVELS.a, _, .int 4, rfl, rfl, T.g_LEVELS.g ("~", 4) (List.mem_of_elem_eq_true (by decide +kernel)), _, _, rfl, rfl, _, rfl, ite2 (fun _ => ?_) (fun _ => ?_)⟩
    · have l0 : (Str.empty ++ ("~(" : Str)).length ≤ 2 := by decide
      have l1 := app_le l0 lb
      have l2 := app_le l1 (show ((")" : Str)).length ≤ 1 by decide)
      refine ⟨_, rfl, le_line l0 (by decide), _, rfl, a, _, dx, _, _, rfl, ha, cl, nw, fw, .inl ⟨wr, rfl, le_line lb (by omega), _, rfl, le_line l1 (by omega), _, rfl, le_line l2 (by omega), k _ (by omega)⟩⟩
    · have l0 : (Str.empty ++ ("~" : Str)).length ≤ 1 := by decide
      have l1 := app_le l0 lb
      refine ⟨_, rfl, le_line l0 (by decide), _, rfl, a, _, dx, _, _, rfl, ha, cl, nw, fw, .inl ⟨wr, rfl, le_line lb (by omega), _, rfl, le_line l1 (by omega), k _ (by omega)⟩⟩
theorem ok_Formula_names (T : Tx K mg w) : FnOk P w K mg base CX0 1 T.f_Formula_names.a T.f_Formula_names.fd ["self"] (spNamesF T.k_Formula.C) := by
  refine T.f_Formula_names.F.ok sc_Formula_names (fun vs H Q E h => ?_) (fun cdv A outer s H vs Q E hr h => ?_)
  · obtain ⟨a, np, ys, rfl, _⟩ := h
    rfl
  · obtain ⟨a, np, ys, rfl, h, hn, k⟩ := h
    refine ⟨_, (pss_one (ps_ret (pe_fld (pv 0) rfl))), ?_⟩

    obtain ⟨dx, sp, n, wr, lv, ha⟩ := h
    exact ⟨_, rfl, a, _, dx, _, _, rfl, ha, T.k_Formula.cl, T.n_Formula__names, fof_names, k⟩
theorem ok_named (T : Tx K mg w) : FnOk P w K mg base CX0 3 T.f_named.a T.f_named.fd ["name"] (spNamedN T.k_Formula.C) := by
  refine T.f_named.F.ok sc_named (fun vs H Q E h => ?_) (fun cdv A outer s H vs Q E hr h => ?_)
  · obtain ⟨z, rfl, _⟩ := h
    rfl
  · obtain ⟨z, rfl, hz, k⟩ := h
    refine ⟨_, (pss_cons (ps_if (pt_not (pt_val (pe_call (ok_is_name T) (hr.mono (by decide)) (by rfl) T.f_is_name.m T.f_is_name.F.kp (bd_is_name T) .nil pass0 (pa_cons (pv 0) pa_nil)))) (pss_one ps_never) pss_nil)
      (pss_one (ps_ret (pe_make (mk_Formula T) (ok_Formula_init_ T) (hr.mono (by decide)) (by rfl) T.k_Formula.m (bd_Formula_init_ T) .nil pass0 (pa_cons (pe_tup (pa_cons (pe_tup (pa_cons pe_str (pa_cons (pv 0) pa_nil))) pa_nil)) (pa_cons (pv 0) (pa_cons (pe_glob (v := .int 5) (by rfl) T.c_TIGHTEST.m ⟨_, rfl⟩) pa_nil))))))), ?_⟩

    have lz := nameB_len hz
    refine ⟨_, rfl, .str z, .str, rfl, .str z (by omega), fun H1 e1 => ?_⟩
    have en : nameV (.str z) = true := hz
    rw [en]
    refine ⟨_, rfl, iteF ?_⟩
    refine ⟨_, rfl, by show 2 ≤ sizeLine; decide, fun t1 nt1 => ?_⟩
    (generalize g_H2 : upd _ t1 _ = H2); have ht1 := gat g_H2; have e2 := gex g_H2 nt1; clear g_H2
    refine ⟨by show 1 ≤ sizeLine; decide, fun t2 nt2 => ?_⟩
    (generalize g_H3 : upd _ t2 _ = H3); have ht2 := gat g_H3; have e3 := gex g_H3 nt2; clear g_H3
    refine ⟨_, rfl, fun x dx nx ndx ne => ?_⟩
    have S := step_one (e3 _ _ ht1) ht2
    have ey : Ex H3 (upd (upd H3 dx (.own x)) x (.ins T.k_Formula.C dx [])) := ex_two nx ndx
    refine ⟨x, dx, t2, z, 5, [("name", .str z)], rfl, upd_same, S.ext ey, by show 1 ≤ 60; decide, fun s hs => ?_, fun np ys H4 h4 hn ly fr => ?_⟩
    · rw [List.mem_singleton.mp hs]
      exact fun _ => ⟨z, rfl⟩
    · refine ⟨rfl, k x H4 (fun a o q => fr_ex nx ndx fr _ _ (e3 _ _ (e2 _ _ (e1 _ _ q)))) (new_fn h4 hn ly fr (S.ext ey) upd_same (fun s hs => ?_) (Nat.le_refl _) lz)⟩
      rw [List.mem_singleton.mp hs]
      exact fun _ => ⟨z, rfl⟩
theorem ok_operand_formula (T : Tx K mg w) : FnOk P w K mg base CX0 4 T.f_operand_formula.a T.f_operand_formula.fd ["other"] (spOperandN T.k_Formula.C) := by
  refine T.f_operand_formula.F.ok sc_operand_formula (fun vs H Q E h => ?_) (fun cdv A outer s H vs Q E hr h => ?_)
  · obtain ⟨a, n, b, rfl, _⟩ := h
    rfl
  · obtain ⟨a, n, b, rfl, F, k⟩ := h
    refine ⟨_, (pss_cons (ps_if (pt_val (pe_callB call_isi (by rfl) T.b_isinstance (by decide +kernel) (pa_cons (pv 0) (pa_cons (pe_glob (v := .ref T.k_Formula.C) (by rfl) T.k_Formula.m rfl) pa_nil)))) (pss_one (ps_ret (pv 0))) pss_nil)
      (pss_one (ps_ret (pe_ifExp (pt_val (pe_call (ok_is_whole T) (hr.mono (by decide)) (by rfl) T.f_is_whole.m T.f_is_whole.F.kp (bd_is_whole T) .nil pass0 (pa_cons (pv 0) pa_nil))) (pe_call (ok_number T) (hr.mono (by decide)) (by rfl) T.f_number.m T.f_number.F.kp (bd_number T) .nil pass0 (pa_cons (pv 0) pa_nil)) pe_non)))), ?_⟩

    obtain ⟨dx, fs, ha⟩ := F.ins
    refine ⟨_, rfl, _, _, _, _, true, rfl, .own _, .base (.ins ha T.k_Formula.cl T.k_Formula.al.ha T.k_Formula.al.hn T.k_Formula.al.ht T.k_Formula.al.hm), Tag.kitC T.k_Formula.al .own, true, rfl, iteT ?_⟩
    exact ⟨_, rfl, k⟩
theorem ok_put_together (T : Tx K mg w) : FnOk P w K mg base CX0 3 T.f_put_together.a T.f_put_together.fd ["left", "sign", "right"] (spTogetherN T.k_Formula.C) := by
  refine T.f_put_together.F.ok sc_put_together (fun vs H Q E h => ?_) (fun cdv A outer s H vs Q E hr h => ?_)
  · obtain ⟨a1, n1, b1, a2, n2, b2, rfl, _⟩ := h
    rfl
  · obtain ⟨a1, n1, b1, a2, n2, b2, rfl, F1, F2, h1, h2, h60, k⟩ := h
    refine ⟨_, (pss_one (ps_ret (pe_make (mk_Formula T) (ok_Formula_init_ T) (hr.mono (by decide)) (by rfl) T.k_Formula.m (bd_Formula_init_ T) .nil pass0 (pa_cons (pe_tup (StX.pa_star (pe_fld (pv 0) rfl) (StX.pa_star (pe_fld (pv 2) rfl) (pa_cons (pe_tup (pa_cons (pv 1) (pa_cons pe_int pa_nil))) pa_nil)))) (pa_cons (pe_call (ok_joined_written T) (hr.mono (by decide)) (by rfl) T.f_joined_written.m T.f_joined_written.F.kp (bd_joined_written T) .nil pass0 (pa_cons (pv 0) (pa_cons (pv 1) (pa_cons (pv 2) pa_nil)))) (pa_cons (pe_ix ix_kdict (pe_glob (v := .ref T.g_LEVELS.a) (by rfl) T.g_LEVELS.m rfl) (pv 1) (fun _ _ => rfl)) pa_nil)))))), ?_⟩

    obtain ⟨dx1, sp1, wr1, lv1, np1, st1, ys1, ha1, ⟨⟨xs1, s1, l1, r1⟩⟩, sok1, ln1, lb1, hn1, ly1⟩ := id F1
    obtain ⟨dx2, sp2, wr2, lv2, np2, st2, ys2, ha2, ⟨⟨xs2, s2, l2, r2⟩⟩, sok2, ln2, lb2, hn2, ly2⟩ := id F2
    refine ⟨_, rfl, a1, _, dx1, _, _, rfl, ha1, T.k_Formula.cl, T.n_Formula_steps, fof_steps, sp1, _, rfl, .inl (sqT s1), _, rfl, a2, _, dx2, _, _, rfl, ha2, T.k_Formula.cl, T.n_Formula_steps, fof_steps, sp2, _, rfl, .inl (sqT s2), ?_⟩
    refine ⟨_, rfl, by show 2 ≤ sizeLine; decide, fun t nt => ?_⟩
    (generalize g_H1 : upd _ t _ = H1); have ht := gat g_H1; have e1 := gex g_H1 nt; clear g_H1
    refine ⟨by rw [List.length_append, List.length_append, List.length_map, List.length_map, l1, l2]; exact le_line (show _ ≤ 60 by show st1.length + (st2.length + 1) ≤ 60; omega) (by decide), fun q nq => ?_⟩
    (generalize g_H2 : upd _ q _ = H2); have hq := gat g_H2; have e2 := gex g_H2 nq; clear g_H2
    have e02 : Ex H H2 := fun _ _ o => e2 _ _ (e1 _ _ o)
    refine ⟨_, rfl, _, rfl, _, rfl, a1, b1, a2, b2, ("+", 2), rfl, List.mem_of_elem_eq_true (by decide +kernel), ((F1.ex e02).wr T.k_Formula.cl T.n_Formula_written T.n_Formula_level), ((F2.ex e02).wr T.k_Formula.cl T.n_Formula_written T.n_Formula_level), by omega, by omega, fun z lz => ?_⟩
    refine ⟨_, rfl, T.g_LEVELS.a, _, .int 2, rfl, rfl, T.g_LEVELS.g ("+", 2) (List.mem_of_elem_eq_true (by decide +kernel)), fun x dx nx ndx ne => ?_⟩
    have S : StepsAt H2 q (st1 ++ (st2 ++ [(("+" : Str), V.int 0)])) := steps_app (p2 := sp2) (e02 _ _ s1) l1 (fun i x s a b => e02 _ _ (r1 i x s a b)) l2 (fun i x s a b => e02 _ _ (r2 i x s a b)) (e2 _ _ ht) hq
    have ey : Ex H2 (upd (upd H2 dx (.own x)) x (.ins T.k_Formula.C dx [])) := ex_two nx ndx
    have sok : ∀ s ∈ st1 ++ (st2 ++ [(("+" : Str), V.int 0)]), StepOk s := fun s hs => by
      rcases List.mem_append.mp hs with hs | hs
      · exact sok1 s hs
      · rcases List.mem_append.mp hs with hs | hs
        · exact sok2 s hs
        · rw [List.mem_singleton.mp hs]
          exact fun e => absurd (show ("+" : Str) = "name" from e) (by decide)
    have ls : (st1 ++ (st2 ++ [(("+" : Str), V.int 0)])).length ≤ n1 + n2 + 1 := by
      rw [List.length_append, List.length_append, List.length_singleton]
      omega
    refine ⟨x, dx, q, z, 2, st1 ++ (st2 ++ [(("+" : Str), V.int 0)]), rfl, upd_same, S.ext ey, by omega, sok, fun np ys H4 h4 hn ly fr => ?_⟩
    exact ⟨rfl, k x H4 (fun a o q => fr_ex nx ndx fr _ _ (e02 _ _ q)) (new_fn h4 hn ly fr (S.ext ey) upd_same sok ls lz)⟩
theorem ok_Formula_invert_ (T : Tx K mg w) : FnOk P w K mg base CX0 3 T.f_Formula_invert_.a T.f_Formula_invert_.fd ["self"] (spInvertN T.k_Formula.C) := by
  refine T.f_Formula_invert_.F.ok sc_Formula_invert_ (fun vs H Q E h => ?_) (fun cdv A outer s H vs Q E hr h => ?_)
  · obtain ⟨a, n, b, rfl, _⟩ := h
    rfl
  · obtain ⟨a, n, b, rfl, F, h1, h60, k⟩ := h
    refine ⟨_, (pss_one (ps_ret (pe_make (mk_Formula T) (ok_Formula_init_ T) (hr.mono (by decide)) (by rfl) T.k_Formula.m (bd_Formula_init_ T) .nil pass0 (pa_cons (pe_tup (StX.pa_star (pe_fld (pv 0) rfl) (pa_cons (pe_tup (pa_cons pe_str (pa_cons pe_int pa_nil))) pa_nil))) (pa_cons (pe_call (ok_complement_written T) (hr.mono (by decide)) (by rfl) T.f_complement_written.m T.f_complement_written.F.kp (bd_complement_written T) .nil pass0 (pa_cons (pv 0) pa_nil)) (pa_cons (pe_ix ix_kdict (pe_glob (v := .ref T.g_LEVELS.a) (by rfl) T.g_LEVELS.m rfl) pe_str (fun _ _ => rfl)) pa_nil)))))), ?_⟩
    obtain ⟨dx1, sp1, wr1, lv1, np1, st, ys1, ha1, ⟨⟨xs1, s1, l1, r1⟩⟩, sok1, ln1, lb1, hn1, ly1⟩ := id F
    refine ⟨_, rfl, a, _, dx1, _, _, rfl, ha1, T.k_Formula.cl, T.n_Formula_steps, fof_steps, sp1, _, rfl, .inl (sqT s1), ?_⟩
    refine ⟨by show 2 ≤ sizeLine; decide, fun t nt => ?_⟩
    (generalize g_H1 : upd _ t _ = H1); have ht := gat g_H1; have e1 := gex g_H1 nt; clear g_H1
    refine ⟨by rw [List.length_append, List.length_map, l1]; exact le_line (show _ ≤ 60 by show st.length + 1 ≤ 60; omega) (by decide), fun q nq => ?_⟩
    (generalize g_H2 : upd _ q _ = H2); have hq := gat g_H2; have e2 := gex g_H2 nq; clear g_H2
    have e02 : Ex H H2 := fun _ _ o => e2 _ _ (e1 _ _ o)
    refine ⟨_, rfl, a, b, rfl, ((F.ex e02).wr T.k_Formula.cl T.n_Formula_written T.n_Formula_level), by omega, fun z lz => ?_⟩
    refine ⟨T.g_LEVELS.a, _, .int 4, rfl, rfl, T.g_LEVELS.g ("~", 4) (List.mem_of_elem_eq_true (by decide +kernel)), fun x dx nx ndx ne => ?_⟩
    have S : StepsAt H2 q (st ++ [(("~" : Str), V.int 0)]) := steps_snoc (p1 := sp1) l1 (fun i x s a b => e02 _ _ (r1 i x s a b)) (e2 _ _ ht) hq
    have ey : Ex H2 (upd (upd H2 dx (.own x)) x (.ins T.k_Formula.C dx [])) := ex_two nx ndx
    have sok : ∀ s ∈ st ++ [(("~" : Str), V.int 0)], StepOk s := fun s hs => by
      rcases List.mem_append.mp hs with hs | hs
      · exact sok1 s hs
      · rw [List.mem_singleton.mp hs]
        exact fun e => absurd (show ("~" : Str) = "name" from e) (by decide)
    have ls : (st ++ [(("~" : Str), V.int 0)]).length ≤ n + 1 := by
      rw [List.length_append, List.length_singleton]
      omega
    refine ⟨x, dx, q, _, 4, st ++ [(("~" : Str), V.int 0)], rfl, upd_same, S.ext ey, by omega, sok, fun np ys H4 h4 hn ly fr => ?_⟩
    exact ⟨rfl, k x H4 (fun a o q => fr_ex nx ndx fr _ _ (e02 _ _ q)) (new_fn h4 hn ly fr (S.ext ey) upd_same sok ls lz)⟩
theorem ok_product_formula (T : Tx K mg w) : FnOk P w K mg base CX0 4 T.f_product_formula.a T.f_product_formula.fd ["k", "formula"] (spProductN T.k_Formula.C) := by
  refine T.f_product_formula.F.ok sc_product_formula (fun vs H Q E h => ?_) (fun cdv A outer s H vs Q E hr h => ?_)
  · obtain ⟨c, a, n, b, rfl, _⟩ := h
    rfl
  · obtain ⟨c, a, n, b, rfl, c1, c9, F, h1, h60, k⟩ := h
    refine ⟨_, (pss_cons (ps_if (pt_not (pt_val (pe_call (ok_is_from T) (hr.mono (by decide)) (by rfl) T.f_is_from.m T.f_is_from.F.kp (bd_is_from T) .nil pass0 (pa_cons (pv 0) (pa_cons pe_int (pa_cons (pe_glob (v := .int 9) (by rfl) T.c_MOST_TIMES_OF.m ⟨_, rfl⟩) pa_nil)))))) (pss_one ps_never) pss_nil)
      (pss_cons (ps_set (i := 2) sc_product_formula.nd rfl (Or.inl rfl) (pe_call (ok_right_written T) (hr.mono (by decide)) (by rfl) T.f_right_written.m T.f_right_written.F.kp (bd_right_written T) .nil pass0 (pa_cons (pv 1) (pa_cons pe_str pa_nil))))
      (pss_one (ps_ret (pe_make (mk_Formula T) (ok_Formula_init_ T) (hr.mono (by decide)) (by rfl) T.k_Formula.m (bd_Formula_init_ T) .nil pass0 (pa_cons (pe_tup (StX.pa_star (pe_fld (pv 1) rfl) (pa_cons (pe_tup (pa_cons pe_str (pa_cons (pv 0) pa_nil))) pa_nil))) (pa_cons (pe_joined (.cons (pe_fmt (pv 0)) (.cons pe_str (.cons (pe_fmt (pv 2)) .nil)))) (pa_cons (pe_ix ix_kdict (pe_glob (v := .ref T.g_LEVELS.a) (by rfl) T.g_LEVELS.m rfl) pe_str (fun _ _ => rfl)) pa_nil)))))))), ?_⟩
    obtain ⟨dx1, sp1, wr1, lv1, np1, st, ys1, ha1, ⟨⟨xs1, s1, l1, r1⟩⟩, sok1, ln1, lb1, hn1, ly1⟩ := id F
    refine ⟨_, rfl, .int c, .int, _, _, rfl, .int c, ?_⟩
    show ∃ k, V.bl (decide (1 ≤ c) && decide (c ≤ 9)) = V.bl k ∧ _
    rw [decide_eq_true c1, decide_eq_true c9]
    refine ⟨_, rfl, iteF ?_⟩
    refine ⟨_, rfl, a, b, ("*", 3), rfl, List.mem_of_elem_eq_true (by decide +kernel), (F.wr T.k_Formula.cl T.n_Formula_written T.n_Formula_level), by omega, fun wz lwz => ?_⟩
    refine ⟨_, rfl, a, _, dx1, _, _, rfl, ha1, T.k_Formula.cl, T.n_Formula_steps, fof_steps, sp1, _, rfl, .inl (sqT s1), ?_⟩
    refine ⟨_, rfl, by show 2 ≤ sizeLine; decide, fun t nt => ?_⟩
    (generalize g_H1 : upd _ t _ = H1); have ht := gat g_H1; have e1 := gex g_H1 nt; clear g_H1
    refine ⟨by rw [List.length_append, List.length_map, l1]; exact le_line (show _ ≤ 60 by show st.length + 1 ≤ 60; omega) (by decide), fun q nq => ?_⟩
    (generalize g_H2 : upd _ q _ = H2); have hq := gat g_H2; have e2 := gex g_H2 nq; clear g_H2
    have e02 : Ex H H2 := fun _ _ o => e2 _ _ (e1 _ _ o)
    have lg : c.natAbs.log2 < 1920 := by
      have : c.natAbs < 2 ^ 40 := by omega
      have := PySem.Flt.log2_lt_of (by decide) this
      omega
    have lc : (toString c : Str).length ≤ 3 := Nat.le_trans (PyProof.Rows.toString_length_le (by omega) (k := 2) (by decide) (by omega)) (by decide)
    have m1 : (Str.empty ++ (toString c : Str)).length ≤ 3 := by rw [Str.length_append]; exact Nat.le_trans (Nat.le_of_eq (Nat.zero_add _)) lc
    have m2 := app_le m1 (show ((" * " : Str)).length ≤ 3 by decide)
    have m3 := app_le m2 lwz
    refine ⟨_, rfl, .inr ⟨c, rfl, lg, _, rfl, le_line m1 (by decide), _, rfl, le_line m2 (by decide), _, rfl, .inl ⟨wz, rfl, le_line lwz (by omega), _, rfl, le_line m3 (by omega), ?_⟩⟩⟩
    refine ⟨T.g_LEVELS.a, _, .int 3, rfl, rfl, T.g_LEVELS.g ("*", 3) (List.mem_of_elem_eq_true (by decide +kernel)), fun x dx nx ndx ne => ?_⟩
    have S : StepsAt H2 q (st ++ [(("*" : Str), V.int c)]) := steps_snoc (p1 := sp1) l1 (fun i x s a b => e02 _ _ (r1 i x s a b)) (e2 _ _ ht) hq
    have ey : Ex H2 (upd (upd H2 dx (.own x)) x (.ins T.k_Formula.C dx [])) := ex_two nx ndx
    have sok : ∀ s ∈ st ++ [(("*" : Str), V.int c)], StepOk s := fun s hs => by
      rcases List.mem_append.mp hs with hs | hs
      · exact sok1 s hs
      · rw [List.mem_singleton.mp hs]
        exact fun e => absurd (show ("*" : Str) = "name" from e) (by decide)
    have ls : (st ++ [(("*" : Str), V.int c)]).length ≤ n + 1 := by
      rw [List.length_append, List.length_singleton]
      omega
    refine ⟨x, dx, q, _, 3, st ++ [(("*" : Str), V.int c)], rfl, upd_same, S.ext ey, by omega, sok, fun np ys H4 h4 hn ly fr => ?_⟩
    exact ⟨rfl, k x H4 (fun a o q => fr_ex nx ndx fr _ _ (e02 _ _ q)) (new_fn h4 hn ly fr (S.ext ey) upd_same sok ls (Nat.le_trans m3 (by omega)))⟩
theorem ok_Formula_add_ (T : Tx K mg w) : FnOk P w K mg base CX0 5 T.f_Formula_add_.a T.f_Formula_add_.fd ["self", "other"] (spFoAddN T.k_Formula.C) := by
  refine T.f_Formula_add_.F.ok sc_Formula_add_ (fun vs H Q E h => ?_) (fun cdv A outer s H vs Q E hr h => ?_)
  · obtain ⟨a1, n1, b1, a2, n2, b2, rfl, _⟩ := h
    rfl
  · obtain ⟨a1, n1, b1, a2, n2, b2, rfl, F1, F2, h1, h2, h60, k⟩ := h
    refine ⟨_, (pss_cons (ps_set (i := 2) sc_Formula_add_.nd rfl (Or.inl rfl) (pe_call (ok_operand_formula T) (hr.mono (by decide)) (by rfl) T.f_operand_formula.m T.f_operand_formula.F.kp (bd_operand_formula T) .nil pass0 (pa_cons (pv 1) pa_nil)))
      (pss_cons (ps_if (pt_cmp (pc_isN (pv 2))) (pss_one ps_never) pss_nil)
      (pss_one (ps_ret (pe_call (ok_put_together T) (hr.mono (by decide)) (by rfl) T.f_put_together.m T.f_put_together.F.kp (bd_put_together T) .nil pass0 (pa_cons (pv 0) (pa_cons pe_str (pa_cons (pv 2) pa_nil)))))))), ?_⟩

    refine ⟨_, rfl, a2, n2, b2, rfl, F2, ?_⟩
    refine ⟨_, rfl, _, rfl, iteF ?_⟩
    exact ⟨_, rfl, _, rfl, a1, n1, b1, a2, n2, b2, rfl, F1, F2, h1, h2, h60, k⟩
theorem ok_Formula_rmul_ (T : Tx K mg w) : FnOk P w K mg base CX0 5 T.f_Formula_rmul_.a T.f_Formula_rmul_.fd ["self", "other"] (spRmulN T.k_Formula.C) := by
  refine T.f_Formula_rmul_.F.ok sc_Formula_rmul_ (fun vs H Q E h => ?_) (fun cdv A outer s H vs Q E hr h => ?_)
  · obtain ⟨c, a, n, b, rfl, _⟩ := h
    rfl
  · obtain ⟨c, a, n, b, rfl, c1, c9, F, h1, h60, k⟩ := h
    refine ⟨_, (pss_cons (ps_if (pt_not (pt_val (pe_call (ok_is_whole T) (hr.mono (by decide)) (by rfl) T.f_is_whole.m T.f_is_whole.F.kp (bd_is_whole T) .nil pass0 (pa_cons (pv 1) pa_nil)))) (pss_one ps_never) pss_nil)
      (pss_one (ps_ret (pe_call (ok_product_formula T) (hr.mono (by decide)) (by rfl) T.f_product_formula.m T.f_product_formula.F.kp (bd_product_formula T) .nil pass0 (pa_cons (pv 1) (pa_cons (pv 0) pa_nil)))))), ?_⟩

    refine ⟨_, rfl, .int c, .int, rfl, .int c, _, rfl, iteF ?_⟩
    exact ⟨_, rfl, _, rfl, c, a, n, b, rfl, c1, c9, F, h1, h60, k⟩
theorem ok_Saying_init_ (T : Tx K mg w) : FnOk P w K mg base CX0 3 T.f_Saying_init_.a T.f_Saying_init_.fd ["self", "steps", "written", "level"] (spSayInit T.k_Saying.C T.k_Formula.C) := by
  refine T.f_Saying_init_.F.ok sc_Saying_init_ (fun vs H Q E h => ?_) (fun cdv A outer s H vs Q E hr h => ?_)
  · obtain ⟨p, dx, sp, wr, lv, st, rfl, _⟩ := h
    rfl
  · obtain ⟨p, dx, sp, wr, lv, st, rfl, hp, S, w60, k⟩ := h
    refine ⟨_, (pss_cons (ps_setLc2 (i := 4) (own := [("_", 6), ("parts", 7), ("formula", 8)]) (vs1 := [8]) (g := gTup K 2 (gCons (gName 6) (gCons (gName 7) gNil))) (g1 := gName 8) (tt := tYes) (tt1 := tYes) rfl sc_Saying_init_.nd rfl rfl (sw_true rfl rfl rfl (by decide +kernel)) (pi_tupK (K := K) rfl (pv 1)) (blkOk_by (own := [("_", 6), ("parts", 7), ("formula", 8)]) (N := ["self", "steps", "written", "level", "formulas", "names", "_", "parts", "formula", "name"]) (sc := defScope s_Saying_init_) (by decide +kernel)) (by decide) (fun _ _ _ _ _ => pg_tup rfl (pgs_cons (pg_name (i := 6) sc_Saying_init_.nd rfl (Or.inl rfl)) (pgs_cons (pg_name (i := 7) sc_Saying_init_.nd rfl (Or.inl rfl)) pgs_nil))) (fun _ _ _ _ _ => pts_nil) (fun _ _ _ _ _ => (pi_tupK (K := K) rfl (pv 7))) (fun _ _ _ _ _ => pg_name (i := 8) sc_Saying_init_.nd rfl (Or.inl rfl)) (fun _ _ _ _ _ => pts_nil) (fun _ _ _ _ _ => (pv 8)))
      (pss_cons (ps_fld (pv 0) (pe_op op_add (pe_callB call_len_seq (by rfl) T.b_len (by decide +kernel) (pa_cons (pv 1) pa_nil)) (pe_callB (cr_sum rfl) (by rfl) T.b_sum (by decide +kernel) (pa_cons (pe_lc (own := [("formula", 8)]) (g := gName 8) (tt := tYes) (by rfl) sc_Saying_init_.nd (pi_listK (K := K) rfl (pv 4)) (blkOk_by (own := [("formula", 8)]) (N := ["self", "steps", "written", "level", "formulas", "names", "_", "parts", "formula", "name"]) (sc := defScope s_Saying_init_) (by decide +kernel)) (fun _ _ _ _ _ => pg_name (i := 8) sc_Saying_init_.nd rfl (Or.inl rfl)) (fun _ _ _ _ _ => pts_nil) (fun _ _ _ _ _ => (pe_fldK (K := K) rfl (pv 8) rfl))) pa_nil))) rfl)
      (pss_cons (ps_if (pt_cmpR op_gt (pe_fld (pv 0) rfl) (ClX.pe_cval (pe_glob (v := .ref T.k_Saying.C) (by rfl) T.k_Saying.m rfl)) (nomark _)) (pss_one ps_never) pss_nil)
      (pss_cons (ps_fld (pv 0) (pv 1) rfl)
      (pss_cons (ps_fld (pv 0) (pv 2) rfl)
      (pss_cons (ps_fld (pv 0) (pv 3) rfl)
      (pss_cons (TzDD.ps_setDc2 (i := 5) (own := [("formula", 8), ("name", 9)]) (vs1 := [9]) (g := gName 8) (g1 := gName 9) (tt := tYes) (tt1 := tYes) rfl sc_Saying_init_.nd rfl rfl (Tz.sw_trueD rfl rfl rfl (by decide +kernel)) (pi_listK (K := K) rfl (pv 4)) (blkOk_by (own := [("formula", 8), ("name", 9)]) (N := ["self", "steps", "written", "level", "formulas", "names", "_", "parts", "formula", "name"]) (sc := defScope s_Saying_init_) (by decide +kernel)) (by decide) (fun _ _ _ _ _ => pg_name (i := 8) sc_Saying_init_.nd rfl (Or.inl rfl)) (fun _ _ _ _ _ => pts_nil) (fun _ _ _ _ _ => (pi_tupK (K := K) rfl (pe_prop (pv 8) T.k_Formula.cl T.f_Formula_names.P (ok_Formula_names T) (hr.mono (by decide)) (bd_Formula_names T) .nil pass0 rfl))) (fun _ _ _ _ _ => pg_name (i := 9) sc_Saying_init_.nd rfl (Or.inl rfl)) (fun _ _ _ _ _ => pts_nil) (fun _ _ _ _ _ => (pv 9)) (fun _ _ _ _ _ => pe_bl))
      (pss_one (ps_fld (pv 0) (pe_callTy call_tuple_of (by rfl) T.b_tuple (by decide +kernel) (pa_cons (pe_callBK (TzSort.cr_sortedStrD rfl) (by rfl) T.b_sorted (by decide +kernel) (pa_cons (pv 5) pa_nil) (pk_cons (pe_bltn (v := .ty "str") (by rfl) T.b_str (by decide +kernel) rfl) pk_nil)) pa_nil)) rfl))))))))), ?_⟩

    obtain ⟨xs, hs, ls, rs⟩ := S.ex
    have al := S.all
    have l60 : (allF st).length ≤ 60 ∧ ((allF st).map Prod.snd).sum ≤ 60 ∧ st.length ≤ 60 := by
      have := ones_le fun f hf => (al f hf).2
      unfold wgt at w60
      omega
    refine ⟨_, rfl, sp, rfl, ⟨_, sqT hs⟩, fun D nD => ?_⟩
    refine it_gen (walk_tup (K := K) (a := sp) (xs := xs.map V.ref)) (fun i H' => Ex H H' ∧ H' D = some (.lst ((allF (st.take i)).map fun f => V.ref f.1))) ⟨Ex.new nD, upd_same⟩ (fun i H' _ h => sqT (h.1 _ _ hs)) ?_ ?_
    · rintro i x H1 H2 hi ⟨e, hD⟩ ⟨rfl, hx⟩
      rw [List.length_map] at hi
      rw [List.getElem?_map, List.getElem?_eq_getElem hi] at hx
      cases hx
      have hst : st[i]? = some st[i] := List.getElem?_eq_getElem (by omega)
      obtain ⟨pp, q1, q2, q3⟩ := rs i xs[i] _ (List.getElem?_eq_getElem hi) hst
      have le := allF_le (st := st) (i := i + 1)
      rw [allF_take hst, List.length_append] at le
      refine ⟨xs[i], _, rfl, sqT (e _ _ q1), rfl, _, _, rfl, _, _, rfl, rfl, rfl, yes_go ?_⟩
      refine ⟨_, rfl, pp, rfl, ⟨_, sqT (e _ _ q2)⟩, ?_⟩
      rw [allF_take hst]
      refine it_gen (walk_tup (K := K) (a := pp) (xs := st[i].2.map fun f => V.ref f.1)) (fun j H' => Ex H H' ∧ H' D = some (.lst ((allF (st.take i) ++ st[i].2.take j).map fun f => V.ref f.1))) ⟨e, by rw [hD]; simp⟩ (fun j H' _ h => sqT (h.1 _ _ q2)) ?_ ?_
      · rintro j x H3 H4 hj ⟨e3, hD3⟩ ⟨rfl, hx⟩
        refine ⟨rfl, yes_go ?_⟩
        refine ⟨_, rfl, _, hD3, ?_, Ex.keepD nD e3, ?_⟩
        · rw [List.length_map, List.length_append, List.length_take]
          exact Nat.lt_of_le_of_lt (show _ ≤ 60 by omega) (by decide)
        · rw [upd_same]
          rw [List.getElem?_map] at hx
          obtain ⟨f, hf, rfl⟩ := Option.map_eq_some_iff.mp hx
          rw [List.take_add_one, hf]
          simp
      · rintro H3 ⟨e3, hD3⟩
        exact ⟨e3, by rw [hD3, List.length_map, List.take_length]⟩
    rintro H1 ⟨e1, hD1⟩
    rw [List.length_map, ls, List.take_length] at hD1
    obtain ⟨ns, lns, gns, sns⟩ := fo_sizes fun f hf => (al f hf).1
    refine ⟨_, rfl, sp, _, rfl, .inr (sqT (e1 _ _ hs)), _, rfl, D, rfl, ⟨_, sq hD1⟩, fun M nM => ?_⟩
    refine lc_vals (walk_list (K := K) (a := D) (xs := (allF st).map fun f => V.ref f.1)) (fun i => .int ((ns.getD i 0 : Nat) : Int)) nM (by rw [List.length_map]; omega) (fun _ e => sq (e _ _ hD1)) ?_ (fun H2 e2 hM => ?_)
    · rintro j y H3 H4 hj e3 ⟨rfl, hy⟩ R hR
      rw [List.getElem?_map] at hy
      obtain ⟨f, hf, rfl⟩ := Option.map_eq_some_iff.mp hy
      obtain ⟨fdx, fsp, fwr, flv, fnp, hfo⟩ := gns j f hf
      exact ⟨rfl, _, rfl, f.1, _, fdx, _, _, rfl, e3 _ _ (e1 _ _ hfo), T.k_Formula.cl, T.n_Formula_size, fof_size, hR _ _ rfl fun _ _ h => h⟩
    rw [List.length_map, cells_nats lns] at hM
    refine ⟨M, _, rfl, sq hM, _, _, rfl, rfl, _, rfl, p, _, dx, _, rfl, e2 _ _ (e1 _ _ hp), T.k_Saying.cl, T.n_Saying_size, by show 0 < 1000; decide, ?_⟩
    rw [sum_nats, List.length_map, ls]
    refine ⟨_, rfl, p, _, dx, _, _, rfl, upd_same, T.k_Saying.cl, T.n_Saying_size, rfl, T.k_Saying.C, _, .int 150, _, rfl, T.k_Saying.rd, T.cc_Saying_MOST_SIZE.c, _, _, rfl, rfl, _, rfl, iteN (by omega) ?_⟩
    refine ⟨_, rfl, _, rfl, p, _, dx, _, rfl, upd_same, T.k_Saying.cl, T.n_Saying_steps, by show 1 < 1000; decide, ?_⟩
    refine ⟨_, rfl, _, rfl, p, _, dx, _, rfl, upd_same, T.k_Saying.cl, T.n_Saying_written, by show 2 < 1000; decide, ?_⟩
    refine ⟨_, rfl, _, rfl, p, _, dx, _, rfl, upd_same, T.k_Saying.cl, T.n_Saying_level, by show 3 < 1000; decide, ?_⟩
    generalize g4 : upd _ p _ = H4
    have hp4 := gat g4
    have e02 : Ex H H2 := fun _ _ q => e2 _ _ (e1 _ _ q)
    have fr : ∀ b o, H2 b = some o → b ≠ p → H4 b = some o := fun b o hb ne => by
      rw [← g4, upd_ne ne, upd_ne ne, upd_ne ne, upd_ne ne]
      exact hb
    clear g4
    have Dp : D ≠ p := fun e => by rw [e, hp] at nD; cases nD
    have hD4 := fr _ _ (e2 _ _ hD1) Dp
    have fo4 : ∀ (j : Nat) f, (allF st)[j]? = some f → ∃ fdx fsp fwr, ∃ fn : Nat, ∃ flv : Int, ∃ fnp, ∃ ys : List Str, H4 f.1 = some (.ins T.k_Formula.C fdx (fof fsp fn fwr flv fnp)) ∧ H4 fnp = some (.tup (ys.map V.str)) ∧ ys.length ≤ f.2 := fun j f hf => by
      obtain ⟨fdx, fsp, fwr, flv, fnp, fst, ys, q1, q2, q3, q4, q5, q6, q7⟩ := (al f (List.mem_of_getElem? hf)).1
      have n1 : f.1 ≠ p := fun e => by
        rw [e, hp] at q1
        injection q1 with q1
        injection q1 with _ _ z
        have z2 := fof_size (sp := fsp) (np := fnp) (n := fst.length) (wr := fwr) (lv := flv)
        rw [← z] at z2
        cases z2
      refine ⟨fdx, fsp, fwr, _, flv, fnp, ys, fr _ _ (e02 _ _ q1) n1, fr _ _ (e02 _ _ q6) (fun e => ?_), q7⟩
      rw [e, hp] at q6
      cases q6
    refine ⟨_, rfl, D, rfl, ⟨_, sq hD4⟩, fun N nN => ?_⟩
    refine it_gen (walk_list (K := K) (a := D) (xs := (allF st).map fun f => V.ref f.1)) (fun i H' => ∃ ks, H' N = some (.dK (nmD ks)) ∧ ks.length ≤ (((allF st).take i).map Prod.snd).sum ∧ Ex H4 H') ⟨[], upd_same, Nat.le_refl _, Ex.new nN⟩ (fun i H' _ ⟨ks, h⟩ => sq (h.2.2 _ _ hD4)) ?_ ?_
    · rintro i x H5 H6 hi ⟨ks, hN, hl, e5⟩ ⟨rfl, hx⟩
      rw [List.getElem?_map] at hx
      obtain ⟨f, hf, rfl⟩ := Option.map_eq_some_iff.mp hx
      obtain ⟨fdx, fsp, fwr, fn, flv, fnp, ys, q1, q2, q3⟩ := fo4 i f hf
      refine ⟨rfl, yes_go ?_⟩
      refine ⟨_, rfl, f.1, fdx, _, rfl, e5 _ _ q1, f.1, fnp, ys, rfl, ⟨fdx, fsp, fn, fwr, flv, e5 _ _ q1⟩, e5 _ _ q2, fnp, rfl, ⟨_, sqT (e5 _ _ q2)⟩, ?_⟩
      have st1 : (((allF st).take (i + 1)).map Prod.snd).sum = (((allF st).take i).map Prod.snd).sum + f.2 := by
        rw [List.take_add_one, hf, List.map_append, List.sum_append]
        simp
      have ti : (((allF st).take (i + 1)).map Prod.snd).sum ≤ 60 := by
        have := take_sum_le (fs := allF st) (i := i + 1)
        omega
      rw [st1] at ti ⊢
      refine it_gen (walk_tup (K := K) (a := fnp) (xs := ys.map V.str)) (fun j H' => ∃ ks', H' N = some (.dK (nmD ks')) ∧ ks'.length ≤ (((allF st).take i).map Prod.snd).sum + j ∧ Ex H4 H') ⟨ks, hN, hl, e5⟩ (fun j H' _ ⟨ks', h⟩ => sqT (h.2.2 _ _ q2)) ?_ ?_
      · rintro j x H7 H8 hj ⟨ks', hN', hl', e7⟩ ⟨rfl, hx⟩
        rw [List.length_map] at hj
        rw [List.getElem?_map] at hx
        obtain ⟨z, hz, rfl⟩ := Option.map_eq_some_iff.mp hx
        obtain ⟨k2, q4, q5, q6⟩ := putK_nm (ks := ks') (z := z)
        refine ⟨rfl, yes_go ?_⟩
        refine ⟨_, rfl, _, Sum.inr z, rfl, hN', by rw [nmD_len]; exact Nat.lt_of_le_of_lt (show ks'.length ≤ 60 by omega) (by decide), k2, by rw [upd_same, q4], by omega, fun a o h => ?_⟩
        rw [upd_ne fun w => by rw [w, nN] at h; cases h]
        exact e7 _ _ h
      · rintro H7 ⟨ks', hN', hl', e7⟩
        rw [List.length_map] at hl'
        exact ⟨ks', hN', by omega, e7⟩
    · rintro H5 ⟨ks, hN, hl, e5⟩
      rw [List.length_map, List.take_length] at hl
      have hp5 := e5 _ _ hp4
      refine ⟨_, rfl, N, _, ks, rfl, rfl, .inl hN, nmD_keys, by omega, fun ys q pm so nq => ?_⟩
      refine ⟨q, _, rfl, .inl ⟨sq upd_same, fun np nnp => ?_⟩⟩
      have e7 : Ex H5 (upd (upd H5 q (.lst (ys.map V.str))) np (.tup (ys.map V.str))) := fun a o h => Ex.new nnp _ _ (Ex.new nq _ _ h)
      refine ⟨_, rfl, p, _, dx, _, rfl, e7 _ _ hp5, T.k_Saying.cl, T.n_Saying__names, by show 4 < 1000; decide, ?_⟩
      exact k np _ _ upd_same fun b o hb ne => by
        rw [upd_ne ne]
        exact e7 _ _ (e5 _ _ (fr _ _ (e02 _ _ hb) ne))
theorem ok_Formula_str_ (T : Tx K mg w) : FnOk P w K mg base CX0 1 T.f_Formula_str_.a T.f_Formula_str_.fd ["self"] (spFoStr T.k_Formula.C) := by
  refine T.f_Formula_str_.F.ok sc_Formula_str_ (fun vs H Q E h => ?_) (fun cdv A outer s H vs Q E hr h => ?_)
  · obtain ⟨a, n, b, rfl, _⟩ := h
    rfl
  · obtain ⟨a, n, b, rfl, F, k⟩ := h
    refine ⟨_, (pss_one (ps_ret (pe_callTy SkE.call_str_str (by rfl) T.b_str (by decide +kernel) (pa_cons (pe_fld (pv 0) rfl) pa_nil)))), ?_⟩

    obtain ⟨dx, sp, wr, lv, np, st, ys, ha, S, sok, ln, lb, hn, ly⟩ := F
    exact ⟨_, rfl, a, _, dx, _, _, rfl, ha, T.k_Formula.cl, T.n_Formula_written, fof_written, wr, rfl, k wr lb⟩
theorem ok_joined_sayings (T : Tx K mg w) : FnOk P w K mg base CX0 5 T.f_joined_sayings.a T.f_joined_sayings.fd ["left", "sign", "right"] (spJoinedS T.k_Saying.C T.k_Formula.C) := by
  refine T.f_joined_sayings.F.ok sc_joined_sayings (fun vs H Q E h => ?_) (fun cdv A outer s H vs Q E hr h => ?_)
  · obtain ⟨a1, n1, b1, a2, n2, b2, rfl, _⟩ := h
    rfl
  · obtain ⟨a1, n1, b1, a2, n2, b2, rfl, F1, F2, h1, h2, h60, k⟩ := h
    refine ⟨_, (pss_one (ps_ret (pe_make (mk_Saying T) (ok_Saying_init_ T) (hr.mono (by decide)) (by rfl) T.k_Saying.m (bd_Saying_init_ T) .nil pass0 (pa_cons (pe_tup (StX.pa_star (pe_fld (pv 0) rfl) (StX.pa_star (pe_fld (pv 2) rfl) (pa_cons (pe_tup (pa_cons (pv 1) (pa_cons (pe_tup pa_nil) pa_nil))) pa_nil)))) (pa_cons (pe_call (ok_joined_written T) (hr.mono (by decide)) (by rfl) T.f_joined_written.m T.f_joined_written.F.kp (bd_joined_written T) .nil pass0 (pa_cons (pv 0) (pa_cons (pv 1) (pa_cons (pv 2) pa_nil)))) (pa_cons (pe_ix ix_kdict (pe_glob (v := .ref T.g_LEVELS.a) (by rfl) T.g_LEVELS.m rfl) (pv 1) (fun _ _ => rfl)) pa_nil)))))), ?_⟩

    obtain ⟨dx1, sp1, m1, wr1, lv1, np1, st1, ha1, ⟨⟨xs1, s1, l1, r1⟩⟩, w1, lb1⟩ := id F1
    obtain ⟨dx2, sp2, m2, wr2, lv2, np2, st2, ha2, ⟨⟨xs2, s2, l2, r2⟩⟩, w2, lb2⟩ := id F2
    have lw1 : st1.length ≤ n1 := by unfold wgt at w1; omega
    have lw2 : st2.length ≤ n2 := by unfold wgt at w2; omega
    refine ⟨_, rfl, a1, _, dx1, _, _, rfl, ha1, T.k_Saying.cl, T.n_Saying_steps, sof_steps, sp1, _, rfl, .inl (sqT s1), _, rfl, a2, _, dx2, _, _, rfl, ha2, T.k_Saying.cl, T.n_Saying_steps, sof_steps, sp2, _, rfl, .inl (sqT s2), ?_⟩
    refine ⟨_, rfl, by decide, fun pp npp => ?_⟩
    (generalize g_H1 : upd _ pp _ = H1); have hpp := gat g_H1; have e1 := gex g_H1 npp; clear g_H1
    refine ⟨by show 2 ≤ sizeLine; decide, fun t nt => ?_⟩
    (generalize g_H2 : upd _ t _ = H2); have ht := gat g_H2; have e2 := gex g_H2 nt; clear g_H2
    refine ⟨by rw [List.length_append, List.length_append, List.length_map, List.length_map, l1, l2]; exact le_line (show _ ≤ 60 by show st1.length + (st2.length + 1) ≤ 60; omega) (by decide), fun q nq => ?_⟩
    (generalize g_H3 : upd _ q _ = H3); have hq := gat g_H3; have e3 := gex g_H3 nq; clear g_H3
    have e03 : Ex H H3 := fun _ _ o => e3 _ _ (e2 _ _ (e1 _ _ o))
    refine ⟨_, rfl, _, rfl, _, rfl, a1, b1, a2, b2, ("&", 3), rfl, List.mem_of_elem_eq_true (by decide +kernel), ((F1.ex e03).wr T.k_Saying.cl T.n_Saying_written T.n_Saying_level), ((F2.ex e03).wr T.k_Saying.cl T.n_Saying_written T.n_Saying_level), h1, h2, fun z lz => ?_⟩
    refine ⟨_, rfl, T.g_LEVELS.a, _, .int 3, rfl, rfl, T.g_LEVELS.g ("&", 3) (List.mem_of_elem_eq_true (by decide +kernel)), fun x dx nx ndx ne => ?_⟩
    have rr : ∀ {xs : List Addr} {st : List SStep}, (∀ (i : Nat) (x : Addr) (s : SStep), xs[i]? = some x → st[i]? = some s → ∃ pp, H x = some (.tup [.str s.1, .ref pp]) ∧ H pp = some (.tup (s.2.map fun f => V.ref f.1)) ∧ ∀ f ∈ s.2, FoN T.k_Formula.C H f.1 f.2 500 ∧ 1 ≤ f.2) →
        ∀ (i : Nat) (x : Addr) (s : SStep), xs[i]? = some x → st[i]? = some s → ∃ pp, H3 x = some (.tup [.str s.1, .ref pp]) ∧ H3 pp = some (.tup (s.2.map fun f => V.ref f.1)) ∧ ∀ f ∈ s.2, FoN T.k_Formula.C H3 f.1 f.2 500 ∧ 1 ≤ f.2 := fun r i x s a b => by
      obtain ⟨pp, q1, q2, q3⟩ := r i x s a b
      exact ⟨pp, e03 _ _ q1, e03 _ _ q2, fun f hf => ⟨(q3 f hf).1.ex e03, (q3 f hf).2⟩⟩
    have S : SStepsAt T.k_Formula.C H3 q (st1 ++ (st2 ++ [(("&" : Str), [])])) := ssteps_app l1 (rr r1) l2 (rr r2) (e3 _ _ ht) (e3 _ _ (e2 _ _ hpp)) hq
    have ey : Ex H3 (upd (upd H3 dx (.own x)) x (.ins T.k_Saying.C dx [])) := ex_two nx ndx
    have ws : wgt (st1 ++ (st2 ++ [(("&" : Str), [])])) ≤ n1 + n2 + 1 := by
      rw [wgt_app, wgt_app]
      show wgt st1 + (wgt st2 + 1) ≤ _
      omega
    refine ⟨x, dx, q, z, 3, st1 ++ (st2 ++ [(("&" : Str), [])]), rfl, upd_same, S.ext ey, by omega, fun np m H4 h4 fr => ?_⟩
    exact ⟨rfl, k x H4 (fun a o q => fr_ex nx ndx fr _ _ (e03 _ _ q)) (new_say h4 fr (S.ext ey) upd_same ws lz)⟩
theorem ok_Saying_and_ (T : Tx K mg w) : FnOk P w K mg base CX0 6 T.f_Saying_and_.a T.f_Saying_and_.fd ["self", "other"] (spAndS T.k_Saying.C T.k_Formula.C) := by
  refine T.f_Saying_and_.F.ok sc_Saying_and_ (fun vs H Q E h => ?_) (fun cdv A outer s H vs Q E hr h => ?_)
  · obtain ⟨a1, n1, b1, a2, n2, b2, rfl, _⟩ := h
    rfl
  · obtain ⟨a1, n1, b1, a2, n2, b2, rfl, F1, F2, h1, h2, h60, k⟩ := h
    refine ⟨_, (pss_cons (ps_if (pt_not (pt_val (pe_callB call_isi (by rfl) T.b_isinstance (by decide +kernel) (pa_cons (pv 1) (pa_cons (pe_glob (v := .ref T.k_Saying.C) (by rfl) T.k_Saying.m rfl) pa_nil))))) (pss_one ps_never) pss_nil)
      (pss_one (ps_ret (pe_call (ok_joined_sayings T) (hr.mono (by decide)) (by rfl) T.f_joined_sayings.m T.f_joined_sayings.F.kp (bd_joined_sayings T) .nil pass0 (pa_cons (pv 0) (pa_cons pe_str (pa_cons (pv 1) pa_nil))))))), ?_⟩

    obtain ⟨dx, fs, ha⟩ := F2.ins
    refine ⟨_, rfl, _, _, _, _, true, rfl, .own _, .base (.ins ha T.k_Saying.cl T.k_Saying.al.ha T.k_Saying.al.hn T.k_Saying.al.ht T.k_Saying.al.hm), Tag.kitC T.k_Saying.al .own, true, rfl, iteF ?_⟩
    exact ⟨_, rfl, _, rfl, a1, n1, b1, a2, n2, b2, rfl, F1, F2, h1, h2, h60, k⟩
theorem ok_simple_saying (T : Tx K mg w) : FnOk P w K mg base CX0 5 T.f_simple_saying.a T.f_simple_saying.fd ["word", "parts"] (spSimple T.k_Saying.C T.k_Formula.C) := by
  refine T.f_simple_saying.F.ok sc_simple_saying (fun vs H Q E h => ?_) (fun cdv A outer s H vs Q E hr h => ?_)
  · obtain ⟨wd, pp, fs, rfl, _⟩ := h
    rfl
  · obtain ⟨wd, pp, fs, rfl, lwd, hp, ne, l2, fo, w60, k⟩ := h
    refine ⟨_, (pss_cons (ps_set (i := 2) sc_simple_saying.nd rfl (Or.inl rfl) (pe_join pe_str (pe_lc (own := [("part", 3)]) (g := gName 3) (tt := tYes) (by rfl) sc_simple_saying.nd (pi_tupK (K := K) rfl (pv 1)) (blkOk_by (own := [("part", 3)]) (N := ["word", "parts", "inside", "part"]) (sc := defScope s_simple_saying) (by decide +kernel)) (fun _ _ _ _ _ => pg_name (i := 3) sc_simple_saying.nd rfl (Or.inl rfl)) (fun _ _ _ _ _ => pts_nil) (fun _ _ _ _ _ => (pe_callTy (TzOwn.str_own (ok_Formula_str_ T) (hr.mono (by decide)) T.f_Formula_str_.M (bd_Formula_str_ T) pass0) (by rfl) T.b_str (by decide +kernel) (pa_cons (pv 3) pa_nil))))))
      (pss_one (ps_ret (pe_make (mk_Saying T) (ok_Saying_init_ T) (hr.mono (by decide)) (by rfl) T.k_Saying.m (bd_Saying_init_ T) .nil pass0 (pa_cons (pe_tup (pa_cons (pe_tup (pa_cons (pv 0) (pa_cons (pv 1) pa_nil))) pa_nil)) (pa_cons (pe_ifExp (pt_truth (pv 1) (by intro _; rfl)) (pe_joined (.cons (pe_fmt (pv 0)) (.cons pe_str (.cons (pe_fmt (pv 2)) (.cons pe_str .nil))))) (pv 0)) (pa_cons (pe_glob (v := .int 5) (by rfl) T.c_TIGHTEST.m ⟨_, rfl⟩) pa_nil))))))), ?_⟩

    refine ⟨⟨_, rfl⟩, _, rfl, pp, rfl, ⟨_, sqT hp⟩, fun D nD => ?_⟩
    refine lc_it (walk_tup (K := K) (a := pp) (xs := fs.map fun f => V.ref f.1)) (fun i H' => Ex H H' ∧ ∃ zs : List Str, H' D = some (.lst (zs.map V.str)) ∧ zs.length = i ∧ ∀ z ∈ zs, z.length ≤ 500) ⟨Ex.new nD, [], upd_same, rfl, fun _ h => nomatch h⟩ (fun i H' _ h => sqT (h.1 _ _ hp)) ?_ ?_
    · rintro i x H1 H2 hi ⟨e, zs, hD, lz, bz⟩ ⟨rfl, hx⟩
      rw [List.length_map] at hi
      rw [List.getElem?_map] at hx
      obtain ⟨f, hf, rfl⟩ := Option.map_eq_some_iff.mp hx
      have F := (fo f (List.mem_of_getElem? hf)).1.ex e
      obtain ⟨fdx, ffs, hfo⟩ := F.ins
      refine ⟨rfl, yes_go ?_⟩
      refine ⟨_, rfl, f.1, fdx, _, rfl, hfo, f.1, _, _, rfl, F, fun z bz' => ⟨⟨z, rfl⟩, _, hD, by rw [List.length_map]; exact Nat.lt_of_le_of_lt (show _ ≤ 60 by omega) (by decide), Ex.keepD nD e, zs ++ [z], by rw [upd_same, List.map_append]; rfl, by rw [List.length_append, lz]; rfl, fun y hy => ?_⟩⟩
      rcases List.mem_append.mp hy with hy | hy
      · exact bz y hy
      · rw [List.mem_singleton.mp hy]; exact bz'
    rintro H1 ⟨e1, zs, hD, lz, bz⟩
    rw [List.length_map] at lz
    have lj : (Txt.join (", " : Str) zs).length ≤ 1010 := by
      rw [TL.join_eq]
      refine Nat.le_trans (PySem.StrLaws.join_length_le _ _) ?_
      have s := sum_lens bz
      show _ + zs.length * 2 ≤ _
      omega
    refine ⟨_, D, zs, rfl, rfl, .inl (sq hD), ?_, ?_⟩
    · have s := sum_lens bz
      show _ + zs.length * 2 ≤ _
      omega
    refine ⟨_, rfl, _, rfl, by show 2 ≤ sizeLine; decide, fun t1 nt1 => ?_⟩
    (generalize g_H2 : upd _ t1 _ = H2); have ht1 := gat g_H2; have e2 := gex g_H2 nt1; clear g_H2
    refine ⟨by show 1 ≤ sizeLine; decide, fun t2 nt2 => ?_⟩
    (generalize g_H3 : upd _ t2 _ = H3); have ht2 := gat g_H3; have e3 := gex g_H3 nt2; clear g_H3
    have e03 : Ex H H3 := fun _ _ o => e3 _ _ (e2 _ _ (e1 _ _ o))
    have S := sstep_one (e3 _ _ ht1) ht2 (e03 _ _ hp) fun f hf => ⟨(fo f hf).1.ex e03, (fo f hf).2⟩
    have m1 : (Str.empty ++ wd).length ≤ 10 := by rw [Str.length_append]; exact Nat.le_trans (Nat.le_of_eq (Nat.zero_add _)) lwd
    have m2 := app_le m1 (show (("(" : Str)).length ≤ 1 by decide)
    have m3 := app_le m2 lj
    have m4 := app_le m3 (show ((")" : Str)).length ≤ 1 by decide)
    refine ⟨_, rfl, true, .inr (.inl ⟨_, sqT (e03 _ _ hp), ?_⟩), ?_⟩
    · cases fs with
      | nil => exact absurd rfl ne
      | cons a b => rfl
    refine iteT ?_
    refine ⟨_, rfl, .inl ⟨wd, rfl, le_line lwd (by decide), _, rfl, le_line m1 (by decide), _, rfl, le_line m2 (by decide), _, rfl, .inl ⟨_, rfl, le_line lj (by decide), _, rfl, le_line m3 (by decide), _, rfl, le_line m4 (by decide), fun x dx nx ndx ne => ?_⟩⟩⟩
    have ey : Ex H3 (upd (upd H3 dx (.own x)) x (.ins T.k_Saying.C dx [])) := ex_two nx ndx
    refine ⟨x, dx, t2, _, 5, [(wd, fs)], rfl, upd_same, S.ext ey, by rw [wgt_one]; exact w60, fun np m H4 h4 fr => ?_⟩
    exact ⟨rfl, k x H4 (fun a o q => fr_ex nx ndx fr _ _ (e03 _ _ q)) (new_say h4 fr (S.ext ey) upd_same (Nat.le_of_eq wgt_one) (by omega))⟩
theorem ok_yes (T : Tx K mg w) : FnOk P w K mg base CX0 7 T.f_yes.a T.f_yes.fd [] spNo := ⟨fun _ _ _ _ h => h.elim, fun _ _ _ _ _ _ _ _ _ _ _ _ _ h => h.elim⟩
theorem ok_same (T : Tx K mg w) : FnOk P w K mg base CX0 6 T.f_same.a T.f_same.fd ["e", "f"] (spSame T.k_Saying.C T.k_Formula.C) := by
  refine T.f_same.F.ok sc_same (fun vs H Q E h => ?_) (fun cdv A outer s H vs Q E hr h => ?_)
  · obtain ⟨a1, n1, a2, n2, rfl, _⟩ := h
    rfl
  · obtain ⟨a1, n1, a2, n2, rfl, F1, F2, p1, p2, h60, k⟩ := h
    refine ⟨_, (pss_one (ps_ret (pe_call (ok_simple_saying T) (hr.mono (by decide)) (by rfl) T.f_simple_saying.m T.f_simple_saying.F.kp (bd_simple_saying T) .nil pass0 (pa_cons pe_str (pa_cons (pe_tup (pa_cons (pv 0) (pa_cons (pv 1) pa_nil))) pa_nil))))), ?_⟩

    refine ⟨_, rfl, _, rfl, by show 2 ≤ sizeLine; decide, fun t nt => ?_⟩
    (generalize g_H1 : upd _ t _ = H1); have ht := gat g_H1; have e1 := gex g_H1 nt; clear g_H1
    refine ⟨"same", t, [(a1, n1), (a2, n2)], rfl, by decide, ht, List.cons_ne_nil _ _, by show 2 ≤ 2; decide, fun f hf => ?_, by show 1 + (n1 + (n2 + 0)) ≤ 60; omega, fun a H' e' S => ?_⟩
    · simp only [List.mem_cons, List.not_mem_nil, or_false] at hf
      rcases hf with rfl | rfl
      · exact ⟨F1.ex e1, p1⟩
      · exact ⟨F2.ex e1, p2⟩
    · have S : SayAt T.k_Saying.C T.k_Formula.C H' a (1 + (n1 + (n2 + 0))) 1100 := S
      exact k a H' (fun _ _ q => e' _ _ (e1 _ _ q)) S
theorem ok_is_full (T : Tx K mg w) : FnOk P w K mg base CX0 6 T.f_is_full.a T.f_is_full.fd ["e"] (spIsFull T.k_Saying.C T.k_Formula.C) := by
  refine T.f_is_full.F.ok sc_is_full (fun vs H Q E h => ?_) (fun cdv A outer s H vs Q E hr h => ?_)
  · obtain ⟨a1, n1, rfl, _⟩ := h
    rfl
  · obtain ⟨a1, n1, rfl, F1, p1, h60, k⟩ := h
    refine ⟨_, (pss_one (ps_ret (pe_call (ok_simple_saying T) (hr.mono (by decide)) (by rfl) T.f_simple_saying.m T.f_simple_saying.F.kp (bd_simple_saying T) .nil pass0 (pa_cons pe_str (pa_cons (pe_tup (pa_cons (pv 0) pa_nil)) pa_nil))))), ?_⟩

    refine ⟨_, rfl, by show 1 ≤ sizeLine; decide, fun t nt => ?_⟩
    (generalize g_H1 : upd _ t _ = H1); have ht := gat g_H1; have e1 := gex g_H1 nt; clear g_H1
    refine ⟨"isfull", t, [(a1, n1)], rfl, by decide, ht, List.cons_ne_nil _ _, by show 1 ≤ 2; decide, fun f hf => ?_, by show 1 + (n1 + 0) ≤ 60; omega, fun a H' e' S => ?_⟩
    · rw [List.mem_singleton.mp hf]
      exact ⟨F1.ex e1, p1⟩
    · have S : SayAt T.k_Saying.C T.k_Formula.C H' a (1 + (n1 + 0)) 1100 := S
      exact k a H' (fun _ _ q => e' _ _ (e1 _ _ q)) S
abbrev SpAll (C F : Addr) : Sp := fun vs H Q E => ∃ ws rest, vs = ws ++ rest ∧ ws.length = ([] : List Str).length ∧ rest.length ≤ sizeLine ∧ ∀ p, H p = Option.none → spAllB C F (ws ++ [V.ref p]) (upd H p (.tup rest)) Q E
theorem ok_all_of (T : Tx K mg w) : FnR P w K mg base CX0 8 T.f_all_of.a (SpAll T.k_Saying.C T.k_Formula.C) := by
  obtain ⟨oc, od, kV, doc, pm, an, cdv, ct, osl, e, lk, code⟩ := T.f_all_of.F.ex
  rw [e] at lk
  refine StX.fn_star (CX := CX0) (ps := []) (pv := "sayings") lk code sc_all_of StX.cxUp_none (fun us rest l => ?_) (fun A outer s H vs Q E hr h => ?_)
  · cases us with
    | nil => cases rest <;> rfl
    | cons a b => exact absurd l (by simp)
  · obtain ⟨p, a1, n1, b1, a2, n2, b2, rfl, hp, S1, S2, h1, h2, h60, k⟩ := h
    refine ⟨_, (pss_cons (ps_set (i := 1) sc_all_of.nd rfl (Or.inl rfl) (pe_ifExp (pt_truth (pv 0) (by intro _; rfl)) (pe_ix ix_tup (pv 0) pe_int (fun _ _ => rfl)) (pe_call0 (ok_yes T) (hr.mono (by decide)) (by rfl) T.f_yes.m T.f_yes.F.kp (bd_yes T) .nil pass0)))
      (pss_cons (ps_for (passes_of rfl) rfl (pi_tup (pe_slice sl_tup (pv 0) (po_some pe_int) po_none)) (pg_name (i := 2) sc_all_of.nd rfl (Or.inl rfl)) (pss_one (ps_set (i := 1) sc_all_of.nd rfl (Or.inl rfl) (pe_op (TzOwn.op_own (ok_Saying_and_ T) (hr.mono (by decide)) T.f_Saying_and_.M (by decide +kernel) T.k_Saying.al.sf (bd_Saying_and_ T) pass0) (pv 1) (pv 2)))))
      (pss_one (ps_ret (pv 1))))), ?_⟩
    refine ⟨_, rfl, true, .inr (.inl ⟨_, sqT hp, rfl⟩), iteT ?_⟩
    refine ⟨_, rfl, p, _, 0, _, rfl, rfl, sqT hp, atI_nat (j := 0) rfl, ?_⟩
    obtain ⟨dx2, fs2, ha2⟩ := S2.ins
    refine ⟨_, rfl, _, rfl, p, _, rfl, sqT hp, fun w => ?_, fun q nq => ?_⟩
    · have := w.1
      have : min 1 2 = 0 := this
      omega
    (generalize g_H1 : upd _ q _ = H1); have hq := gat g_H1; have e1 := gex g_H1 nq; clear g_H1
    rw [cutT] at hq
    have hq : H1 q = some (.tup [.ref a2]) := hq
    refine ⟨q, rfl, ⟨_, sqT hq⟩, for_it (walk_tup (K := K) (a := q) (xs := [V.ref a2])) (fun i σ' H' => Ex H1 H' ∧ ∃ a o, σ' = [some (.ref p), some (.ref a), o] ∧ ((i = 0 ∧ a = a1) ∨ (i = 1 ∧ SayAt T.k_Saying.C T.k_Formula.C H' a (n1 + n2 + 1) (b1 + b2 + 8)))) ⟨Ex.refl _, a1, _, rfl, .inl ⟨rfl, rfl⟩⟩ (fun i σ' H' _ h => sqT (h.1 _ _ hq)) ?_ ?_⟩
    · rintro i x σ' H2 H3 hi ⟨e2, a, o, rfl, c⟩ ⟨rfl, hx⟩
      have i0 : i = 0 := by have : i < 1 := hi; omega
      subst i0
      cases hx
      rcases c with ⟨_, rfl⟩ | ⟨z, _⟩
      · have e02 : Ex H H3 := fun _ _ o => e2 _ _ (e1 _ _ o)
        obtain ⟨dx1, fs1, ha1⟩ := S1.ins
        refine ⟨_, rfl, _, rfl, a, a2, dx1, dx2, _, _, rfl, rfl, e02 _ _ ha1, e02 _ _ ha2, a, n1, b1, a2, n2, b2, rfl, S1.ex e02, S2.ex e02, h1, h2, h60, fun r H4 e4 S => ?_⟩
        exact ⟨fun _ _ o => e4 _ _ (e2 _ _ o), r, _, rfl, .inr ⟨rfl, S⟩⟩
      · omega
    · rintro σ' H2 ⟨e2, a, o, rfl, c⟩
      rcases c with ⟨z, _⟩ | ⟨_, S⟩
      · exact absurd z (by show ¬ (1 = 0); omega)
      · exact ⟨_, rfl, k a H2 (fun _ _ o => e2 _ _ (e1 _ _ o)) S⟩
theorem ok_is_pair (T : Tx K mg w) : FnOk P w K mg base CX0 1 T.f_is_pair.a T.f_is_pair.fd ["value"] spIsPair := by
  refine T.f_is_pair.F.ok sc_is_pair (fun vs H Q E h => ?_) (fun cdv A outer s H vs Q E hr h => ?_)
  · obtain ⟨v, b, rfl, _⟩ := h
    rfl
  · obtain ⟨v, b, rfl, p, k⟩ := h
    refine ⟨_, (pss_one (ps_ret (pe_and (pe_callB call_isi (by rfl) T.b_isinstance (by decide +kernel) (pa_cons (pv 0) (pa_cons (pe_bltn (v := .ty "tuple") (by rfl) T.b_tuple (by decide +kernel) rfl) pa_nil))) (pe_one (pe_cmpR op_eq (pe_callB call_len_seq (by rfl) T.b_len (by decide +kernel) (pa_cons (pv 0) pa_nil)) pe_int (nomark _)))))), ?_⟩

    cases p with
    | no d n =>
      obtain ⟨t, ty, kt⟩ := d.ty (K := K)
      refine ⟨_, rfl, _, _, _, _, _, rfl, .ty "tuple", ty, kt "tuple" (by decide), _, rfl, ?_⟩
      rw [n]
      exact iteF k
    | @tup a xs h =>
      obtain ⟨t, ty, kt⟩ := (Th.tup h).ty (K := K)
      refine ⟨_, rfl, _, _, _, _, _, rfl, .ty "tuple", ty, kt "tuple" (by decide), _, rfl, iteT ?_⟩
      refine ⟨_, rfl, _, _, rfl, .inr (sqT h), rfl, ?_⟩
      have e : decide (V.int ((xs.length : Nat) : Int) = V.int 2) = decide (xs.length = 2) := by
        rw [decide_eq_decide]
        constructor
        · intro q
          have := V.int.inj q
          omega
        · intro q
          rw [q]
          rfl
      rw [e]
      exact k
theorem ok_is_cover (T : Tx K mg w) : FnOk P w K mg base CX0 4 T.f_is_cover.a T.f_is_cover.fd ["cover", "known"] (spIsCover K) := by
  refine T.f_is_cover.F.ok sc_is_cover (fun vs H Q E h => ?_) (fun cdv A outer s H vs Q E hr h => ?_)
  · obtain ⟨v, kn, ks, b, rfl, _⟩ := h
    rfl
  · obtain ⟨v, kn, ks, b, rfl, hk, c, k⟩ := h
    refine ⟨_, (pss_cons (ps_if (PW.pt (pw_or (pt_not (pt_val (pe_callB call_isi (by rfl) T.b_isinstance (by decide +kernel) (pa_cons (pv 0) (pa_cons (pe_bltn (v := .ty "tuple") (by rfl) T.b_tuple (by decide +kernel) rfl) pa_nil))))) (pw_or (pt_not (pt_truth (pv 0) (by intro _; rfl))) (pw_or1 (pt_not (pt_val (pe_callB (cr_all rfl) (by rfl) T.b_all (by decide +kernel) (pa_cons (pe_lc (own := [("part", 5)]) (g := gName 5) (tt := tYes) (by rfl) sc_is_cover.nd (pi_tupK (K := K) rfl (pv 0)) (blkOk_by (own := [("part", 5)]) (N := ["cover", "known", "name", "times", "_", "part"]) (sc := defScope s_is_cover) (by decide +kernel)) (fun _ _ _ _ _ => pg_name (i := 5) sc_is_cover.nd rfl (Or.inl rfl)) (fun _ _ _ _ _ => pts_nil) (fun _ _ _ _ _ => (pe_call (ok_is_pair T) (hr.mono (by decide)) (by rfl) T.f_is_pair.m T.f_is_pair.F.kp (bd_is_pair T) .nil pass0 (pa_cons (pv 5) pa_nil)))) pa_nil)))))))) (pss_one (ps_ret pe_bl)) pss_nil)
      (pss_cons (ps_if (pt_not (pt_val (pe_callB (cr_all rfl) (by rfl) T.b_all (by decide +kernel) (pa_cons (pe_lc (own := [("name", 2), ("times", 3)]) (g := gTup K 2 (gCons (gName 2) (gCons (gName 3) gNil))) (tt := tYes) (by rfl) sc_is_cover.nd (pi_tupK (K := K) rfl (pv 0)) (blkOk_by (own := [("name", 2), ("times", 3)]) (N := ["cover", "known", "name", "times", "_", "part"]) (sc := defScope s_is_cover) (by decide +kernel)) (fun _ _ _ _ _ => pg_tup rfl (pgs_cons (pg_name (i := 2) sc_is_cover.nd rfl (Or.inl rfl)) (pgs_cons (pg_name (i := 3) sc_is_cover.nd rfl (Or.inl rfl)) pgs_nil))) (fun _ _ _ _ _ => pts_nil) (fun _ _ _ _ _ => (pe_and (pe_cmpR (op_inXK (K := K) rfl hr.units) (pv 2) (pv 1) (by rfl)) (pe_one (pe_call (ok_is_from T) (hr.mono (by decide)) (by rfl) T.f_is_from.m T.f_is_from.F.kp (bd_is_from T) .nil pass0 (pa_cons (pv 3) (pa_cons pe_int (pa_cons (pe_glob (v := .int 9) (by rfl) T.c_MOST_TIMES_ADDED.m ⟨_, rfl⟩) pa_nil)))))))) pa_nil)))) (pss_one (ps_ret pe_bl)) pss_nil)
      (pss_one (ps_ret (pe_cmpR op_eq (pe_callB call_len_dK (by rfl) T.b_len (by decide +kernel) (pa_cons (pe_dc (own := [("name", 2), ("_", 4)]) (g := gTup K 2 (gCons (gName 2) (gCons (gName 4) gNil))) (tt := tYes) (by rfl) sc_is_cover.nd (pi_tupK (K := K) rfl (pv 0)) (blkOk_by (own := [("name", 2), ("_", 4)]) (N := ["cover", "known", "name", "times", "_", "part"]) (sc := defScope s_is_cover) (by decide +kernel)) (fun _ _ _ _ _ => pg_tup rfl (pgs_cons (pg_name (i := 2) sc_is_cover.nd rfl (Or.inl rfl)) (pgs_cons (pg_name (i := 4) sc_is_cover.nd rfl (Or.inl rfl)) pgs_nil))) (fun _ _ _ _ _ => pts_nil) (fun _ _ _ _ _ => (pv 2)) (fun _ _ _ _ _ => pe_bl)) pa_nil)) (pe_callB call_len_seq (by rfl) T.b_len (by decide +kernel) (pa_cons (pv 0) pa_nil)) (nomark _)))))), ?_⟩

    cases c with
    | no d n =>
      obtain ⟨t, ty, kt⟩ := d.ty (K := K)
      refine ⟨_, rfl, _, _, _, _, _, rfl, .ty "tuple", ty, kt "tuple" (by decide), _, rfl, ?_⟩
      rw [n]
      exact iteT (k _ (Ex.refl H))
    | empty h =>
      obtain ⟨t, ty, kt⟩ := (Th.tup h).ty (K := K)
      refine ⟨_, rfl, _, _, _, _, _, rfl, .ty "tuple", ty, kt "tuple" (by decide), _, rfl, iteF ?_⟩
      exact ⟨_, rfl, false, .inr (.inl ⟨_, sqT h, rfl⟩), iteT (k _ (Ex.refl H))⟩
    | @odd a xs bs h0 l ne p n =>
      obtain ⟨t, ty, kt⟩ := (Th.tup h0).ty (K := K)
      refine ⟨_, rfl, _, _, _, _, _, rfl, .ty "tuple", ty, kt "tuple" (by decide), _, rfl, iteF ?_⟩
      refine ⟨_, rfl, true, .inr (.inl ⟨_, sqT h0, by cases xs with | nil => exact absurd rfl ne | cons a b => rfl⟩), iteF ?_⟩
      refine ⟨_, rfl, a, rfl, ⟨_, sqT h0⟩, fun D nD => ?_⟩
      refine lc_vals (walk_tup (K := K) (a := a) (xs := xs)) (fun j => .bl (bs.getD j false)) nD (by omega) (fun _ e => sqT (e _ _ h0)) ?_ (fun H3 e h => ?_)
      · rintro j x H4 H5 hj e ⟨rfl, hx⟩ R hR
        refine ⟨rfl, _, rfl, x, _, rfl, ?_, hR _ _ rfl fun _ _ h => h⟩
        have := (p j hj).ex e
        rwa [getD_some hx] at this
      · refine ⟨D, _, rfl, allS (f := fun j => bs.getD j false) h, ?_⟩
        rw [allV, n]
        exact ⟨_, rfl, iteT (k _ e)⟩
    | @rows a xs ns ts h0 l ne ln lt r n =>
      obtain ⟨t, ty, kt⟩ := (Th.tup h0).ty (K := K)
      refine ⟨_, rfl, _, _, _, _, _, rfl, .ty "tuple", ty, kt "tuple" (by decide), _, rfl, iteF ?_⟩
      refine ⟨_, rfl, true, .inr (.inl ⟨_, sqT h0, by cases xs with | nil => exact absurd rfl ne | cons a b => rfl⟩), iteF ?_⟩
      refine ⟨_, rfl, a, rfl, ⟨_, sqT h0⟩, fun D nD => ?_⟩
      refine lc_vals (walk_tup (K := K) (a := a) (xs := xs)) (fun j => .bl true) nD (by omega) (fun _ e => sqT (e _ _ h0)) ?_ (fun H3 e h => ?_)
      · rintro j x H4 H5 hj e ⟨rfl, hx⟩ R hR
        refine ⟨rfl, _, rfl, x, true, rfl, ?_, hR _ _ rfl fun _ _ h => h⟩
        have cr := (r j hj).1
        rw [getD_some hx] at cr
        cases cr with
        | mk hr => exact PairV.tup (xs := [_, _]) (e _ _ hr)
      refine ⟨D, _, rfl, allS (f := fun j => true) h, ?_⟩
      have ta : ((List.range xs.length).all fun _ => true) = true := List.all_eq_true.mpr fun _ _ => rfl
      rw [allV, ta]
      refine ⟨_, rfl, iteF ?_⟩
      refine ⟨_, rfl, a, rfl, ⟨_, sqT (e _ _ h0)⟩, fun D2 nD2 => ?_⟩
      refine lc_vals (walk_tup (K := K) (a := a) (xs := xs)) (fun j => .bl (inS (ns.getD j .non) ks && fromV 1 9 (ts.getD j .non))) nD2 (by omega) (fun _ e2 => sqT (e2 _ _ (e _ _ h0))) ?_ (fun H4 e2 h2 => ?_)
      · rintro j x H5 H6 hj e2 ⟨rfl, hx⟩ R hR
        obtain ⟨cr, ⟨g1, d1⟩, ⟨g2, d2⟩⟩ := r j hj
        have e02 := fun {a o} (q : H a = some o) => e2 a o (e a o q)
        rw [getD_some hx] at cr
        generalize ns.getD j .non = nx at cr d1 hR
        generalize ts.getD j .non = tx at cr d2 hR
        cases cr with
        | mk hr =>
          refine ⟨_, _, rfl, sqT (e02 hr), rfl, _, _, rfl, _, _, rfl, rfl, rfl, ?_⟩
          refine ⟨_, rfl, _, rfl, kn, ks, g1, rfl, .inr (sqT_ex hk fun _ _ q => e02 q), d1.ex fun _ _ q => e02 q, ?_⟩
          show ∃ c, V.bl (inS nx ks) = V.bl c ∧ _
          cases hin : inS nx ks with
          | false =>
            rw [hin] at hR
            exact ⟨_, rfl, iteF (hR _ _ rfl fun _ _ h => h)⟩
          | true =>
            rw [hin] at hR
            refine ⟨_, rfl, iteT ?_⟩
            exact ⟨_, rfl, tx, g2, _, _, rfl, d2.ex fun _ _ q => e02 q, hR _ _ rfl fun _ _ h => h⟩
      · refine ⟨D2, _, rfl, allS (f := fun j => inS (ns.getD j .non) ks && fromV 1 9 (ts.getD j .non)) h2, ?_⟩
        rw [allV, n]
        exact ⟨_, rfl, iteT (k _ fun _ _ q => e2 _ _ (e _ _ q))⟩
    | @good a xs zs cs h0 l ne ln lt r kz kc z9 =>
      obtain ⟨t, ty, kt⟩ := (Th.tup h0).ty (K := K)
      refine ⟨_, rfl, _, _, _, _, _, rfl, .ty "tuple", ty, kt "tuple" (by decide), _, rfl, iteF ?_⟩
      refine ⟨_, rfl, true, .inr (.inl ⟨_, sqT h0, by cases xs with | nil => exact absurd rfl ne | cons a b => rfl⟩), iteF ?_⟩
      refine ⟨_, rfl, a, rfl, ⟨_, sqT h0⟩, fun D nD => ?_⟩
      refine lc_vals (walk_tup (K := K) (a := a) (xs := xs)) (fun j => .bl true) nD (by omega) (fun _ e => sqT (e _ _ h0)) ?_ (fun H3 e h => ?_)
      · rintro j x H4 H5 hj e ⟨rfl, hx⟩ R hR
        refine ⟨rfl, _, rfl, x, true, rfl, ?_, hR _ _ rfl fun _ _ h => h⟩
        have cr := r j hj
        rw [getD_some hx] at cr
        cases cr with
        | mk hr => exact PairV.tup (xs := [_, _]) (e _ _ hr)
      refine ⟨D, _, rfl, allS (f := fun j => true) h, ?_⟩
      have ta : ((List.range xs.length).all fun _ => true) = true := List.all_eq_true.mpr fun _ _ => rfl
      rw [allV, ta]
      refine ⟨_, rfl, iteF ?_⟩
      refine ⟨_, rfl, a, rfl, ⟨_, sqT (e _ _ h0)⟩, fun D2 nD2 => ?_⟩
      refine lc_vals (walk_tup (K := K) (a := a) (xs := xs)) (fun j => .bl true) nD2 (by omega) (fun _ e2 => sqT (e2 _ _ (e _ _ h0))) ?_ (fun H4 e2 h2 => ?_)
      · rintro j x H5 H6 hj e2 ⟨rfl, hx⟩ R hR
        have cr := r j hj
        have e02 := fun {a o} (q : H a = some o) => e2 a o (e a o q)
        rw [getD_some hx] at cr
        have zm : zs.getD j "" ∈ zs := by rw [List.getD_eq_getElem?_getD, List.getElem?_eq_getElem (by omega)]; exact List.getElem_mem _
        have cm : cs.getD j 0 ∈ cs := by rw [List.getD_eq_getElem?_getD, List.getElem?_eq_getElem (by omega)]; exact List.getElem_mem _
        have zk := inS_mem.mpr (kz _ zm)
        have z9 := z9 _ zm
        have c19 := kc _ cm
        generalize zs.getD j "" = zj at cr zk z9
        generalize cs.getD j 0 = cj at cr c19
        cases cr with
        | mk hr =>
          refine ⟨_, _, rfl, sqT (e02 hr), rfl, _, _, rfl, _, _, rfl, rfl, rfl, ?_⟩
          refine ⟨_, rfl, _, rfl, kn, ks, .str, rfl, .inr (sqT_ex hk fun _ _ q => e02 q), .str _ z9, ?_⟩
          show ∃ c, V.bl (inS (.str zj) ks) = V.bl c ∧ _
          rw [zk]
          refine ⟨_, rfl, iteT ?_⟩
          refine ⟨_, rfl, .int cj, .int, _, _, rfl, .int cj, ?_⟩
          refine hR _ _ ?_ fun _ _ h => h
          show V.bl (decide (1 ≤ cj) && decide (cj ≤ 9)) = V.bl true
          rw [decide_eq_true c19.1, decide_eq_true c19.2]
          rfl
      refine ⟨D2, _, rfl, allS (f := fun j => true) h2, ?_⟩
      rw [allV, ta]
      refine ⟨_, rfl, iteF ?_⟩
      have h4 := e2 _ _ (e _ _ h0)
      refine ⟨_, rfl, a, rfl, ⟨_, sqT h4⟩, fun N nN => ?_⟩
      refine it_gen (walk_tup (K := K) (a := a) (xs := xs)) (fun i H' => Ex H4 H' ∧ ∃ ks', H' N = some (.dK (nmD ks')) ∧ Met zs i ks') ⟨Ex.new nN, [], upd_same, met_zero⟩ (fun i H' _ h => sqT (h.1 _ _ h4)) ?_ ?_
      · rintro j x H5 H6 hj ⟨e5, ks', hN, m⟩ ⟨rfl, hx⟩
        have cr := r j hj
        rw [getD_some hx] at cr
        have hz : zs[j]? = some (zs.getD j "") := by rw [List.getD_eq_getElem?_getD, List.getElem?_eq_getElem (by omega)]; rfl
        generalize zs.getD j "" = zj at cr hz
        generalize cs.getD j 0 = cj at cr
        cases cr with
        | mk hr =>
          refine ⟨_, _, rfl, sqT (e5 _ _ (e2 _ _ (e _ _ hr))), rfl, _, _, rfl, _, _, rfl, rfl, rfl, yes_go ?_⟩
          have := m.2.1
          exact ⟨_, rfl, _, Sum.inr zj, rfl, hN, by rw [nmD_len]; exact Nat.lt_of_le_of_lt (show ks'.length ≤ 20 by omega) (by decide), Ex.keepD nN e5, _, by rw [upd_same, putK_nm2], met_next m hz⟩
      · rintro H5 ⟨e5, ks', hN, m⟩
        refine ⟨N, _, rfl, hN, _, rfl, a, xs, rfl, .inr (sqT (e5 _ _ h4)), rfl, ?_⟩
        have et : zs.take xs.length = zs := by rw [← ln, List.take_length]
        obtain ⟨m1, m2, m3, m4⟩ := m
        rw [et] at m3 m4
        have eb : decide (V.int (((nmD ks').length : Nat) : Int) = V.int ((xs.length : Nat) : Int)) = decide zs.Nodup := by
          rw [decide_eq_decide, nmD_len]
          constructor
          · intro q
            have q := V.int.inj q
            exact Classical.byContradiction fun nn => by have := m4 nn; omega
          · intro q
            rw [m3 q]
        rw [eb]
        exact k _ fun _ _ q => e5 _ _ (e2 _ _ (e _ _ q))
theorem ok_BadRing_init_ (T : Tx K mg w) : FnOk P w K mg base CX0 1 T.f_BadRing_init_.a T.f_BadRing_init_.fd ["self", "part", "at"] (spErr2 T.e_BadRing.C "part" "at") := by
  refine T.f_BadRing_init_.F.ok sc_BadRing_init_ (fun vs H Q E h => ?_) (fun cdv A outer s H vs Q E hr h => ?_)
  · obtain ⟨a, u, v, rfl, _⟩ := h
    rfl
  · obtain ⟨a, u, v, rfl, ha, k⟩ := h
    refine ⟨_, (pss_cons (ps_ost (pv 0) (pv 1))
      (pss_one (ps_ost (pv 0) (pv 2)))), ?_⟩

    refine ⟨u, rfl, _, rfl, a, T.e_BadRing.C, rfl, T.e_BadRing.er.made, T.n_BadRing_part, .inl ⟨ha, fun dx n ne => ?_⟩⟩
    exact ⟨v, rfl, _, rfl, a, T.e_BadRing.C, rfl, T.e_BadRing.er.made, T.n_BadRing_at, .inr ⟨dx, _, upd_same, by rw [upd_ne ne, upd_same], by show 1 ≤ 900; decide, k dx n ne⟩⟩
theorem ok_check_contents (T : Tx K mg w) : FnOk P w K mg base (L2.CX P w) 4 T.f_check_contents.a T.f_check_contents.fd ["contents"] (spCheckCont T.e_BadRing.C) := by
  refine T.f_check_contents.F.okX sc_check_contents (fun vs H Q E h => ?_) (fun cdv A outer s H vs Q E hr h => ?_)
  · obtain ⟨v, rfl, _⟩ := h
    rfl
  · obtain ⟨v, rfl, h⟩ := h
    refine ⟨_, (pss_cons (ps_if (PW.pt (pw_or (pt_not (pt_val (pe_callB call_isi (by rfl) T.b_isinstance (by decide +kernel) (pa_cons (pv 0) (pa_cons (pe_bltn (v := .ty "tuple") (by rfl) T.b_tuple (by decide +kernel) rfl) pa_nil))))) (pw_or1 (pt_not (pt_truth (pv 0) (by intro _; rfl)))))) (pss_one (ps_raise rfl (takes_of rfl rfl rfl rfl) (pmk_oex T.e_BadRing.er.made T.f_BadRing_init_.M.at_ (beq_iff_eq.mp T.f_BadRing_init_.M.fn) (ok_BadRing_init_ T) (hr.mono (by decide)) (bd_BadRing_init_ T) .nil pass0 (by rfl) T.e_BadRing.m (pa_cons pe_str (pa_cons pe_int pa_nil))))) pss_nil)
      (pss_one (ps_for (passes_of rfl) rfl (pi_or (pi_enum (by rfl) T.b_enumerate (pa_cons (pv 0) pa_nil)) (TzEnum.pi_enumT (by rfl) T.b_enumerate (pa_cons (pv 0) pa_nil))) (pg_tup rfl (pgs_cons (pg_name (i := 1) sc_check_contents.nd rfl (Or.inl rfl)) (pgs_cons (pg_name (i := 2) sc_check_contents.nd rfl (Or.inl rfl)) pgs_nil))) (pss_one (ps_if (PW.pt (pw_or (pt_not (pt_val (pe_call (ok_is_name T) (hr.mono (by decide)) (by rfl) T.f_is_name.m T.f_is_name.F.kp (bd_is_name T) .nil pass0 (pa_cons (pv 2) pa_nil)))) (pw_or1 (pt_cmpR (op_inX hr.units) (pv 2) (pe_orr (pe_slice sl_list (pv 0) po_none (po_some (pv 1))) (pe_slice sl_tup (pv 0) po_none (po_some (pv 1)))) (by rfl))))) (pss_one (ps_raise rfl (takes_of rfl rfl rfl rfl) (pmk_oex T.e_BadRing.er.made T.f_BadRing_init_.M.at_ (beq_iff_eq.mp T.f_BadRing_init_.M.fn) (ok_BadRing_init_ T) (hr.mono (by decide)) (bd_BadRing_init_ T) .nil pass0 (by rfl) T.e_BadRing.m (pa_cons pe_str (pa_cons (pv 1) pa_nil))))) pss_nil))))), ?_⟩

    rcases h with ⟨g, d, n, f⟩ | ⟨a, rfl, h0, f⟩ | ⟨a0, xs, rfl, h0, ne, l20, h⟩
    · obtain ⟨t, ty, kt⟩ := d.ty (K := K)
      refine ⟨_, rfl, _, _, _, _, _, rfl, .ty "tuple", ty, kt "tuple" (by decide), _, rfl, ?_⟩
      rw [n]
      exact iteT (err2 f)
    · obtain ⟨t, ty, kt⟩ := (Th.tup h0).ty (K := K)
      refine ⟨_, rfl, _, _, _, _, _, rfl, .ty "tuple", ty, kt "tuple" (by decide), _, rfl, iteF ?_⟩
      exact ⟨_, rfl, false, .inr (.inl ⟨_, sqT h0, rfl⟩), iteT (err2 f)⟩
    · obtain ⟨t, ty, kt⟩ := (Th.tup h0).ty (K := K)
      refine ⟨_, rfl, _, _, _, _, _, rfl, .ty "tuple", ty, kt "tuple" (by decide), _, rfl, iteF ?_⟩
      refine ⟨_, rfl, true, .inr (.inl ⟨_, sqT h0, by cases xs with | nil => exact absurd rfl ne | cons a b => rfl⟩), iteF ?_⟩
      obtain ⟨H1, e1⟩ : ∃ H1, Ex H H1 ∧ H1 = H := ⟨H, Ex.refl H, rfl⟩
      obtain ⟨e1, eH⟩ := e1
      obtain ⟨v, ev⟩ : ∃ v, v = V.ref a0 := ⟨_, rfl⟩
      rw [← eH, ← ev]
      have e0 : Ex H1 H := by rw [eH]; exact Ex.refl H
      obtain ⟨zs, tail, ex, nm, hc⟩ : ∃ (zs : List Str) (tail : List V), xs = zs.map V.str ++ tail ∧ Names zs ∧ ((tail = [] ∧ ∀ H', Ex H H' → Q .non H') ∨ ∃ x rest g, tail = x :: rest ∧ Th H x g ∧ (nameV x = false ∨ ∃ z ∈ zs, x = .str z) ∧ LayF T.e_BadRing.C "contents" (.int (zs.length : Nat)) H E) := by
        rcases h with ⟨zs, e, nm, k⟩ | ⟨zs, x, rest, g, e, nm, d, w, f⟩
        · exact ⟨zs, [], by rw [e, List.append_nil], nm, .inl ⟨rfl, k⟩⟩
        · exact ⟨zs, x :: rest, e, nm, .inr ⟨x, rest, g, rfl, d, w, f⟩⟩
      have lx : xs.length = zs.length + tail.length := by rw [ex, List.length_append, List.length_map]
      have S1 : SeqV H1 v xs := ⟨a0, ev, .inr (e1 _ _ h0)⟩
      refine enum_seq rfl S1 fun J W => ?_
      refine for_it W (fun i σ' H' => Ex H1 H' ∧ i ≤ zs.length ∧ ∃ o1 o2, σ' = [some v, o1, o2]) ⟨fun _ _ h => h, Nat.zero_le _, _, _, rfl⟩ (fun i σ' H' _ h => h.1) ?_ ?_
      · rintro i w σ' H2 H3 hi ⟨e2, iz, o1, o2, rfl⟩ ⟨Tj, x, y, rfl, nT, rfl, hx, hy⟩
        dsimp only at hx hy
        cases hx
        have e3 := Ex.new (o := .tup [V.int (i : Nat), y]) nT
        have S3 := (S1.ex e2).ex e3
        have e03 : Ex H (upd H2 Tj (.tup [V.int (i : Nat), y])) := fun _ _ q => e3 _ _ (e2 _ _ (e1 _ _ q))
        refine ⟨Tj, _, rfl, sqT upd_same, rfl, _, _, rfl, _, _, rfl, rfl, ?_⟩
        by_cases lt : i < zs.length
        · have hz : zs[i]? = some zs[i] := List.getElem?_eq_getElem lt
          rw [ex, List.getElem?_append_left (by rw [List.length_map]; exact lt), List.getElem?_map, hz] at hy
          cases hy
          have nz := nm.1 zs[i] (List.getElem_mem lt)
          have lz := nameB_len nz
          refine ⟨_, rfl, .str zs[i], .str, rfl, .str _ (by omega), fun H4 e4 => ?_⟩
          rw [show nameV (.str zs[i]) = true from nz]
          refine ⟨_, rfl, iteF ?_⟩
          refine ⟨_, rfl, take_seq rfl rfl (S3.ex e4) (by omega) fun q H5 e5 S5 => ?_⟩
          rw [ex, take_strs iz] at S5
          obtain ⟨a, ea, hs⟩ := S5.of (K := K)
          cases ea
          refine ⟨q, zs.take i, .str, rfl, hs, .str _ (by omega), ?_⟩
          rw [nodup_take nm.2 hz]
          refine ⟨_, rfl, iteF ?_⟩
          exact ⟨fun _ _ h => e5 _ _ (e4 _ _ (e3 _ _ (e2 _ _ h))), lt, _, _, rfl⟩
        · have ei : i = zs.length := by omega
          rcases hc with ⟨t0, k⟩ | ⟨x, rest, g, et, d, w, f⟩
          · rw [t0] at lx
            simp at lx
            omega
          · rw [ex, List.getElem?_append_right (by rw [List.length_map]; omega), List.length_map, ei, Nat.sub_self, et] at hy
            have ey : x = y := Option.some.inj hy
            subst ey
            refine ⟨_, rfl, x, g, rfl, d.ex e03, fun H4 e4 => ?_⟩
            have f4 := (f.ex e03).ex e4
            rw [← ei] at f4
            cases hn : nameV x with
            | false => exact ⟨_, rfl, iteT ⟨_, rfl, err2 f4⟩⟩
            | true =>
              obtain ⟨z, mz, rfl⟩ : ∃ z ∈ zs, x = .str z := by
                rcases w with w | w
                · rw [w] at hn; cases hn
                · exact w
              refine ⟨_, rfl, iteF ?_⟩
              refine ⟨_, rfl, take_seq rfl rfl (S3.ex e4) (by rw [lx, et, List.length_cons]; omega) fun q H5 e5 S5 => ?_⟩
              rw [ex, take_strs iz] at S5
              obtain ⟨a, ea, hs⟩ := S5.of (K := K)
              cases ea
              have lz := nameB_len (nm.1 z mz)
              refine ⟨q, zs.take i, .str, rfl, hs, .str _ (by omega), ?_⟩
              rw [show inS (.str z) (zs.take i) = true from List.any_eq_true.mpr ⟨z, by rw [ei, List.take_length]; exact mz, beq_self_eq_true _⟩]
              exact ⟨_, rfl, iteT ⟨_, rfl, err2 (f4.ex e5)⟩⟩
      · rintro σ' H2 ⟨e2, iz, o1, o2, rfl⟩
        rcases hc with ⟨t0, k⟩ | ⟨x, rest, g, et, d, w, f⟩
        · exact k _ fun _ _ h => e2 _ _ (e1 _ _ h)
        · rw [et, List.length_cons] at lx
          omega
theorem ok_check_covers (T : Tx K mg w) : FnOk P w K mg base (L2.CX P w) 5 T.f_check_covers.a T.f_check_covers.fd ["contents", "covers"] (spCheckCovs T.e_BadRing.C) := by
  refine T.f_check_covers.F.okX sc_check_covers (fun vs H Q E h => ?_) (fun cdv A outer s H vs Q E hr h => ?_)
  · obtain ⟨cp, v, ks, rfl, _⟩ := h
    rfl
  · obtain ⟨cp, v, ks, rfl, h0, k10, h⟩ := h
    refine ⟨_, (pss_cons (ps_if (PW.pt (pw_or (pt_not (pt_val (pe_callB call_isiT (by rfl) T.b_isinstance (by decide +kernel) (pa_cons (pv 1) (pa_cons (pe_tup (pa_cons (pe_bltn (v := .ty "list") (by rfl) T.b_list (by decide +kernel) rfl) (pa_cons (pe_bltn (v := .ty "tuple") (by rfl) T.b_tuple (by decide +kernel) rfl) pa_nil))) pa_nil))))) (pw_or1 (pt_not (pt_chain op_le op_le pe_int (pe_callB call_len_seq (by rfl) T.b_len (by decide +kernel) (pa_cons (pv 1) pa_nil)) (pe_glob (v := .int 3) (by rfl) T.c_MOST_RING_CHECKS.m ⟨_, rfl⟩)))))) (pss_one (ps_raise rfl (takes_of rfl rfl rfl rfl) (pmk_oex T.e_BadRing.er.made T.f_BadRing_init_.M.at_ (beq_iff_eq.mp T.f_BadRing_init_.M.fn) (ok_BadRing_init_ T) (hr.mono (by decide)) (bd_BadRing_init_ T) .nil pass0 (by rfl) T.e_BadRing.m (pa_cons pe_str (pa_cons pe_int pa_nil))))) pss_nil)
      (pss_cons (ps_set (i := 2) sc_check_covers.nd rfl (Or.inl rfl) (pe_callTy call_list_of (by rfl) T.b_list (by decide +kernel) (pa_cons (pv 0) pa_nil)))
      (pss_cons (ps_for (passes_of rfl) rfl (pi_or (pi_enum (by rfl) T.b_enumerate (pa_cons (pv 1) pa_nil)) (TzEnum.pi_enumT (by rfl) T.b_enumerate (pa_cons (pv 1) pa_nil))) (pg_tup rfl (pgs_cons (pg_name (i := 3) sc_check_covers.nd rfl (Or.inl rfl)) (pgs_cons (pg_name (i := 4) sc_check_covers.nd rfl (Or.inl rfl)) pgs_nil))) (pss_cons (ps_if (PW.pt (pw_or (pt_not (pt_val (pe_call (ok_is_pair T) (hr.mono (by decide)) (by rfl) T.f_is_pair.m T.f_is_pair.F.kp (bd_is_pair T) .nil pass0 (pa_cons (pv 4) pa_nil)))) (pw_or (pt_not (pt_val (pe_call (ok_is_name T) (hr.mono (by decide)) (by rfl) T.f_is_name.m T.f_is_name.F.kp (bd_is_name T) .nil pass0 (pa_cons (pe_ix ix_tup (pv 4) pe_int (fun _ _ => rfl)) pa_nil)))) (pw_or1 (pt_cmpR (op_inX hr.units) (pe_ix ix_tup (pv 4) pe_int (fun _ _ => rfl)) (pv 2) (by rfl)))))) (pss_one (ps_raise rfl (takes_of rfl rfl rfl rfl) (pmk_oex T.e_BadRing.er.made T.f_BadRing_init_.M.at_ (beq_iff_eq.mp T.f_BadRing_init_.M.fn) (ok_BadRing_init_ T) (hr.mono (by decide)) (bd_BadRing_init_ T) .nil pass0 (by rfl) T.e_BadRing.m (pa_cons pe_str (pa_cons (pv 3) pa_nil))))) pss_nil)
      (pss_one (ps_expr (pe_bm PySem.F.plainAttrs_list PySem.F.slot_list_append PySem.F.type_list_append mt_append (pv 2) (pa_cons (pe_ix ix_tup (pv 4) pe_int (fun _ _ => rfl)) pa_nil))))))
      (pss_one (ps_if (pt_cmpR op_gt (pe_callB call_len_seq (by rfl) T.b_len (by decide +kernel) (pa_cons (pv 2) pa_nil)) (pe_glob (v := .int 5) (by rfl) T.c_MOST_RING_NAMES.m ⟨_, rfl⟩) (nomark _)) (pss_one (ps_raise rfl (takes_of rfl rfl rfl rfl) (pmk_oex T.e_BadRing.er.made T.f_BadRing_init_.M.at_ (beq_iff_eq.mp T.f_BadRing_init_.M.fn) (ok_BadRing_init_ T) (hr.mono (by decide)) (bd_BadRing_init_ T) .nil pass0 (by rfl) T.e_BadRing.m (pa_cons pe_str (pa_cons (pe_callB call_len_seq (by rfl) T.b_len (by decide +kernel) (pa_cons (pv 2) pa_nil)) pa_nil))))) pss_nil))))), ?_⟩

    have go : ∀ {xs : List V}, SeqV H v xs → ∃ g, Th H v g ∧ (g.is "list" || g.is "tuple") = true := fun {xs} S => by
      rcases S.th with d | d
      · exact ⟨_, d, rfl⟩
      · exact ⟨_, d, rfl⟩
    rcases h with ⟨⟨g, d, n1, n2⟩ | ⟨xs, S, no⟩, f⟩ | ⟨rows, S, l1, l3, h⟩
    · skip
      refine ⟨_, rfl, by show 2 ≤ sizeLine; decide, fun z nz => ?_⟩
      obtain ⟨t, ty, ka⟩ := (d.ex (Ex.new nz)).tyAny (K := K)
      refine ⟨_, _, _, _, _, _, rfl, upd_same, .cons (.ty _) (.cons (.ty _) .nil), ty, ka, ?_⟩
      rw [n1, n2]
      refine ⟨_, rfl, iteT ?_⟩
      exact err2 (f.ex (Ex.new nz))
    · obtain ⟨g, d, gt⟩ := go S
      refine ⟨_, rfl, by show 2 ≤ sizeLine; decide, fun z nz => ?_⟩
      obtain ⟨t, ty, ka⟩ := (d.ex (Ex.new nz)).tyAny (K := K)
      refine ⟨_, _, _, _, _, _, rfl, upd_same, .cons (.ty _) (.cons (.ty _) .nil), ty, ka, ?_⟩
      rw [gt]
      refine ⟨_, rfl, iteF ?_⟩
      obtain ⟨a, rfl, hs⟩ := (S.ex (Ex.new nz)).of (K := K)
      refine ⟨_, rfl, a, xs, rfl, hs, _, _, rfl, rfl, _, rfl, ?_⟩
      by_cases q : 1 ≤ xs.length
      · refine iteD (by omega) ?_
        refine ⟨_, _, rfl, rfl, _, rfl, iteNn (by omega) ?_⟩
        exact err2 (f.ex (Ex.new nz))
      · refine iteN (by omega) ?_
        refine ⟨_, rfl, iteT ?_⟩
        exact err2 (f.ex (Ex.new nz))
    · obtain ⟨g, d, gt⟩ := go S
      refine ⟨_, rfl, by show 2 ≤ sizeLine; decide, fun z nz => ?_⟩
      obtain ⟨t, ty, ka⟩ := (d.ex (Ex.new nz)).tyAny (K := K)
      refine ⟨_, _, _, _, _, _, rfl, upd_same, .cons (.ty _) (.cons (.ty _) .nil), ty, ka, ?_⟩
      rw [gt]
      refine ⟨_, rfl, iteF ?_⟩
      obtain ⟨a, ea, hs⟩ := (S.ex (Ex.new nz)).of (K := K)
      refine ⟨_, rfl, a, rows, by rw [ea], hs, _, _, rfl, rfl, _, rfl, iteD (by omega) ?_⟩
      refine ⟨_, _, rfl, rfl, _, rfl, iteNd (by omega) ?_⟩
      clear ea hs a
      (generalize g_H1 : upd _ z _ = H1); have hz := gat g_H1; have e1 := gex g_H1 nz; clear g_H1
      obtain ⟨n, ls, ln, nr, good, hc⟩ : ∃ (n : Nat) (ls : List Str), ls.length = n ∧ n ≤ rows.length ∧ (∀ j, j < n → PRow H (ks ++ ls.take j) (rows.getD j .non) true ∧ ∃ a y, rows.getD j .non = .ref a ∧ H a = some (.tup [.str (ls.getD j ""), y])) ∧
          ((n = rows.length ∧ ((5 < ks.length + ls.length ∧ LayF T.e_BadRing.C "names" (.int ((ks.length + ls.length : Nat) : Int)) H E) ∨ (ks.length + ls.length ≤ 5 ∧ ∀ H', Ex H H' → Q .non H'))) ∨ (n < rows.length ∧ PRow H (ks ++ ls) (rows.getD n .non) false ∧ LayF T.e_BadRing.C "covers" (.int (n : Nat)) H E)) := by
        rcases h with ⟨at_, ⟨ls, l, lt, r, g⟩, f⟩ | ⟨ls, ⟨l, g⟩, k⟩
        · exact ⟨at_, ls, l, Nat.le_of_lt lt, g, .inr ⟨lt, r, f⟩⟩
        · exact ⟨rows.length, ls, l, Nat.le_refl _, g, .inl ⟨rfl, k⟩⟩
      refine ⟨_, rfl, cp, _, rfl, .inr (sqT (e1 _ _ h0)), fun kn nkn => ?_⟩
      have nk0 := back_none e1 nkn
      have e2 : Ex H (upd H1 kn (.lst (ks.map V.str))) := fun a o q => Ex.new nkn _ _ (e1 _ _ q)
      refine enum_seqB rfl S e2 fun J Wk => ?_
      refine for_it Wk (fun i σ' H' => Ex H H' ∧ i ≤ n ∧ H' kn = some (.lst ((ks ++ ls.take i).map V.str)) ∧ ∃ o1 o2, σ' = [some (.ref cp), some v, some (.ref kn), o1, o2]) ⟨e2, Nat.zero_le _, by rw [upd_same, List.take_zero, List.append_nil], _, _, rfl⟩ (fun i σ' H' _ h => h.1) ?_ ?_
      · rintro i u σ' H2 H3 hi ⟨e, iz, hk, o1, o2, rfl⟩ ⟨Tj, x, y, rfl, nT, rfl, hx, hy⟩
        dsimp only at hx hy
        cases hx
        have ey := getD_some hy
        have e3 := Ex.new (o := .tup [V.int (i : Nat), y]) nT
        have e03 : Ex H (upd H2 Tj (.tup [V.int (i : Nat), y])) := fun _ _ q => e3 _ _ (e _ _ q)
        have hk3 := e3 _ _ hk
        refine ⟨Tj, _, rfl, sqT upd_same, rfl, _, _, rfl, _, _, rfl, rfl, ?_⟩
        by_cases lt : i < n
        · obtain ⟨r, a, y2, ea, ha⟩ := good i lt
          rw [ey] at r ea
          subst ea
          have ha3 := e03 _ _ ha
          generalize eli : ls.getD i "" = li at ha ha3
          have rg : nameB li = true ∧ inS (.str li) (ks ++ ls.take i) = false := by
            cases r with
            | good h n o =>
              rw [ha] at h
              cases h
              exact ⟨n, o⟩
          have lz := nameB_len rg.1
          refine ⟨_, rfl, _, _, rfl, PairV.tup (xs := [_, _]) ha3, _, rfl, iteF ?_⟩
          refine ⟨_, rfl, a, _, 0, .str li, rfl, rfl, sqT ha3, atI_nat (j := 0) rfl, .str li, .str, rfl, .str li (by omega), fun H4 e4 => ?_⟩
          rw [show nameV (.str li) = true from rg.1]
          refine ⟨_, rfl, iteF ?_⟩
          have hk4 := e4 _ _ hk3
          have ha4 := e4 _ _ ha3
          refine ⟨_, rfl, a, _, 0, .str li, rfl, rfl, sqT ha4, atI_nat (j := 0) rfl, _, rfl, kn, _, .str, rfl, .inl (sq hk4), .str li (by omega), ?_⟩
          rw [rg.2]
          refine ⟨_, rfl, iteF ?_⟩
          refine ⟨_, rfl, .inl ⟨rfl, _, sq hk4⟩, _, rfl, a, _, 0, .str li, rfl, rfl, sqT ha4, atI_nat (j := 0) rfl, kn, _, _, rfl, rfl, hk4, ?_, Ex.keepD nk0 (fun _ _ q => e4 _ _ (e03 _ _ q)), lt, ?_, _, _, rfl⟩
          · rw [List.length_map, List.length_append, List.length_take]
            exact Nat.lt_of_le_of_lt (show _ ≤ 20 by omega) (by decide)
          · rw [upd_same, take_next (by omega), ← List.append_assoc, List.map_append (l₁ := ks ++ ls.take i), eli]
            rfl
        · have ei : i = n := by omega
          rcases hc with ⟨en, k⟩ | ⟨ln', r, f⟩
          · omega
          · rw [← ei, ey] at r
            rw [← ei] at f
            have ht : ls.take i = ls := List.take_of_length_le (by omega)
            rw [ht] at hk3
            have f3 := f.ex e03
            cases r with
            | no d n =>
              refine ⟨_, rfl, _, false, rfl, .no (d.ex e03) n, _, rfl, iteT ?_⟩
              exact ⟨_, rfl, err2 f3⟩
            | len h l =>
              refine ⟨_, rfl, _, _, rfl, .tup (e03 _ _ h), _, rfl, ?_⟩
              rw [decide_eq_false l]
              exact iteT ⟨_, rfl, err2 f3⟩
            | @label a x yy g h d n =>
              have h3 := e03 _ _ h
              refine ⟨_, rfl, _, _, rfl, PairV.tup (xs := [_, _]) h3, _, rfl, iteF ?_⟩
              refine ⟨_, rfl, a, _, 0, x, rfl, rfl, sqT h3, atI_nat (j := 0) rfl, x, g, rfl, d.ex e03, fun H4 e4 => ?_⟩
              cases hn : nameV x with
              | false => exact ⟨_, rfl, iteT ⟨_, rfl, err2 (f3.ex e4)⟩⟩
              | true =>
                have hi : inS x (ks ++ ls) = true := by
                  rcases n with n | n
                  · rw [n] at hn; cases hn
                  · exact n
                refine ⟨_, rfl, iteF ?_⟩
                refine ⟨_, rfl, a, _, 0, x, rfl, rfl, sqT (e4 _ _ h3), atI_nat (j := 0) rfl, _, rfl, kn, _, g, rfl, .inl (sq (e4 _ _ hk3)), (d.ex e03).ex e4, ?_⟩
                rw [hi]
                exact ⟨_, rfl, iteT ⟨_, rfl, err2 (f3.ex e4)⟩⟩
      · rintro σ' H2 ⟨e, iz, hk, o1, o2, rfl⟩
        rcases hc with ⟨en, k⟩ | ⟨lt, r, f⟩
        · rw [List.take_of_length_le (by omega)] at hk
          have el : (((ks ++ ls).map V.str).length : Int) = ((ks.length + ls.length : Nat) : Int) := by rw [List.length_map, List.length_append]
          refine ⟨_, rfl, kn, _, rfl, .inl (sq hk), _, _, rfl, rfl, _, rfl, ?_⟩
          rcases k with ⟨g5, f⟩ | ⟨l5, k⟩
          · refine iteD (by rw [el]; omega) ?_
            refine ⟨_, rfl, kn, _, rfl, .inl (sq hk), ?_⟩
            rw [el]
            exact err2 (f.ex e)
          · exact iteN (by rw [el]; omega) (k _ e)
        · omega
theorem ok_check_totals (T : Tx K mg w) : FnOk P w K mg base (L2.CX P w) 6 T.f_check_totals.a T.f_check_totals.fd ["ring"] (spCheckTot T.k_Ring.C T.e_BadRing.C) := by
  refine T.f_check_totals.F.okX sc_check_totals (fun vs H Q E h => ?_) (fun cdv A outer s H vs Q E hr h => ?_)
  · obtain ⟨p, cp, vp, kp, ol, ks, cs, rows, covs, rfl, _⟩ := h
    rfl
  · obtain ⟨p, cp, vp, kp, ol, ks, cs, rows, covs, rfl, R, hc, hk, hv, CV, kne, cne, k10, c10, h⟩ := h
    refine ⟨_, (pss_one (ps_for (passes_of rfl) rfl (TzEnum.pi_enumT (by rfl) T.b_enumerate (pa_cons (pe_fld (pv 0) rfl) pa_nil)) (pg_tup rfl (pgs_cons (pg_name (i := 1) sc_check_totals.nd rfl (Or.inl rfl)) (pgs_cons (pg_name (i := 2) sc_check_totals.nd rfl (Or.inl rfl)) pgs_nil))) (pss_one (ps_if (pt_not (pt_val (pe_call (ok_is_cover T) (hr.mono (by decide)) (by rfl) T.f_is_cover.m T.f_is_cover.F.kp (bd_is_cover T) .nil pass0 (pa_cons (pe_ix ix_tup (pv 2) pe_int (fun _ _ => rfl)) (pa_cons (pe_op op_catT (pe_fld (pv 0) rfl) (pe_fld (pv 0) rfl)) pa_nil))))) (pss_one (ps_raise rfl (takes_of rfl rfl rfl rfl) (pmk_oex T.e_BadRing.er.made T.f_BadRing_init_.M.at_ (beq_iff_eq.mp T.f_BadRing_init_.M.fn) (ok_BadRing_init_ T) (hr.mono (by decide)) (bd_BadRing_init_ T) .nil pass0 (by rfl) T.e_BadRing.m (pa_cons pe_str (pa_cons (pv 1) pa_nil))))) pss_nil)))), ?_⟩

    obtain ⟨dx, fs, hp, fc, fv, fk⟩ := id R.ex
    obtain ⟨n, nr, good, hh⟩ : ∃ n : Nat, n ≤ rows.length ∧ (∀ j, j < n → CoverK H (ks ++ cs) (covs.getD j .non) true) ∧ ((n = rows.length ∧ ∀ H', Ex H H' → Q .non H') ∨ (n < rows.length ∧ CoverK H (ks ++ cs) (covs.getD n .non) false ∧ LayF T.e_BadRing.C "total" (.int (n : Nat)) H E)) := by
      rcases h with ⟨at_, lt, g, b, f⟩ | ⟨g, k⟩
      · exact ⟨at_, Nat.le_of_lt lt, g, .inr ⟨lt, b, f⟩⟩
      · exact ⟨rows.length, Nat.le_refl _, g, .inl ⟨rfl, k⟩⟩
    refine ⟨_, rfl, p, _, dx, _, _, rfl, hp, T.k_Ring.cl, T.n_Ring_covers, fv, vp, rows, rfl, sqT hv, ?_⟩
    refine for_it (TzEnum.walkT (K := K) (a := vp) (xs := rows)) (fun i σ' H' => Ex H H' ∧ i ≤ n ∧ ∃ o1 o2, σ' = [some (.ref p), o1, o2]) ⟨Ex.refl H, Nat.zero_le _, _, _, rfl⟩ (fun i σ' H' _ h => sqT (h.1 _ _ hv)) ?_ ?_
    · rintro i u σ' H2 H3 hi ⟨e, iz, o1, o2, rfl⟩ ⟨Tj, x, y, rfl, nT, rfl, hx, hy⟩
      dsimp only at hx hy
      cases hx
      have ey := getD_some hy
      have e3 := Ex.new (o := .tup [V.int (i : Nat), y]) nT
      have e03 : Ex H (upd H2 Tj (.tup [V.int (i : Nat), y])) := fun _ _ q => e3 _ _ (e _ _ q)
      refine ⟨Tj, _, rfl, sqT upd_same, rfl, _, _, rfl, _, _, rfl, rfl, ?_⟩
      have cr := CV.2.2 i hi
      rw [ey] at cr
      generalize evi : covs.getD i .non = vi at cr
      cases cr with
      | mk hr =>
        refine ⟨_, rfl, _, _, 1, _, rfl, rfl, sqT (e03 _ _ hr), atI_nat (j := 1) rfl, _, rfl, p, _, dx, _, _, rfl, e03 _ _ hp, T.k_Ring.cl, T.n_Ring_contents, fc, _, rfl, p, _, dx, _, _, rfl, e03 _ _ hp, T.k_Ring.cl, T.n_Ring_checks, fk, ?_⟩
        refine ⟨cp, kp, _, _, rfl, rfl, sqT (e03 _ _ hc), (hk.ex e03).sq, fun z => kne (List.map_eq_nil_iff.mp z), le_line (show _ ≤ 20 by rw [List.length_map, List.length_map]; omega) (by decide), fun z => absurd (List.map_eq_nil_iff.mp z) cne, fun _ q nq => ?_⟩
        (generalize g_H4 : upd _ q _ = H4); have hq := gat g_H4; have e4 := gex g_H4 nq; clear g_H4
        rw [← List.map_append] at hq
        have e04 : Ex H H4 := fun _ _ q => e4 _ _ (e03 _ _ q)
        by_cases lt : i < n
        · have g := good i lt
          rw [evi] at g
          refine ⟨_, q, _, true, rfl, sqT hq, g.ex e04, fun H5 e5 => ?_⟩
          refine ⟨_, rfl, iteF ?_⟩
          exact ⟨fun _ _ q => e5 _ _ (e04 _ _ q), lt, _, _, rfl⟩
        · have ei : i = n := by omega
          rcases hh with ⟨en, k⟩ | ⟨ln', b, f⟩
          · omega
          · rw [← ei, evi] at b
            rw [← ei] at f
            refine ⟨_, q, _, false, rfl, sqT hq, b.ex e04, fun H5 e5 => ?_⟩
            exact ⟨_, rfl, iteT ⟨_, rfl, err2 ((f.ex e04).ex e5)⟩⟩
    · rintro σ' H2 ⟨e, iz, o1, o2, rfl⟩
      rcases hh with ⟨en, k⟩ | ⟨lt, b, f⟩
      · exact k _ e
      · omega
theorem ok_check_summed (T : Tx K mg w) : FnOk P w K mg base (L2.CX P w) 4 T.f_check_summed.a T.f_check_summed.fd ["summed", "checks"] (spCheckSum K T.e_BadRing.C) := by
  refine T.f_check_summed.F.okX sc_check_summed (fun vs H Q E h => ?_) (fun cdv A outer s H vs Q E hr h => ?_)
  · obtain ⟨v, kp, cs, rfl, _⟩ := h
    rfl
  · obtain ⟨v, kp, cs, rfl, hk, h⟩ := h
    refine ⟨_, (pss_cons (ps_if (pt_not (pt_val (pe_callB call_isi (by rfl) T.b_isinstance (by decide +kernel) (pa_cons (pv 0) (pa_cons (pe_bltn (v := .ty "tuple") (by rfl) T.b_tuple (by decide +kernel) rfl) pa_nil))))) (pss_one (ps_raise rfl (takes_of rfl rfl rfl rfl) (pmk_oex T.e_BadRing.er.made T.f_BadRing_init_.M.at_ (beq_iff_eq.mp T.f_BadRing_init_.M.fn) (ok_BadRing_init_ T) (hr.mono (by decide)) (bd_BadRing_init_ T) .nil pass0 (by rfl) T.e_BadRing.m (pa_cons pe_str (pa_cons pe_int pa_nil))))) pss_nil)
      (pss_one (ps_for (passes_of rfl) rfl (pi_or (pi_enum (by rfl) T.b_enumerate (pa_cons (pv 0) pa_nil)) (TzEnum.pi_enumT (by rfl) T.b_enumerate (pa_cons (pv 0) pa_nil))) (pg_tup rfl (pgs_cons (pg_name (i := 2) sc_check_summed.nd rfl (Or.inl rfl)) (pgs_cons (pg_name (i := 3) sc_check_summed.nd rfl (Or.inl rfl)) pgs_nil))) (pss_one (ps_if (PW.pt (pw_or (pt_cmpR (op_notInX hr.units) (pv 3) (pv 1) (by rfl)) (pw_or1 (pt_cmpR (op_inX hr.units) (pv 3) (pe_orr (pe_slice sl_list (pv 0) po_none (po_some (pv 2))) (pe_slice sl_tup (pv 0) po_none (po_some (pv 2)))) (by rfl))))) (pss_one (ps_raise rfl (takes_of rfl rfl rfl rfl) (pmk_oex T.e_BadRing.er.made T.f_BadRing_init_.M.at_ (beq_iff_eq.mp T.f_BadRing_init_.M.fn) (ok_BadRing_init_ T) (hr.mono (by decide)) (bd_BadRing_init_ T) .nil pass0 (by rfl) T.e_BadRing.m (pa_cons pe_str (pa_cons (pv 2) pa_nil))))) pss_nil))))), ?_⟩

    rcases h with ⟨g, d, n, f⟩ | ⟨a0, xs, rfl, h0, l20, h⟩
    · obtain ⟨t, ty, kt⟩ := d.ty (K := K)
      refine ⟨_, rfl, _, _, _, _, _, rfl, .ty "tuple", ty, kt "tuple" (by decide), _, rfl, ?_⟩
      rw [n]
      exact iteT (err2 f)
    · obtain ⟨t, ty, kt⟩ := (Th.tup h0).ty (K := K)
      refine ⟨_, rfl, _, _, _, _, _, rfl, .ty "tuple", ty, kt "tuple" (by decide), _, rfl, iteF ?_⟩
      obtain ⟨zs, tail, ex, zc, nd, hc⟩ : ∃ (zs : List Str) (tail : List V), xs = zs.map V.str ++ tail ∧ (∀ z ∈ zs, z ∈ cs ∧ z.length ≤ 1000) ∧ zs.Nodup ∧ ((tail = [] ∧ ∀ H', Ex H H' → Q .non H') ∨ ∃ x rest g, tail = x :: rest ∧ Th H x g ∧ (inS x cs = false ∨ ∃ z ∈ zs, x = .str z) ∧ LayF T.e_BadRing.C "summed" (.int (zs.length : Nat)) H E) := by
        rcases h with ⟨zs, e, zc, nd, k⟩ | ⟨zs, x, rest, g, e, zc, nd, d, w, f⟩
        · exact ⟨zs, [], by rw [e, List.append_nil], zc, nd, .inl ⟨rfl, k⟩⟩
        · exact ⟨zs, x :: rest, e, zc, nd, .inr ⟨x, rest, g, rfl, d, w, f⟩⟩
      have lx : xs.length = zs.length + tail.length := by rw [ex, List.length_append, List.length_map]
      have S1 : SeqV H (.ref a0) xs := ⟨a0, rfl, .inr h0⟩
      refine enum_seq rfl S1 fun J W => ?_
      refine for_it W (fun i σ' H' => Ex H H' ∧ i ≤ zs.length ∧ ∃ o1 o2, σ' = [some (.ref a0), some (.ref kp), o1, o2]) ⟨fun _ _ h => h, Nat.zero_le _, _, _, rfl⟩ (fun i σ' H' _ h => h.1) ?_ ?_
      · rintro i w σ' H2 H3 hi ⟨e2, iz, o1, o2, rfl⟩ ⟨Tj, x, y, rfl, nT, rfl, hx, hy⟩
        dsimp only at hx hy
        cases hx
        have e3 := Ex.new (o := .tup [V.int (i : Nat), y]) nT
        have S3 := (S1.ex e2).ex e3
        have e03 : Ex H (upd H2 Tj (.tup [V.int (i : Nat), y])) := fun _ _ q => e3 _ _ (e2 _ _ q)
        have hk3 := sqT_ex hk e03
        refine ⟨Tj, _, rfl, sqT upd_same, rfl, _, _, rfl, _, _, rfl, rfl, ?_⟩
        by_cases lt : i < zs.length
        · have hz : zs[i]? = some zs[i] := List.getElem?_eq_getElem lt
          rw [ex, List.getElem?_append_left (by rw [List.length_map]; exact lt), List.getElem?_map, hz] at hy
          cases hy
          have mz := zc zs[i] (List.getElem_mem lt)
          refine ⟨_, rfl, _, rfl, kp, cs, .str, rfl, .inr hk3, .str _ mz.2, ?_⟩
          rw [inS_mem.mpr mz.1]
          refine ⟨_, rfl, iteF ?_⟩
          refine ⟨_, rfl, take_seq rfl rfl S3 (by omega) fun q H5 e5 S5 => ?_⟩
          rw [ex, take_strs iz] at S5
          obtain ⟨a, ea, hs⟩ := S5.of (K := K)
          cases ea
          refine ⟨q, zs.take i, .str, rfl, hs, .str _ mz.2, ?_⟩
          rw [nodup_take nd hz]
          refine ⟨_, rfl, iteF ?_⟩
          exact ⟨fun _ _ h => e5 _ _ (e03 _ _ h), lt, _, _, rfl⟩
        · have ei : i = zs.length := by omega
          rcases hc with ⟨t0, k⟩ | ⟨x, rest, g, et, d, w, f⟩
          · rw [t0] at lx
            simp at lx
            omega
          · rw [ex, List.getElem?_append_right (by rw [List.length_map]; omega), List.length_map, ei, Nat.sub_self, et] at hy
            have ey : x = y := Option.some.inj hy
            subst ey
            have f3 := f.ex e03
            rw [← ei] at f3
            refine ⟨_, rfl, _, rfl, kp, cs, g, rfl, .inr hk3, d.ex e03, ?_⟩
            cases hn : inS x cs with
            | false => exact ⟨_, rfl, iteT ⟨_, rfl, err2 f3⟩⟩
            | true =>
              obtain ⟨z, mz, rfl⟩ : ∃ z ∈ zs, x = .str z := by
                rcases w with w | w
                · rw [w] at hn; cases hn
                · exact w
              refine ⟨_, rfl, iteF ?_⟩
              refine ⟨_, rfl, take_seq rfl rfl S3 (by rw [lx, et, List.length_cons]; omega) fun q H5 e5 S5 => ?_⟩
              rw [ex, take_strs iz] at S5
              obtain ⟨a, ea, hs⟩ := S5.of (K := K)
              cases ea
              refine ⟨q, zs.take i, .str, rfl, hs, .str _ (zc z mz).2, ?_⟩
              rw [show inS (.str z) (zs.take i) = true from List.any_eq_true.mpr ⟨z, by rw [ei, List.take_length]; exact mz, beq_self_eq_true _⟩]
              exact ⟨_, rfl, iteT ⟨_, rfl, err2 (f3.ex e5)⟩⟩
      · rintro σ' H2 ⟨e2, iz, o1, o2, rfl⟩
        rcases hc with ⟨t0, k⟩ | ⟨x, rest, g, et, d, w, f⟩
        · exact k _ e2
        · rw [et, List.length_cons] at lx
          omega
theorem ok_cover_of (T : Tx K mg w) : FnOk P w K mg base CX0 1 T.f_cover_of.a T.f_cover_of.fd ["ring", "check"] (spCoverOf T.k_Ring.C) := by
  refine T.f_cover_of.F.ok sc_cover_of (fun vs H Q E h => ?_) (fun cdv A outer s H vs Q E hr h => ?_)
  · obtain ⟨p, kp, vp, ol, cs, rows, covs, j, z, rfl, _⟩ := h
    rfl
  · obtain ⟨p, kp, vp, ol, cs, rows, covs, j, z, rfl, R, lz, lx, k⟩ := h
    refine ⟨_, (pss_cons (ps_if (pt_cmpR (op_notInX hr.units) (pv 1) (pe_fld (pv 0) rfl) (by rfl)) (pss_one ps_never) pss_nil)
      (pss_one (ps_ret (pe_ix ix_tup (pe_ix ix_tup (pe_fld (pv 0) rfl) (pe_bmT PySem.F.slot_tuple_index PySem.F.type_tuple_index mt_tup_index (pe_fld (pv 0) rfl) (pa_cons (pv 1) pa_nil)) (fun _ _ => rfl)) pe_int (fun _ _ => rfl))))), ?_⟩

    obtain ⟨⟨dx, fs, hp, fv, fk, _⟩, hlf, hv, CV⟩ := R
    obtain ⟨hj, fst⟩ := lx
    have hl := hlf.sq (K := K)
    have jl : j < rows.length := by rw [← CV.1]; exact (List.getElem?_eq_some_iff.mp hj).1
    refine ⟨_, rfl, _, rfl, p, _, dx, _, _, rfl, hp, T.k_Ring.cl, T.n_Ring_checks, fk, kp, cs, .str, rfl, .inr hl, .str z lz, ?_⟩
    have hin : inS (.str z) cs = true := inS_mem.mpr (List.mem_of_getElem? hj)
    rw [hin]
    refine ⟨_, rfl, iteF ?_⟩
    have cr := CV.2.2 j jl
    have hr' : rows[j]? = some (rows.getD j .non) := by rw [List.getD_eq_getElem?_getD, List.getElem?_eq_getElem jl]; rfl
    generalize rows.getD j .non = rj at cr hr'
    generalize covs.getD j .non = cj at cr k
    cases cr with
    | mk hra =>
      refine ⟨_, rfl, p, _, dx, _, _, rfl, hp, T.k_Ring.cl, T.n_Ring_covers, fv, _, rfl, p, _, dx, _, _, rfl, hp, T.k_Ring.cl, T.n_Ring_checks, fk, ?_⟩
      exact ⟨⟨_, _, _, rfl, hlf⟩, _, rfl, kp, cs, z, j, rfl, rfl, hl, hj, fst, vp, rows, (j : Nat), _, rfl, rfl, sqT hv, atI_nat hr', _, _, 1, _, rfl, rfl, sqT hra, atI_nat (j := 1) rfl, k⟩
theorem ok_Ring_sum_of (T : Tx K mg w) : FnOk P w K mg base CX0 6 T.f_Ring_sum_of.a T.f_Ring_sum_of.fd ["self", "check"] (spSumOf T.k_Ring.C T.k_Formula.C) := by
  refine T.f_Ring_sum_of.F.ok sc_Ring_sum_of (fun vs H Q E h => ?_) (fun cdv A outer s H vs Q E hr h => ?_)
  · obtain ⟨p, kp, vp, ol, cs, rows, covs, j, z, L, rfl, _⟩ := h
    rfl
  · obtain ⟨p, kp, vp, ol, cs, rows, covs, j, z, L, rfl, R, lz, lx, GC, L1, L5, k⟩ := h
    refine ⟨_, (pss_cons (ps_asg (pe_lc (own := [("name", 6), ("times", 7)]) (g := gTup K 2 (gCons (gName 6) (gCons (gName 7) gNil))) (tt := tYes) (by rfl) sc_Ring_sum_of.nd (pi_tupK (K := K) rfl (pe_call (ok_cover_of T) (hr.mono (by decide)) (by rfl) T.f_cover_of.m T.f_cover_of.F.kp (bd_cover_of T) .nil pass0 (pa_cons (pv 0) (pa_cons (pv 1) pa_nil)))) (blkOk_by (own := [("name", 6), ("times", 7)]) (N := ["self", "check", "first", "others", "so_far", "part", "name", "times"]) (sc := defScope s_Ring_sum_of) (by decide +kernel)) (fun _ _ _ _ _ => pg_tup rfl (pgs_cons (pg_name (i := 6) sc_Ring_sum_of.nd rfl (Or.inl rfl)) (pgs_cons (pg_name (i := 7) sc_Ring_sum_of.nd rfl (Or.inl rfl)) pgs_nil))) (fun _ _ _ _ _ => pts_nil) (fun _ _ _ _ _ => (pe_ifExp (pt_cmpR op_eq (pv 7) pe_int (nomark _)) (pe_call (ok_named T) (hr.mono (by decide)) (by rfl) T.f_named.m T.f_named.F.kp (bd_named T) .nil pass0 (pa_cons (pv 6) pa_nil)) (pe_op (TzOwn.op_iown (ok_Formula_rmul_ T) (hr.mono (by decide)) T.f_Formula_rmul_.M (by decide +kernel) T.f_Formula_mul_.M (by decide +kernel) T.sf_Formula (bd_Formula_rmul_ T) pass0 (T.k_Formula.al.of_ "int" (by decide)) PySem.F.fills_int_mul PySem.F.slot_int_mul PySem.F.entry_int_mul (fun _ _ _ => PySem.F.args_int_mul_2 _ _) (fun n t x dx => TzOwn.int_mul_ins n t x _ dx)) (pv 7) (pe_call (ok_named T) (hr.mono (by decide)) (by rfl) T.f_named.m T.f_named.F.kp (bd_named T) .nil pass0 (pa_cons (pv 6) pa_nil)))))) (pg_star (by rfl) (pg_name (i := 2) sc_Ring_sum_of.nd rfl (Or.inl rfl)) (pg_name (i := 3) sc_Ring_sum_of.nd rfl (Or.inl rfl))))
      (pss_cons (ps_set (i := 4) sc_Ring_sum_of.nd rfl (Or.inl rfl) (pv 2))
      (pss_cons (ps_for PassesOwn.never rfl (pi_list (pv 3)) (pg_name (i := 5) sc_Ring_sum_of.nd rfl (Or.inl rfl)) (pss_one (ps_set (i := 4) sc_Ring_sum_of.nd rfl (Or.inl rfl) (pe_op (TzOwn.op_own (ok_Formula_add_ T) (hr.mono (by decide)) T.f_Formula_add_.M (by decide +kernel) T.sf_Formula (bd_Formula_add_ T) pass0) (pv 4) (pv 5)))))
      (pss_one (ps_ret (pv 4)))))), ?_⟩

    obtain ⟨qa, xs, zs, ts, eq, hq, l1, l2, l3, r, zn, tc⟩ := id GC.ex
    refine ⟨_, rfl, _, rfl, p, kp, vp, ol, cs, rows, covs, j, z, rfl, R, lz, lx, ?_⟩
    rw [eq]
    refine ⟨qa, rfl, ⟨_, sqT hq⟩, fun D nD => ?_⟩
    refine lc_it (walk_tup (K := K) (a := qa) (xs := xs)) (fun i H' => Ex H H' ∧ ∃ as : List Addr, as.length = i ∧ H' D = some (.lst (as.map V.ref)) ∧ ∀ a ∈ as, FoN T.k_Formula.C H' a 2 14) ⟨Ex.new nD, [], rfl, upd_same, fun _ h => nomatch h⟩ (fun i H' _ h => sqT (h.1 _ _ hq)) ?_ ?_
    · rintro i x H2 H3 hi ⟨e, as, la, hD, fa⟩ ⟨rfl, hx⟩
      have cr := r i (by omega)
      rw [getD_some hx] at cr
      have hz := zn _ (getD_memS (l := zs) (j := i) (by omega))
      have hc := tc _ (getD_memI (l := ts) (j := i) (by omega))
      generalize zs.getD i "" = zi at cr hz
      generalize ts.getD i 0 = ci at cr hc
      have put : ∀ a H4, Ex H3 H4 → FoN T.k_Formula.C H4 a 2 14 → ∃ acc, H4 D = some (.lst acc) ∧ acc.length < sizeLine ∧ Ex H (upd H4 D (.lst (acc ++ [.ref a]))) ∧ ∃ as : List Addr, as.length = i + 1 ∧ upd H4 D (.lst (acc ++ [.ref a])) D = some (.lst (as.map V.ref)) ∧ ∀ b ∈ as, FoN T.k_Formula.C (upd H4 D (.lst (acc ++ [.ref a]))) b 2 14 := fun a H4 e4 F => by
        have hD4 := e4 _ _ hD
        refine ⟨_, hD4, by rw [List.length_map, la]; exact Nat.lt_of_le_of_lt (show i ≤ 20 by omega) (by decide), Ex.keepD nD (fun _ _ q => e4 _ _ (e _ _ q)), as ++ [a], by rw [List.length_append, la]; rfl, by rw [upd_same, List.map_append]; rfl, fun c hc => ?_⟩
        rcases List.mem_append.mp hc with hc | hc
        · exact ((fa c hc).ex e4).updD hD4
        · rw [List.mem_singleton.mp hc]
          exact F.updD hD4
      cases cr with
      | mk hr =>
        refine ⟨_, _, rfl, sqT (e _ _ hr), rfl, _, _, rfl, _, _, rfl, rfl, rfl, yes_go ?_⟩
        refine ⟨_, rfl, rfl, _, rfl, ite2 (fun q => ?_) (fun q => ?_)⟩
        · exact ⟨_, rfl, zi, rfl, hz, fun a H4 e4 F => put a H4 e4 (F.mono (by decide) (by decide))⟩
        · refine ⟨_, rfl, _, rfl, zi, rfl, hz, fun a H4 e4 F => ?_⟩
          obtain ⟨fdx, ffs, ha⟩ := F.ins
          exact ⟨a, ci, fdx, ffs, rfl, rfl, ha, ci, a, 1, 6, rfl, hc.1, hc.2, F, by decide, by decide, fun a' H5 e5 F' => put a' H5 (fun _ _ q => e5 _ _ (e4 _ _ q)) F'⟩
    rintro H2 ⟨e2, as, la, hD, fa⟩
    cases as with
    | nil =>
      have : xs.length = 0 := la.symm
      omega
    | cons a0 as =>
      have la : as.length + 1 = xs.length := la
      refine ⟨D, .ref a0, as.map V.ref, rfl, sq hD, by rw [List.length_map]; omega, fun q nq => ?_⟩
      (generalize g_H3 : upd _ q _ = H3); have hq3 := gat g_H3; have e3 := gex g_H3 nq; clear g_H3
      refine ⟨_, rfl, ?_⟩
      have e03 : Ex H H3 := fun _ _ x => e3 _ _ (e2 _ _ x)
      have F0 := (fa a0 List.mem_cons_self).ex e3
      have Fs : ∀ c ∈ as, FoN T.k_Formula.C H3 c 2 14 := fun c hc => (fa c (List.mem_cons_of_mem _ hc)).ex e3
      refine ⟨_, rfl, q, rfl, ⟨_, sq hq3⟩, for_it (walk_list (K := K) (a := q) (xs := as.map V.ref)) (fun i σ' H' => Ex H3 H' ∧ ∃ a o1 o2 o3, FoN T.k_Formula.C H' a (2 + 3 * i) (14 + 22 * i) ∧ σ' = [some (.ref p), some (.str z), some (.ref a0), some (.ref q), some (.ref a), o1, o2, o3]) ⟨fun _ _ x => x, a0, _, _, _, F0, rfl⟩ (fun i σ' H' _ h => sq (h.1 _ _ hq3)) ?_ ?_⟩
      · rintro i x σ' H4 H5 hi ⟨e, a, o1, o2, o3, Fa, rfl⟩ ⟨rfl, hx⟩
        rw [List.length_map] at hi
        obtain ⟨c, hc, rfl⟩ := List.mem_map.mp (List.mem_of_getElem? hx)
        have Fc := (Fs c hc).ex e
        obtain ⟨dxa, fsa, ha⟩ := Fa.ins
        obtain ⟨dxc, fsc, hcc⟩ := Fc.ins
        refine ⟨_, rfl, _, rfl, a, c, dxa, dxc, _, _, rfl, rfl, ha, hcc, a, _, _, c, _, _, rfl, Fa, Fc, by omega, by omega, by omega, fun r H6 e6 Fr => ?_⟩
        exact ⟨fun _ _ x => e6 _ _ (e _ _ x), r, _, _, _, Fr.mono (by omega) (by omega), rfl⟩
      · rintro σ' H4 ⟨e, a, o1, o2, o3, Fa, rfl⟩
        rw [List.length_map] at Fa
        exact ⟨_, rfl, k a H4 (fun _ _ x => e _ _ (e03 _ _ x)) (Fa.mono (by omega) (by omega))⟩
theorem ok_Ring_wish (T : Tx K mg w) : FnOk P w K mg base CX0 7 T.f_Ring_wish.a T.f_Ring_wish.fd ["self", "check"] (spWish T.k_Ring.C T.k_Formula.C T.k_Saying.C) := by
  refine T.f_Ring_wish.F.ok sc_Ring_wish (fun vs H Q E h => ?_) (fun cdv A outer s H vs Q E hr h => ?_)
  · obtain ⟨p, kp, vp, ol, cs, rows, covs, j, z, L, mp, ms, rfl, _⟩ := h
    rfl
  · obtain ⟨p, kp, vp, ol, cs, rows, covs, j, z, L, mp, ms, rfl, R, RS, hm, nz, lx, GC, L1, L5, k⟩ := h
    refine ⟨_, (pss_cons (ps_set (i := 2) sc_Ring_wish.nd rfl (Or.inl rfl) (pe_meth (pv 0) T.k_Ring.cl T.f_Ring_sum_of.M (ok_Ring_sum_of T) (hr.mono (by decide)) (bd_Ring_sum_of T) .nil pass0 (pa_cons (pv 1) pa_nil)))
      (pss_one (ps_ret (pe_ifExp (pt_cmpR (op_inX hr.units) (pv 1) (pe_fld (pv 0) rfl) (by rfl)) (pe_call (ok_is_full T) (hr.mono (by decide)) (by rfl) T.f_is_full.m T.f_is_full.F.kp (bd_is_full T) .nil pass0 (pa_cons (pe_op (TzOwn.op_own (ok_Formula_add_ T) (hr.mono (by decide)) T.f_Formula_add_.M (by decide +kernel) T.sf_Formula (bd_Formula_add_ T) pass0) (pv 2) (pe_call (ok_named T) (hr.mono (by decide)) (by rfl) T.f_named.m T.f_named.F.kp (bd_named T) .nil pass0 (pa_cons (pv 1) pa_nil))) pa_nil)) (pe_call (ok_same T) (hr.mono (by decide)) (by rfl) T.f_same.m T.f_same.F.kp (bd_same T) .nil pass0 (pa_cons (pe_call (ok_named T) (hr.mono (by decide)) (by rfl) T.f_named.m T.f_named.F.kp (bd_named T) .nil pass0 (pa_cons (pv 1) pa_nil)) (pa_cons (pe_un (TzOwn.un_inv_own (ok_Formula_invert_ T) (hr.mono (by decide)) T.f_Formula_invert_.M rfl (bd_Formula_invert_ T) pass0) (pv 2)) pa_nil))))))), ?_⟩

    have lz : z.length ≤ 1000 := by have := nameB_len nz; omega
    obtain ⟨dx, fs, hp, fv, fk, fo, fw⟩ := id R.ex
    refine ⟨_, rfl, p, dx, fs, rfl, hp, fo, _, rfl, p, kp, vp, ol, cs, rows, covs, j, z, L, rfl, R, lz, lx, GC, L1, L5, fun c H1 e1 F => ?_⟩
    obtain ⟨dx2, fs2, hp2, fm⟩ := RS
    refine ⟨_, rfl, _, rfl, p, _, dx2, _, _, rfl, e1 _ _ hp2, T.k_Ring.cl, T.n_Ring_summed, fm, mp, ms, .str, rfl, .inr (sqT (e1 _ _ hm)), .str z lz, ?_⟩
    refine ⟨_, rfl, ite2 (fun q => ?_) (fun q => ?_)⟩
    · refine ⟨_, rfl, _, rfl, z, rfl, nz, fun a1 H2 e2 F1 => ?_⟩
      have F2 := F.ex e2
      obtain ⟨dxa, fsa, ha⟩ := F2.ins
      obtain ⟨dxc, fsc, hc⟩ := F1.ins
      refine ⟨c, a1, dxa, dxc, _, _, rfl, rfl, ha, hc, c, _, _, a1, _, _, rfl, F2, F1, by omega, by omega, by omega, fun r H3 e3 Fr => ?_⟩
      refine ⟨r, 3 * L + 1 + 1, rfl, Fr.mono (Nat.le_refl _) (by omega), by omega, by omega, fun a H4 e4 S => ?_⟩
      rw [show 1 + (3 * L + 1 + 1) = 3 * L + 3 by omega] at S
      exact k a H4 (fun _ _ o => e4 _ _ (e3 _ _ (e2 _ _ (e1 _ _ o)))) S
    · refine ⟨_, rfl, z, rfl, nz, fun a1 H2 e2 F1 => ?_⟩
      have F2 := F.ex e2
      obtain ⟨dxa, fsa, ha⟩ := F2.ins
      refine ⟨_, rfl, c, dxa, fsa, rfl, ha, c, _, _, rfl, F2, by omega, by omega, fun r H3 e3 Fr => ?_⟩
      refine ⟨a1, 1, r, 3 * L + 1, rfl, (F1.ex e3).mono (Nat.le_refl _) (by omega), Fr.mono (Nat.le_refl _) (by omega), by omega, by omega, by omega, fun a H4 e4 S => ?_⟩
      rw [show 1 + (1 + (3 * L + 1)) = 3 * L + 3 by omega] at S
      exact k a H4 (fun _ _ o => e4 _ _ (e3 _ _ (e2 _ _ (e1 _ _ o)))) S
theorem ok_found_layers (T : Tx K mg w) : FnOk P w K mg base CX0 4 T.f_found_layers.a T.f_found_layers.fd ["ring"] (spLayers T.k_Ring.C) := by
  refine T.f_found_layers.F.ok sc_found_layers (fun vs H Q E h => ?_) (fun cdv A outer s H vs Q E hr h => ?_)
  · obtain ⟨p, kp, vp, ol, cs, rows, covs, rfl, _⟩ := h
    rfl
  · obtain ⟨p, kp, vp, ol, cs, rows, covs, rfl, R, nd, cne, c10, cl, lo, k⟩ := h
    refine ⟨_, (pss_cons (ps_set (i := 1) sc_found_layers.nd rfl (Or.inl rfl) (pe_lst pa_nil))
      (pss_cons (ps_set (i := 2) sc_found_layers.nd rfl (Or.inr rfl) (pe_fld (pv 0) rfl))
      (pss_cons (ps_while PassesOwn.never (pt_truth (pv 2) (by intro _; rfl)) (pss_cons (ps_set (i := 3) sc_found_layers.nd rfl (Or.inr rfl) (pe_lc (own := [("check", 4)]) (g := gName 4) (by rfl) sc_found_layers.nd (pi_tupK (K := K) rfl (pv 2)) (blkOk_by (own := [("check", 4)]) (N := ["ring", "layers", "left", "layer", "check", "name", "_"]) (sc := defScope s_found_layers) (by decide +kernel)) (fun _ _ _ _ _ => pg_name (i := 4) sc_found_layers.nd rfl (Or.inl rfl)) (fun _ _ _ _ _ => (pts_one (pt_not (pt_truthK (K := K) rfl (pe_lc (own := [("name", 5), ("_", 6)]) (g := gTup K 2 (gCons (gName 5) (gCons (gName 6) gNil))) (by rfl) sc_found_layers.nd (pi_tupK (K := K) rfl (pe_call (ok_cover_of T) (hr.mono (by decide)) (by rfl) T.f_cover_of.m T.f_cover_of.F.kp (bd_cover_of T) .nil pass0 (pa_cons (pv 0) (pa_cons (pv 4) pa_nil)))) (blkOk_by (own := [("name", 5), ("_", 6)]) (by rfl)) (fun _ _ _ _ _ => pg_tup rfl (pgs_cons (pg_name (i := 5) sc_found_layers.nd rfl (Or.inl rfl)) (pgs_cons (pg_name (i := 6) sc_found_layers.nd rfl (Or.inl rfl)) pgs_nil))) (fun _ _ _ _ _ => (pts_one (pt_cmpR (op_inXK (K := K) rfl hr.units) (pv 5) (pv 2) (by rfl)))) (fun _ _ _ _ _ => (pv 5))) (by intro _; rfl))))) (fun _ _ _ _ _ => (pv 4))))
      (pss_cons (ps_if (pt_not (pt_truth (pv 3) (by intro _; rfl))) (pss_one (ps_ret pe_non)) pss_nil)
      (pss_cons (ps_expr (pe_bm PySem.F.plainAttrs_list PySem.F.slot_list_append PySem.F.type_list_append mt_append (pv 1) (pa_cons (pe_callTy call_tuple_of (by rfl) T.b_tuple (by decide +kernel) (pa_cons (pv 3) pa_nil)) pa_nil)))
      (pss_one (ps_set (i := 2) sc_found_layers.nd rfl (Or.inr rfl) (pe_callTy call_tuple_of (by rfl) T.b_tuple (by decide +kernel) (pa_cons (pe_lc (own := [("check", 4)]) (g := gName 4) (by rfl) sc_found_layers.nd (pi_tupK (K := K) rfl (pv 2)) (blkOk_by (own := [("check", 4)]) (N := ["ring", "layers", "left", "layer", "check", "name", "_"]) (sc := defScope s_found_layers) (by decide +kernel)) (fun _ _ _ _ _ => pg_name (i := 4) sc_found_layers.nd rfl (Or.inl rfl)) (fun _ _ _ _ _ => (pts_one (pt_cmpR (op_notInXK (K := K) rfl hr.units) (pv 4) (pv 3) (by rfl)))) (fun _ _ _ _ _ => (pv 4))) pa_nil))))))))
      (pss_one (ps_ret (pe_callTy call_tuple_of (by rfl) T.b_tuple (by decide +kernel) (pa_cons (pv 1) pa_nil))))))), ?_⟩

    obtain ⟨dx, fs, hp, fv, fk, _⟩ := id R.ex
    refine ⟨by decide, fun y ny => ?_⟩
    (generalize g_H1 : upd _ y _ = H1); have hy := gat g_H1; have e1 := gex g_H1 ny; clear g_H1
    have R1 := R.mono e1
    refine ⟨_, rfl, p, _, dx, _, _, rfl, e1 _ _ hp, T.k_Ring.cl, T.n_Ring_checks, fk, ?_⟩
    refine ⟨fun m σ' H' => m = 0 ∧ H' = H1 ∧ σ' = [some (.ref p), some (.ref y), some (.ref kp), none, none, none, none], ⟨0, rfl, rfl, rfl⟩, ?_⟩
    rintro m σ' H' ⟨rfl, rfl, rfl⟩
    refine ⟨_, rfl, true, .inr (.inl ⟨_, R1.k.sq (K := K), by cases cs with | nil => exact absurd rfl cne | cons a b => rfl⟩), ?_⟩
    refine iteT ⟨fun _ _ => False, fun _ _ h => h.elim, ?_⟩
    refine ⟨_, rfl, kp, rfl, ⟨_, R1.k.sq⟩, fun D nD => ?_⟩
    refine lc_it (walk_tup (K := K) (a := kp) (xs := cs.map V.str)) (fun i H2 => Ex H' H2 ∧ H2 D = some (.lst [])) ⟨Ex.new nD, upd_same⟩ (fun i H2 _ h => (R1.mono h.1).k.sq) ?_ ?_
    · rintro i x H2 H3 hi ⟨e2, hD⟩ ⟨rfl, hx⟩
      rw [List.getElem?_map] at hx
      obtain ⟨c, hc, rfl⟩ := Option.map_eq_some_iff.mp hx
      have R2 := R1.mono e2
      have il : i < rows.length := by rw [← R.cv.1]; exact (List.getElem?_eq_some_iff.mp hc).1
      obtain ⟨a, xs, zs, ev, hq, lz, l10, r, z9, zz, hz, hzc⟩ := ((lo i il).mono e1).mono e2
      refine ⟨rfl, ?_⟩
      refine ⟨_, rfl, _, rfl, p, kp, vp, ol, cs, rows, covs, i, c, rfl, R2, cl c (List.mem_of_getElem? hc), lab_ix nd hc, ?_⟩
      rw [ev]
      refine ⟨a, rfl, ⟨_, sqT hq⟩, fun E' nE => ?_⟩
      refine lc_it (walk_tup (K := K) (a := a) (xs := xs)) (fun j H4 => Ex H3 H4 ∧ ∃ found : List V, H4 E' = some (.lst found) ∧ found.length ≤ j ∧ ((∃ m, m < j ∧ zs.getD m "" ∈ cs) → found ≠ [])) ⟨Ex.new nE, [], upd_same, Nat.le_refl _, fun ⟨m, h, _⟩ => absurd h (Nat.not_lt_zero _)⟩ (fun j H4 _ h => sqT (h.1 _ _ hq)) ?_ ?_
      · rintro j x H4 H5 hj ⟨e4, found, hE, lf, nf⟩ ⟨rfl, hx⟩
        obtain ⟨yv, cr⟩ := r j hj
        rw [getD_some hx] at cr
        have zm := getD_memS (l := zs) (j := j) (by omega)
        have zl := z9 _ zm
        generalize ezj : zs.getD j "" = zj at cr zl
        cases cr with
        | mk hr =>
          refine ⟨_, _, rfl, sqT (e4 _ _ hr), rfl, _, _, rfl, _, _, rfl, rfl, rfl, ?_⟩
          refine ⟨_, rfl, _, rfl, kp, cs, .str, rfl, .inr (R2.mono e4).k.sq, .str zj zl, ?_⟩
          show ∃ c, V.bl (inS (.str zj) cs) = V.bl c ∧ _
          cases hin : inS (.str zj) cs with
          | false =>
            refine ⟨_, rfl, iteF ⟨e4, found, hE, by omega, fun ⟨m, hm, q⟩ => ?_⟩⟩
            by_cases em : m = j
            · subst em
              rw [ezj] at q
              rw [inS_mem.mpr q] at hin
              cases hin
            · exact nf ⟨m, by omega, q⟩
          | true =>
            refine ⟨_, rfl, iteT ?_⟩
            exact ⟨_, rfl, _, hE, Nat.lt_of_le_of_lt (show found.length ≤ 20 by omega) (by decide), Ex.keepD nE e4, found ++ [.str zj], upd_same, by rw [List.length_append, List.length_singleton]; omega, fun _ => by simp⟩
      · rintro H4 ⟨e4, found, hE, lf, nf⟩
        have fne : found ≠ [] := by
          obtain ⟨m, hm, rfl⟩ := List.mem_iff_getElem.mp hz
          refine nf ⟨m, by omega, ?_⟩
          rw [List.getD_eq_getElem?_getD, List.getElem?_eq_getElem hm]
          exact hzc
        refine ⟨true, .inl ⟨_, sq hE, by cases found with | nil => exact absurd rfl fne | cons a b => rfl⟩, ?_⟩
        exact iteF ⟨fun _ _ q => e4 _ _ (e2 _ _ q), e4 _ _ hD⟩
    rintro H2 ⟨e2, hD⟩
    refine ⟨_, rfl, false, .inl ⟨[], sq hD, rfl⟩, iteT ?_⟩
    exact k _ fun _ _ q => e2 _ _ (e1 _ _ q)
theorem ok_Ring_init_ (T : Tx K mg w) : FnOk P w K mg base (L2.CX P w) 9 T.f_Ring_init_.a T.f_Ring_init_.fd ["self", "contents", "covers", "summed"] (spRingInit T.k_Ring.C T.e_BadRing.C) := by
  refine T.f_Ring_init_.F.okX sc_Ring_init_ (fun vs H Q E h => ?_) (fun cdv A outer s H vs Q E hr h => ?_)
  · obtain ⟨p, dx, cv, v, sv, H0, rfl, _⟩ := h
    rfl
  · obtain ⟨p, dx, cv, v, sv, H0, rfl, hp, np0, e0, h⟩ := h
    refine ⟨_, (pss_cons (ps_expr (pe_call (ok_check_contents T) (hr.mono (by decide)) (by rfl) T.f_check_contents.m T.f_check_contents.F.kp (bd_check_contents T) .nil (passes_call (takes_of rfl rfl rfl rfl) fun _ _ _ _ z => z) (pa_cons (pv 1) pa_nil)))
      (pss_cons (ps_expr (pe_call (ok_check_covers T) (hr.mono (by decide)) (by rfl) T.f_check_covers.m T.f_check_covers.F.kp (bd_check_covers T) .nil (passes_call (takes_of rfl rfl rfl rfl) fun _ _ _ _ z => z) (pa_cons (pv 1) (pa_cons (pv 2) pa_nil))))
      (pss_cons (ps_fld (pv 0) (pv 1) rfl)
      (pss_cons (ps_fld (pv 0) (pe_wk (t' := tTupS 2) (pe_callTy call_tuple_of (by rfl) T.b_tuple (by decide +kernel) (pa_cons (pv 2) pa_nil)) (fun σ H Q h => (tTupS.to (K := K) h))) rfl)
      (pss_cons (ps_fld (pv 0) (pe_callTy call_tuple_fz (by rfl) T.b_tuple (by decide +kernel) (pa_cons (pe_lc (own := [("check", 5), ("_", 6)]) (g := gTup K 2 (gCons (gName 5) (gCons (gName 6) gNil))) (tt := tYes) (by rfl) sc_Ring_init_.nd (pi_tupK (K := K) rfl (pe_fldK (K := K) rfl (pv 0) rfl)) (blkOk_by (own := [("check", 5), ("_", 6)]) (N := ["self", "contents", "covers", "summed", "wishes", "check", "_"]) (sc := defScope s_Ring_init_) (by decide +kernel)) (fun _ _ _ _ _ => pg_tup rfl (pgs_cons (pg_name (i := 5) sc_Ring_init_.nd rfl (Or.inl rfl)) (pgs_cons (pg_name (i := 6) sc_Ring_init_.nd rfl (Or.inl rfl)) pgs_nil))) (fun _ _ _ _ _ => pts_nil) (fun _ _ _ _ _ => (pv 5))) pa_nil)) rfl)
      (pss_cons (ps_expr (pe_call (ok_check_totals T) (hr.mono (by decide)) (by rfl) T.f_check_totals.m T.f_check_totals.F.kp (bd_check_totals T) .nil (passes_call (takes_of rfl rfl rfl rfl) fun _ _ _ _ z => z) (pa_cons (pv 0) pa_nil)))
      (pss_cons (ps_expr (pe_call (ok_check_summed T) (hr.mono (by decide)) (by rfl) T.f_check_summed.m T.f_check_summed.F.kp (bd_check_summed T) .nil (passes_call (takes_of rfl rfl rfl rfl) fun _ _ _ _ z => z) (pa_cons (pv 3) (pa_cons (pe_fld (pv 0) rfl) pa_nil))))
      (pss_cons (ps_fld (pv 0) (pv 3) rfl)
      (pss_cons (ps_setLc (i := 4) (own := [("check", 5)]) (g := gName 5) (tt := tYes) rfl sc_Ring_init_.nd rfl rfl (sw_true rfl rfl rfl (by decide +kernel)) (pi_tupK (K := K) rfl (pe_fldK (K := K) rfl (pv 0) rfl)) (blkOk_by (own := [("check", 5)]) (N := ["self", "contents", "covers", "summed", "wishes", "check", "_"]) (sc := defScope s_Ring_init_) (by decide +kernel)) (fun _ _ _ _ _ => pg_name (i := 5) sc_Ring_init_.nd rfl (Or.inl rfl)) (fun _ _ _ _ _ => pts_nil) (fun _ _ _ _ _ => (pe_meth (pv 0) T.k_Ring.cl T.f_Ring_wish.M (ok_Ring_wish T) (hr.mono (by decide)) (bd_Ring_wish T) .nil pass0 (pa_cons (pv 5) pa_nil))))
      (pss_cons (ps_fld (pv 0) (StX.pe_callS1 (ok_all_of T) (hr.mono (by decide)) T.f_all_of.F.kp (by rfl) T.f_all_of.m pass0 (pv 4)) rfl)
      (pss_one (ps_fld (pv 0) (pe_call (ok_found_layers T) (hr.mono (by decide)) (by rfl) T.f_found_layers.m T.f_found_layers.F.kp (bd_found_layers T) .nil pass0 (pa_cons (pv 0) pa_nil)) rfl)))))))))))), ?_⟩

    rcases h with ⟨n, cb, f⟩ | ⟨ca, ks, rfl, hc, kne, knm, k10, h⟩
    · refine ⟨_, rfl, cv, rfl, ?_⟩
      rcases cb with ⟨g, d, ng, rfl⟩ | ⟨a, rfl, ha, rfl⟩ | ⟨a, zs, x, rest, g, rfl, ha, l20, nm, d, b, rfl⟩
      · exact .inl ⟨g, d.ex e0, ng, f.ex e0⟩
      · exact .inr (.inl ⟨a, rfl, e0 _ _ ha, f.ex e0⟩)
      · exact .inr (.inr ⟨a, _, rfl, e0 _ _ ha, by simp, by rw [List.length_append, List.length_map, List.length_cons]; omega, .inr ⟨zs, x, rest, g, rfl, nm, d.ex e0, b, f.ex e0⟩⟩)
    refine ⟨_, rfl, .ref ca, rfl, .inr (.inr ⟨ca, _, rfl, e0 _ _ hc, fun z => kne (List.map_eq_nil_iff.mp z), by rw [List.length_map]; omega, .inl ⟨ks, rfl, knm, fun H1 e1 => ?_⟩⟩)⟩
    have e01 : Ex H0 H1 := fun _ _ q => e1 _ _ (e0 _ _ q)
    have hp1 := e1 _ _ hp
    refine ⟨_, rfl, _, rfl, ca, v, ks, rfl, e01 _ _ hc, k10, ?_⟩
    rcases h with ⟨bm, f⟩ | ⟨rows, S, r1, r3, h⟩
    · exact .inl ⟨bm.ex e01, f.ex e01⟩
    refine .inr ⟨rows, S.ex e01, r1, r3, ?_⟩
    rcases h with ⟨n, cb, f⟩ | ⟨cs, covs, co, CV, h⟩
    · exact .inl ⟨n, cb.ex e01, f.ex e01⟩
    refine .inr ⟨cs, co.ex e01, ?_⟩
    rcases h with ⟨g5, f⟩ | ⟨l5, h⟩
    · exact .inl ⟨g5, f.ex e01⟩
    refine .inr ⟨l5, fun H2 e2 => ?_⟩
    have lcs : cs.length = rows.length := CV.1
    have cne : cs ≠ [] := fun z => by rw [z] at lcs; rw [← lcs] at r1; exact absurd r1 (by show ¬ (1 ≤ 0); omega)
    have e02 : Ex H0 H2 := fun _ _ q => e2 _ _ (e01 _ _ q)
    have hp2 := e2 _ _ hp1
    refine ⟨_, rfl, _, rfl, p, _, dx, _, rfl, hp2, T.k_Ring.cl, T.n_Ring_contents, by show 0 < 1000; decide, ?_⟩
    generalize g3 : upd H2 p _ = H3
    have hp3 := gat g3
    have e03 : Ex H0 H3 := by rw [← g3]; exact Ex.setP np0 e02
    clear g3
    refine ⟨v, rows, rfl, S.ex e03, fun q H4 e4 hq => ?_⟩
    have e04 : Ex H0 H4 := fun _ _ q => e4 _ _ (e03 _ _ q)
    have hp4 := e4 _ _ hp3
    have qp : q ≠ p := fun e => by rw [e, hp4] at hq; cases hq
    refine ⟨_, rfl, p, _, dx, _, rfl, hp4, T.k_Ring.cl, T.n_Ring_covers, by show 1 < 1000; decide, ?_⟩
    generalize g5' : upd H4 p _ = H5
    have hp5 := gat g5'
    have e05 : Ex H0 H5 := by rw [← g5']; exact Ex.setP np0 e04
    have hq5 : H5 q = some (.tup rows) := by rw [← g5', upd_ne qp]; exact hq
    clear g5'
    have CV5 := CV.ex e05
    refine ⟨_, rfl, p, _, dx, _, _, rfl, hp5, T.k_Ring.cl, T.n_Ring_covers, rfl, q, rfl, ⟨_, sqT hq5⟩, fun D nD => ?_⟩
    refine lc_vals (walk_tup (K := K) (a := q) (xs := rows)) (fun j => .str (cs.getD j "")) nD (by omega) (fun _ e => sqT (e _ _ hq5)) ?_ (fun H6 e6 hD => ?_)
    · rintro j x H7 H8 hj e ⟨rfl, hx⟩ R hR
      have cr := CV5.2.2 j hj
      rw [getD_some hx] at cr
      generalize cs.getD j "" = zj at cr hR
      generalize covs.getD j .non = vj at cr
      cases cr with
      | mk hr => exact ⟨_, _, rfl, sqT (e _ _ hr), rfl, _, _, rfl, _, _, rfl, rfl, rfl, _, rfl, hR _ _ rfl fun _ _ h => h⟩
    rw [cells_strs lcs] at hD
    have e06 : Ex H0 H6 := fun _ _ q => e6 _ _ (e05 _ _ q)
    have hp6 := e6 _ _ hp5
    refine ⟨D, _, rfl, sq hD, fun kp ol nkp od => ?_⟩
    have pk : p ≠ kp := fun e => by rw [← e, hp6] at nkp; cases nkp
    have e67 := Ex.new (o := .frz ol (.tup (cs.map V.str))) nkp
    refine ⟨_, rfl, p, _, dx, _, rfl, e67 _ _ hp6, T.k_Ring.cl, T.n_Ring_checks, by show 2 < 1000; decide, ?_⟩
    generalize g7 : upd _ p _ = H7
    have hp7 : H7 p = some (.ins T.k_Ring.C dx (rof1 ca q kp)) := gat g7
    have e07 : Ex H0 H7 := by rw [← g7]; exact Ex.setP np0 fun _ _ q => e67 _ _ (e06 _ _ q)
    have hq7 : H7 q = some (.tup rows) := by rw [← g7, upd_ne qp]; exact e67 _ _ (e6 _ _ hq5)
    have hk7 : TupF H7 kp ol (cs.map V.str) := ⟨od, by rw [← g7, upd_ne pk.symm]; exact upd_same⟩
    clear g7
    have CV7 := CV.ex e07
    have RG : RgAt T.k_Ring.C H7 p ca q kp := ⟨dx, _, hp7, rof1_contents, rof1_covers, rof1_checks⟩
    refine ⟨_, rfl, p, ca, q, kp, ol, ks, cs, rows, covs, rfl, RG, e07 _ _ hc, hk7, hq7, CV7, kne, cne, k10, by omega, ?_⟩
    rcases h with ⟨n, ⟨lt, gd, bd⟩, f⟩ | ⟨gd, h⟩
    · exact .inl ⟨n, by rw [← CV.2.1]; exact lt, fun j hj => (gd j hj).ex e07, bd.ex e07, f.ex e07⟩
    refine .inr ⟨fun j hj => (gd j hj).ex e07, fun H8 e8 => ?_⟩
    have e08 : Ex H0 H8 := fun _ _ q => e8 _ _ (e07 _ _ q)
    have hp8 := e8 _ _ hp7
    have hk8 := hk7.ex e8
    refine ⟨_, rfl, _, rfl, p, _, dx, _, _, rfl, hp8, T.k_Ring.cl, T.n_Ring_checks, rof1_checks, sv, kp, cs, rfl, hk8.sq, ?_⟩
    rcases h with ⟨n, sb, f⟩ | ⟨sa, ms, rfl, hs, m20, mc, mnd, r2, gcv, lpd, cnm, cnd, k⟩
    · rcases sb with ⟨g, d, ng, rfl⟩ | ⟨a, zs, x, rest, g, rfl, ha, l20, zc, nd, d, b, rfl⟩
      · exact .inl ⟨g, d.ex e08, ng, f.ex e08⟩
      · exact .inr ⟨a, _, rfl, e08 _ _ ha, by rw [List.length_append, List.length_map, List.length_cons]; omega, .inr ⟨zs, x, rest, g, rfl, zc, nd, d.ex e08, b, f.ex e08⟩⟩
    refine .inr ⟨sa, _, rfl, e08 _ _ hs, by rw [List.length_map]; exact m20, .inl ⟨ms, rfl, mc, mnd, fun H9 e9 => ?_⟩⟩
    have e09 : Ex H0 H9 := fun _ _ q => e9 _ _ (e08 _ _ q)
    have hp9 := e9 _ _ hp8
    refine ⟨_, rfl, _, rfl, p, _, dx, _, rfl, hp9, T.k_Ring.cl, T.n_Ring_summed, by show 3 < 1000; decide, ?_⟩
    generalize ga : upd H9 p _ = Ha
    have hpa : Ha p = some (.ins T.k_Ring.C dx (rof2 ca q kp (.ref sa))) := gat ga
    have e0a : Ex H0 Ha := by rw [← ga]; exact Ex.setP np0 e09
    have hka : TupF Ha kp ol (cs.map V.str) := ⟨od, by rw [← ga, upd_ne pk.symm]; exact (hk8.ex e9).2⟩
    have hqa : Ha q = some (.tup rows) := by rw [← ga, upd_ne qp]; exact e9 _ _ (e8 _ _ hq7)
    clear ga
    have RFa : RgFs T.k_Ring.C Ha p kp q ol cs rows covs := ⟨⟨dx, _, hpa, rof2_covers, rof2_checks, rof2_sum_of, rof2_wish⟩, hka, hqa, CV.ex e0a⟩
    refine ⟨_, rfl, p, _, dx, _, _, rfl, hpa, T.k_Ring.cl, T.n_Ring_checks, rof2_checks, kp, rfl, ⟨_, hka.sq⟩, fun W nW => ?_⟩
    refine lc_it (walk_tup (K := K) (a := kp) (xs := cs.map V.str)) (fun i H' => Ex Ha H' ∧ ∃ as : List Addr, as.length = i ∧ H' W = some (.lst (as.map V.ref)) ∧ ∀ a ∈ as, SayAt T.k_Saying.C T.k_Formula.C H' a 12 1100) ⟨Ex.new nW, [], rfl, upd_same, fun _ h => nomatch h⟩ (fun i H' _ h => (hka.ex h.1).sq) ?_ ?_
    · rintro i x Hb Hc hi ⟨eb, as, la, hW, sa_⟩ ⟨rfl, hx⟩
      rw [List.getElem?_map] at hx
      obtain ⟨c, hc', rfl⟩ := Option.map_eq_some_iff.mp hx
      have i2 : i < 2 := by rw [← r2, ← lcs]; exact (List.getElem?_eq_some_iff.mp hc').1
      obtain ⟨L, GC, L1, L3⟩ := gcv i i2
      have e0c : Ex H0 Hc := fun _ _ q => eb _ _ (e0a _ _ q)
      refine ⟨rfl, yes_go ?_⟩
      refine ⟨_, rfl, p, dx, _, rfl, eb _ _ hpa, rof2_wish, _, rfl, p, kp, q, ol, cs, rows, covs, i, c, L, sa, ms, rfl, RFa.mono eb, ⟨dx, _, eb _ _ hpa, rof2_summed⟩, e0c _ _ hs, cnm c (List.mem_of_getElem? hc'), lab_ix cnd hc', GC.mono e0c, L1, by omega, fun a Hd ed SY => ?_⟩
      have hWd := ed _ _ hW
      refine ⟨_, hWd, by rw [List.length_map, la]; exact Nat.lt_of_le_of_lt (show i ≤ 20 by omega) (by decide), Ex.keepD nW (fun _ _ q => ed _ _ (eb _ _ q)), as ++ [a], by rw [List.length_append, la]; rfl, by rw [upd_same, List.map_append]; rfl, fun b hb => ?_⟩
      rcases List.mem_append.mp hb with hb | hb
      · exact ((sa_ b hb).ex ed).updD hWd
      · rw [List.mem_singleton.mp hb]
        exact (SY.mono (by omega) (Nat.le_refl _)).updD hWd
    rintro Hb ⟨eb, as, la, hW, sa_⟩
    rw [List.length_map, lcs, r2] at la
    obtain ⟨a1, a2, rfl⟩ : ∃ a1 a2, as = [a1, a2] := by
      match as, la with
      | [a, b], _ => exact ⟨a, b, rfl⟩
    have S1 := sa_ a1 (by simp)
    have S2 := sa_ a2 (by simp)
    refine ⟨_, rfl, W, _, rfl, .inr (sq hW), [], [.ref a1, .ref a2], rfl, rfl, by show 2 ≤ sizeLine; decide, fun pp npp => ?_⟩
    have ep := Ex.new (o := .tup [.ref a1, .ref a2]) npp
    refine ⟨pp, a1, _, _, a2, _, _, rfl, upd_same, S1.ex ep, S2.ex ep, by decide, by decide, by decide, fun fa Hd ed SY => ?_⟩
    have ead : Ex Ha Hd := fun _ _ q => ed _ _ (ep _ _ (eb _ _ q))
    have e0d : Ex H0 Hd := fun _ _ q => ead _ _ (e0a _ _ q)
    have hpd := ead _ _ hpa
    refine ⟨_, rfl, p, _, dx, _, rfl, hpd, T.k_Ring.cl, T.n_Ring__fits, by show 4 < 1000; decide, ?_⟩
    generalize ge : upd Hd p _ = He
    have hpe : He p = some (.ins T.k_Ring.C dx (rof3 ca q kp (.ref sa) (.ref fa))) := gat ge
    have e0e : Ex H0 He := by rw [← ge]; exact Ex.setP np0 e0d
    have hke : TupF He kp ol (cs.map V.str) := ⟨od, by rw [← ge, upd_ne pk.symm]; exact ead _ _ hka.2⟩
    have hqe : He q = some (.tup rows) := by rw [← ge, upd_ne qp]; exact ead _ _ hqa
    clear ge
    have RFe : RgFs T.k_Ring.C He p kp q ol cs rows covs := ⟨⟨dx, _, hpe, rof3_covers, rof3_checks, rof3_sum_of, rof3_wish⟩, hke, hqe, CV.ex e0e⟩
    refine ⟨_, rfl, p, kp, q, ol, cs, rows, covs, rfl, RFe, cnd, cne, by omega, fun c hc => by have := nameB_len (cnm c hc); omega, fun j hj => (lpd j (by omega)).mono e0e, fun Hf ef => ?_⟩
    have e0f : Ex H0 Hf := fun _ _ q => ef _ _ (e0e _ _ q)
    refine ⟨_, rfl, p, _, dx, _, rfl, ef _ _ hpe, T.k_Ring.cl, T.n_Ring__layers, by show 5 < 1000; decide, ?_⟩
    exact k _ (Ex.setP np0 e0f)
theorem ok_law_pen (T : Tx K mg w) : FnOk P w K mg base CX0 1 T.f_law_pen.a T.f_law_pen.fd ["_law_script"] (spPen K) := by
  refine T.f_law_pen.F.ok sc_law_pen (fun vs H Q E h => ?_) (fun cdv A outer s H vs Q E hr h => ?_)
  · obtain ⟨a, ns, rfl, _⟩ := h
    rfl
  · obtain ⟨a, ns, rfl, hS, hl, k⟩ := h
    refine ⟨_, (pss_one (ps_ret (pe_lst (pa_cons (pe_callTy call_list_of (by rfl) T.b_list (by decide +kernel) (pa_cons (pe_slice sl_list (pv 0) po_none (po_some pe_int)) pa_nil)) (pa_cons pe_int (pa_cons pe_int pa_nil)))))), ?_⟩
    refine ⟨_, rfl, _, rfl, a, _, rfl, hS, fun b nb => ?_⟩
    (generalize g_H1 : upd _ b _ = H1); have hb := gat g_H1; have e1 := gex g_H1 nb; clear g_H1
    refine ⟨b, _, rfl, .inl (sq hb), fun c nc => ?_⟩
    (generalize g_H2 : upd _ c _ = H2); have hc := gat g_H2; have e2 := gex g_H2 nc; clear g_H2
    refine ⟨by show 3 ≤ sizeLine; decide, fun z nz => ?_⟩
    (generalize g_H3 : upd _ z _ = H3); have hz := gat g_H3; have e3 := gex g_H3 nz; clear g_H3
    have ec : cutV (ns.map V.int) none (some 64) = ns.map V.int := by
      rw [show (64 : Int) = ((64 : Nat) : Int) from rfl, cut_take, List.take_of_length_le (by rw [List.length_map]; omega)]
    rw [ec] at hc
    refine k z c H3 ⟨⟨0, 0, hz, by omega, by omega, by omega⟩, e3 _ _ hc, ne_of_none hc nz, hl⟩ ((e1.trans e2).trans e3) ?_ ?_
    · exact back (e1.trans e2) nz
    · exact back e1 nc
theorem ok_law_draw (T : Tx K mg w) : FnOk P w K mg base CX0 1 T.f_law_draw.a T.f_law_draw.fd ["_law_pen_here", "_law_bound"] spDraw := by
  refine T.f_law_draw.F.ok sc_law_draw (fun vs H Q E h => ?_) (fun cdv A outer s H vs Q E hr h => ?_)
  · obtain ⟨z, c, cells, t, many, rfl, _⟩ := h
    rfl
  · obtain ⟨z, c, cells, t, many, rfl, PA, ht, hm0, hm1, k⟩ := h
    obtain ⟨⟨ix, left, hz, i0, it, l0⟩, hc, cz, few⟩ := id PA
    refine ⟨_, (pss_cons (ps_if (pt_cmpR op_gt (pe_ix ix_list (pv 0) pe_int (fun _ _ => rfl)) pe_int (nomark _)) (pss_cons (ps_set (i := 2) sc_law_draw.nd rfl (Or.inl rfl) (pe_op op_mod (pe_callTy call_int1 (by rfl) T.b_int (by decide +kernel) (pa_cons (pe_ix ix_list (pv 0) pe_int (fun _ _ => rfl)) pa_nil)) (pv 1)))
      (pss_cons (ps_asg (pe_op op_fdivW (pe_ix ix_list (pv 0) pe_int (fun _ _ => rfl)) (pv 1)) (pg_sub (pv 0) pe_int set_list))
      (pss_one (ps_ret (pv 2))))) pss_nil)
      (pss_cons (ps_set (i := 3) sc_law_draw.nd rfl (Or.inl rfl) (pe_ix ix_list (pv 0) pe_int (fun _ _ => rfl)))
      (pss_cons (ps_asg (pe_op op_add (pv 3) pe_int) (pg_sub (pv 0) pe_int set_list))
      (pss_cons (ps_set (i := 4) sc_law_draw.nd rfl (Or.inl rfl) (pe_op op_add (pe_op op_mul pe_int (pv 3)) pe_int))
      (Evl.pss_cut (ps_if (pt_cmpR (op_neD hr.units) (pe_ix ix_list (pv 0) pe_int (fun _ _ => rfl)) (pe_lst pa_nil) (nomark _)) (pss_one (ps_set (i := 4) sc_law_draw.nd rfl (Or.inl rfl) (pe_ix ix_list (pe_ix ix_list (pv 0) pe_int (fun _ _ => rfl)) (pe_op op_mod (pe_callTy call_int1 (by rfl) T.b_int (by decide +kernel) (pa_cons (pv 3) pa_nil)) (pe_callB call_len_seq (by rfl) T.b_len (by decide +kernel) (pa_cons (pe_ix ix_list (pv 0) pe_int (fun _ _ => rfl)) pa_nil))) (fun _ _ => rfl)))) pss_nil)
      (Evl.pss_cut (ps_if (PW.pt (pw_and (pt_cmpR op_lt (pv 3) (pe_callB call_len_seq (by rfl) T.b_len (by decide +kernel) (pa_cons (pe_ix ix_list (pv 0) pe_int (fun _ _ => rfl)) pa_nil)) (nomark _)) (pw_and1 (pt_cmpR op_ge (pe_callB call_abs (by rfl) T.b_abs (by decide +kernel) (pa_cons (pv 4) pa_nil)) (pe_op op_pow pe_int pe_int) (nomark _))))) (pss_cons (ps_set (i := 5) sc_law_draw.nd rfl (Or.inl rfl) (pe_op op_add (pe_op op_mul pe_int (pe_callB call_abs (by rfl) T.b_abs (by decide +kernel) (pa_cons (pv 4) pa_nil))) (pe_callTy call_int1 (by rfl) T.b_int (by decide +kernel) (pa_cons (pe_cmpR op_lt (pv 4) pe_int (nomark _)) pa_nil))))
      (pss_cons (ps_asg (pe_op op_fdivW (pv 5) (pv 1)) (pg_sub (pv 0) pe_int set_list))
      (pss_one (ps_ret (pe_op op_mod (pe_callTy call_int1 (by rfl) T.b_int (by decide +kernel) (pa_cons (pv 5) pa_nil)) (pv 1)))))) pss_nil)
      (pss_cons (ps_set (i := 6) sc_law_draw.nd rfl (Or.inl rfl) (pe_op op_mod (pe_callTy call_int1 (by rfl) T.b_int (by decide +kernel) (pa_cons (pe_op op_pow (pe_op op_add (pe_op op_add (pe_op op_mod (pe_callTy call_int1 (by rfl) T.b_int (by decide +kernel) (pa_cons (pv 4) pa_nil)) pe_int) (pe_op op_mul pe_int (pv 3))) pe_int) pe_int) pa_nil)) pe_int))
      (pss_cons (ps_set (i := 6) sc_law_draw.nd rfl (Or.inl rfl) (pe_op op_mod (pe_callTy call_int1 (by rfl) T.b_int (by decide +kernel) (pa_cons (pe_op op_pow (pe_op op_add (pe_op op_add (pe_op op_mul (pv 6) (pe_op op_add (pe_op op_mul pe_int (pv 3)) pe_int)) (pe_op op_mul (pe_op op_mul pe_int (pv 3)) (pv 3))) pe_int) pe_int) pa_nil)) pe_int))
      (pss_one (ps_ret (pe_op op_mod (pe_callTy call_int1 (by rfl) T.b_int (by decide +kernel) (pa_cons (pe_op op_fdiv (pv 6) pe_int) pa_nil)) (pv 1)))))))))))), ?_⟩
    refine ⟨_, rfl, z, _, 2, .int left, rfl, rfl, sq hz, rfl, _, _, rfl, rfl, _, rfl, ?_⟩
    have divw : CDivW left many := wide_div hm0 (b := 20) (by omega) (by decide) (by decide)
    refine ite2 (fun _ => ?_) (fun _ => ?_)
    · -- a digit of a great cell
      refine ⟨_, rfl, z, _, 2, .int left, rfl, rfl, sq hz, rfl, .inl ⟨_, rfl, ?_⟩⟩
      refine ⟨_, rfl, _, _, rfl, rfl, hm0, ?_⟩
      refine ⟨_, rfl, z, _, 2, .int left, rfl, rfl, sq hz, rfl, _, rfl, _, _, rfl, rfl, divw, ?_⟩
      refine ⟨_, rfl, z, _, 2, 2, rfl, rfl, hz, rfl, ?_⟩
      refine ⟨_, rfl, ?_⟩
      refine k _ _ (emod_bd hm0).1 (emod_bd hm0).2 ⟨⟨ix, left / many, upd_same, i0, by omega, Int.ediv_nonneg l0 (by omega)⟩, ?_, cz, few⟩ Fw.at
      rw [upd_ne cz]
      exact hc
    · refine ⟨_, rfl, z, _, 1, .int ix, rfl, rfl, sq hz, rfl, ?_⟩
      refine ⟨_, rfl, _, _, rfl, rfl, _, rfl, z, _, 1, 1, rfl, rfl, hz, rfl, ?_⟩
      refine ⟨_, rfl, _, _, rfl, rfl, .inl ⟨by omega, by omega⟩, _, _, rfl, rfl, ?_⟩
      (generalize g_H1 : upd _ z _ = H1); have z1 := gat g_H1; have f1 := gfw g_H1; clear g_H1
      have z1 : H1 z = some (.lst [.ref c, .int (ix + 1), .int left]) := z1
      have c1 : H1 c = some (.lst (cells.map V.int)) := f1 _ _ cz hc
      -- the cell, whatever it is
      refine ⟨fun σ' H' => ∃ cell : Int, σ' = [some (.ref z), some (.int many), none, some (.int ix), some (.int cell), none, none] ∧ H' z = some (.lst [.ref c, .int (ix + 1), .int left]) ∧ H' c = some (.lst (cells.map V.int)) ∧ Fw z H H', ?_, ?_⟩
      · refine ⟨_, rfl, z, _, 0, .ref c, rfl, rfl, sq z1, rfl, ?_⟩
        refine ⟨by show 0 ≤ sizeLine; decide, fun b nb => ?_⟩
        (generalize g_H2 : upd _ b _ = H2); have hb := gat g_H2; have e2 := gex g_H2 nb; clear g_H2
        refine ⟨_, _, Dp.lst (sq (e2 _ _ c1)) (dp_ints cells), Dp.lst (sq hb) DpAll.nil, shaped_ints cells, rfl, _, rfl, ?_⟩
        cases hcl : cells with
        | nil =>
          refine iteF ?_
          exact ⟨_, rfl, e2 _ _ z1, by rw [← hcl]; exact e2 _ _ c1, f1.trans e2.fw⟩
        | cons y ys =>
          refine iteT ?_
          rw [← hcl]
          have hpos : 0 < cells.length := by rw [hcl]; exact Nat.succ_pos _
          have hlen : (0 : Int) < ((cells.map V.int).length : Nat) := by rw [List.length_map]; omega
          obtain ⟨j, hj⟩ : ∃ j : Nat, ix % ((cells.map V.int).length : Nat) = (j : Int) := ⟨(ix % ((cells.map V.int).length : Nat)).toNat, by rw [Int.toNat_of_nonneg (emod_bd hlen).1]⟩
          have hjl : j < cells.length := by
            have h1 := (emod_bd (a := ix) hlen).2
            rw [hj, List.length_map] at h1
            omega
          obtain ⟨v, hv⟩ := cell_get hjl
          refine ⟨_, rfl, z, _, 0, .ref c, rfl, rfl, sq (e2 _ _ z1), rfl, ?_⟩
          refine ⟨_, rfl, .inl ⟨_, rfl, ?_⟩⟩
          refine ⟨_, rfl, z, _, 0, .ref c, rfl, rfl, sq (e2 _ _ z1), rfl, c, _, rfl, .inl (sq (e2 _ _ c1)), _, _, rfl, rfl, hlen, ?_⟩
          refine ⟨c, _, _, .int v, rfl, rfl, sq (e2 _ _ c1), by rw [hj]; exact atI_nat hv, ?_⟩
          exact ⟨v, rfl, e2 _ _ z1, e2 _ _ c1, f1.trans e2.fw⟩
      · rintro σ' H2 ⟨cell, rfl, z2, c2, f2⟩
        have lenc : (((cells.map V.int).length : Nat) : Int) ≤ 63 := by rw [List.length_map]; omega
        have ix1 : ix ≤ 100000 := by omega
        refine ⟨fun σ' H' => σ' = [some (.ref z), some (.int many), none, some (.int ix), some (.int cell), none, none] ∧ H' = H2, ?_, ?_⟩
        · refine ⟨_, rfl, _, rfl, z, _, 0, .ref c, rfl, rfl, sq z2, rfl, c, _, rfl, .inl (sq c2), _, _, rfl, rfl, _, rfl, ?_⟩
          refine ite2 (fun _ => ?_) (fun _ => iteF ⟨rfl, rfl⟩)
          refine ⟨_, rfl, _, rfl, _, _, rfl, rfl, ⟨by decide, by decide, by decide⟩, _, _, rfl, rfl, _, rfl, ?_⟩
          refine ite2 (fun hg => ?_) (fun _ => ⟨rfl, rfl⟩)
          have hg := of_decide_eq_true hg
          rw [pow18] at hg
          -- a great cell
          refine ⟨_, rfl, _, rfl, _, _, rfl, rfl, .inl ⟨by decide, by decide⟩, _, rfl, _, _, rfl, rfl, .inr ⟨_, rfl, _, _, rfl, rfl, ?_⟩⟩
          dsimp only
          have g0 : 0 ≤ 2 * (if cell < 0 then -cell else cell) + (if decide (cell < 0) = true then 1 else 0) := by
            split at hg <;> split <;> omega
          generalize 2 * (if cell < 0 then -cell else cell) + (if decide (cell < 0) = true then 1 else 0) = great at g0
          refine ⟨_, rfl, _, rfl, _, _, rfl, rfl, divw, _, rfl, z, _, 2, 2, rfl, rfl, z2, rfl, ?_⟩
          (generalize g_H3 : upd _ z _ = H3); have z3 := gat g_H3; have f3 := gfw g_H3; clear g_H3
          refine ⟨_, rfl, .inl ⟨_, rfl, _, rfl, _, _, rfl, rfl, hm0, ?_⟩⟩
          exact k _ _ (emod_bd hm0).1 (emod_bd hm0).2 ⟨⟨ix + 1, great / many, z3, by omega, by omega, Int.ediv_nonneg g0 (by omega)⟩, f3 _ _ cz c2, cz, few⟩ (f2.trans f3)
        · rintro σ' H' ⟨rfl, rfl⟩
          refine ⟨_, rfl, .inl ⟨_, rfl, _, _, rfl, rfl, by show (0 : Int) < 2147483477; decide, _, rfl, _, _, rfl, rfl, .inl ⟨by decide, by decide⟩, _, _, rfl, rfl, _, _, rfl, rfl, _, _, rfl, rfl,
            draw8a i0 ix1 (by decide) (by decide) (by decide) (by decide), .inl ⟨_, rfl, _, _, rfl, rfl, by show (0 : Int) < 2147483477; decide, ?_⟩⟩⟩
          dsimp only
          generalize hm : (_ % 2147483477 : Int) = m
          have mb : 0 ≤ m ∧ m < 2147483477 := by rw [← hm]; exact emod_bd (by decide)
          refine ⟨_, rfl, _, rfl, _, _, rfl, rfl, .inl ⟨by decide, by decide⟩, _, _, rfl, rfl, _, _, rfl, rfl, .inl ⟨by omega, by omega⟩, _, rfl, _, _, rfl, rfl, .inl ⟨by decide, by decide⟩, _, rfl, _, _, rfl, rfl, .inr ⟨by omega, by omega⟩,
            _, _, rfl, rfl, _, _, rfl, rfl, _, _, rfl, rfl, draw8b i0 ix1 mb.1 mb.2 (by decide) (by decide) (by decide) (by decide) (by decide) (by decide), .inl ⟨_, rfl, _, _, rfl, rfl, by show (0 : Int) < 2147483423; decide, ?_⟩⟩
          dsimp only
          generalize (_ % 2147483423 : Int) = m2
          refine ⟨_, rfl, _, _, rfl, rfl, ⟨by decide, by decide⟩, .inl ⟨_, rfl, _, rfl, _, _, rfl, rfl, hm0, ?_⟩⟩
          exact k _ _ (emod_bd hm0).1 (emod_bd hm0).2 ⟨⟨ix + 1, left, z2, by omega, by omega, l0⟩, c2, cz, few⟩ f2
theorem ok_law_one (T : Tx K mg w) : FnOk P w K mg base CX0 2 T.f_law_one.a T.f_law_one.fd ["_law_pen_here", "_law_some"] spOne := by
  refine T.f_law_one.F.ok sc_law_one (fun vs H Q E h => ?_) (fun cdv A outer s H vs Q E hr h => ?_)
  · obtain ⟨z, c, cells, t, l, xs, rfl, _⟩ := h
    rfl
  · obtain ⟨z, c, cells, t, l, xs, rfl, PA, ht, hl, x0, x1, lz, k⟩ := h
    refine ⟨_, (pss_one (ps_ret (pe_ix ix_list (pv 1) (pe_call (ok_law_draw T) (hr.mono (by decide)) (by rfl) T.f_law_draw.m T.f_law_draw.F.kp (bd_law_draw T) .nil pass0 (pa_cons (pv 0) (pa_cons (pe_callB call_len_seq (by rfl) T.b_len (by decide +kernel) (pa_cons (pv 1) pa_nil)) pa_nil))) (fun _ _ => rfl)))), ?_⟩

    refine ⟨_, rfl, _, rfl, _, rfl, l, _, rfl, .inl (sq hl), z, c, cells, t, _, rfl, PA, ht, by omega, by omega, fun j H1 j0 j1 P1 f1 => ?_⟩
    obtain ⟨j, rfl⟩ : ∃ i : Nat, j = (i : Int) := ⟨j.toNat, by omega⟩
    have lt : j < xs.length := by omega
    exact ⟨l, _, _, _, rfl, rfl, sq (f1 _ _ lz hl), atI_nat (List.getElem?_eq_getElem lt), k j _ H1 (List.getElem?_eq_getElem lt) P1 f1⟩
theorem kb_Ring_make (T : Tx K mg w) : KBn K T.f_Ring_init_.fd ["self", "contents", "covers", "summed"] 3 ["summed"] kwC kwC where
  to := by
    obtain ⟨oc, od, kV, doc, pm, an, cdv, ct, osl, e, lk, hcd⟩ := T.f_Ring_init_.F.ex
    rw [e]
    intro s us ws _ h1 h2
    match us, ws, h1, h2 with
    | [_, _, _], [_], _, _ => exact .of_eq rfl
  rel := kwC_vals

theorem ok_law_refused (T : Tx K mg w) : FnOk P w K mg base CX0 11 T.f_law_refused.a T.f_law_refused.fd ["_law_contents", "_law_covers", "_law_folded"] spRfs := by
  refine T.f_law_refused.F.ok sc_law_refused (fun vs H Q E h => ?_) (fun cdv A outer s H vs Q E hr h => ?_)
  · obtain ⟨cv, v, sv, rfl, _⟩ := h
    rfl
  · obtain ⟨cv, v, sv, rfl, h⟩ := h
    refine ⟨_, pss_cons (TzTry.ps_try_all rfl rfl sc_law_refused.nd (fun W pn xe tk _ => pss_ex fun Ech hW => pss_one (ps_expr (pe_makeK (mk_Ring T) (ok_Ring_init_ T) (hr.mono (by decide)) (by rfl) T.k_Ring.m (kb_Ring_make T) (passes_call tk fun k d z J e => hW k d z J e) (pa_cons (pv 0) (pa_cons (pv 1) pa_nil)) (pk_cons (pv 2) pk_nil))))
      (.cons (c := .ref T.e_ZerosError.C) (i := 3) ⟨rfl, by decide, .inl T.e_ZerosError.m⟩ rfl rfl (fun a oe cls d pn hz hf => pss_one (ps_ret (pe_ifExp (pt_val (pe_callB (id := "isinstance") (r := rIsEd K a cls d) (call_isKept List.mem_cons_self hz hf) (by rfl) T.b_isinstance (by decide +kernel) (pa_cons (pv 3) (pa_cons (pe_glob (v := .ref T.e_BadRing.C) (by rfl) T.e_BadRing.m rfl) pa_nil))))
        (pe_tup (pa_cons (pe_xf T.e_BadRing.er.read T.n_BadRing_part hz hf (pv 3)) (pa_cons (pe_xf T.e_BadRing.er.read T.n_BadRing_at hz hf (pv 3)) pa_nil))) pe_str))) .nil)) (pss_one (ps_ret pe_non)), ?_⟩
    rcases h with ⟨part, n, b, k⟩ | ⟨g, k⟩
    · refine ⟨Torn T.e_BadRing.C H part n, fun c d z J hE len => ?_, ?_⟩
      · obtain ⟨eJ, rfl, dd, rfl, hdd⟩ := hE
        match z, len with
        | [z0, z1, z2, z3], _ =>
          refine ⟨true, T.xm_BadRing_ZerosError, fun _ a na => ?_, fun q => Bool.noConfusion q⟩
          refine ⟨_, rfl, T.e_BadRing.C, dd, _, _, .ref T.e_BadRing.C, true, rfl, ⟨T.e_BadRing.er.read.ga, T.e_BadRing.er.read.gg, T.e_BadRing.er.read.exC, T.e_BadRing.er.read.hdC, T.x_BadRing.ha, T.s_get, T.s_takes, T.x_BadRing.hm⟩, rfl, hdd, rfl, (fun u r => r), kit_self, true, rfl, ?_⟩
          refine iteT ?_
          refine ⟨_, rfl, rfl, rfl, dd, _, _, rfl, hdd, by simp [List.lookup]; rfl, _, rfl, rfl, rfl, dd, _, _, rfl, hdd, by simp [List.lookup], by show 2 ≤ sizeLine; decide, fun p np => k p _ (fun _ _ q => Ex.new np _ _ (eJ _ _ q)) upd_same⟩
      · refine ⟨_, rfl, _, rfl, _, rfl, rfl, rfl, fun x dx nx ndx ne => ?_⟩
        exact rg_bad b upd_same nx (ex_two nx ndx) fly_torn
    · refine ⟨E0, fun c d z J hE => hE.elim, ?_⟩
      refine ⟨_, rfl, _, rfl, _, rfl, rfl, rfl, fun x dx nx ndx ne => ?_⟩
      exact rg_good g upd_same nx (ex_two nx ndx) fun H' e' => ⟨rfl, k H' e'⟩
theorem ok_law_thing (T : Tx K mg w) : FnOk P w K mg base CX0 3 T.f_law_thing.a T.f_law_thing.fd ["_law_pen_here"] spThingR := by
  refine T.f_law_thing.F.ok sc_law_thing (fun vs H Q E h => ?_) (fun cdv A outer s H vs Q E hr h => ?_)
  · obtain ⟨z, c, cells, t, rfl, _⟩ := h
    rfl
  · obtain ⟨z, c, cells, t, rfl, PA, ht, k⟩ := h
    refine ⟨_, (pss_one (ps_ret (pe_call (ok_law_one T) (hr.mono (by decide)) (by rfl) T.f_law_one.m T.f_law_one.F.kp (bd_law_one T) .nil pass0 (pa_cons (pv 0) (pa_cons (pe_lst (pa_cons pe_non (pa_cons pe_str (pa_cons pe_str (pa_cons pe_str (pa_cons pe_int (pa_cons pe_bl (pa_cons (pe_tup pa_nil) (pa_cons (pe_lst (pa_cons pe_str pa_nil)) (pa_cons (pe_tup (pa_cons pe_str pa_nil)) (pa_cons pe_dnewK (pa_cons pe_str (pa_cons pe_str (pa_cons (pe_op op_pow pe_int pe_int) pa_nil)))))))))))))) pa_nil))))), ?_⟩

    refine ⟨_, rfl, by decide, fun t0 nt0 => ?_⟩
    have zt0 := (PA.off nt0).1
    (generalize g_H1 : upd _ t0 _ = H1); have ht0 := gat g_H1; have e1 := gex g_H1 nt0; clear g_H1
    refine ⟨by show 1 ≤ sizeLine; decide, fun l1 nl1 => ?_⟩
    have P1 := PA.ex e1
    have zl1 := (P1.off nl1).1
    (generalize g_H2 : upd _ l1 _ = H2); have hl1 := gat g_H2; have e2 := gex g_H2 nl1; clear g_H2
    refine ⟨by show 1 ≤ sizeLine; decide, fun t1 nt1 => ?_⟩
    have P2 := P1.ex e2
    have zt1 := (P2.off nt1).1
    (generalize g_H3 : upd _ t1 _ = H3); have ht1 := gat g_H3; have e3 := gex g_H3 nt1; clear g_H3
    intro d1 nd1
    have P3 := P2.ex e3
    have zd1 := (P3.off nd1).1
    (generalize g_H4 : upd _ d1 _ = H4); have hd1 := gat g_H4; have e4 := gex g_H4 nd1; clear g_H4
    refine ⟨_, _, rfl, rfl, ⟨by decide, by decide, by decide⟩, by show 13 ≤ sizeLine; decide, fun b nb => ?_⟩
    have P4 := P3.ex e4
    have zb := (P4.off nb).1
    (generalize g_H5 : upd _ b _ = H5); have hb := gat g_H5; have e5 := gex g_H5 nb; clear g_H5
    have e05 : Ex H H5 := fun _ _ q => e5 _ _ (e4 _ _ (e3 _ _ (e2 _ _ (e1 _ _ q))))
    refine ⟨z, c, cells, t, b, _, rfl, P4.ex e5, by omega, hb, by show 0 < 13; omega, by show 13 ≤ 100; omega, zb, fun j y H6 hy P6 f6 => ?_⟩
    have str : ∀ s : Str, nameB s = false → s.length ≤ 1000 → OddN z H6 (.str s) := fun s h l => ⟨h, fun H' _ => ⟨_, .str s l⟩⟩
    refine k y H6 ?_ P6 (e05.fw.trans f6)
    match j, hy with
    | 0, hy => cases hy; exact ⟨rfl, fun H' _ => ⟨_, .non⟩⟩
    | 1, hy => cases hy; exact str _ (by decide +kernel) (by decide)
    | 2, hy => cases hy; exact str _ (by decide +kernel) (by decide)
    | 3, hy => cases hy; exact str _ (by decide +kernel) (by decide)
    | 4, hy => cases hy; exact ⟨rfl, fun H' _ => ⟨_, .int 0⟩⟩
    | 5, hy => cases hy; exact ⟨rfl, fun H' _ => ⟨_, .bl true⟩⟩
    | 6, hy => cases hy; exact ⟨rfl, fun H' f => ⟨_, .tup (f _ _ zt0 (f6 _ _ zt0 (e5 _ _ (e4 _ _ (e3 _ _ (e2 _ _ ht0))))))⟩⟩
    | 7, hy => cases hy; exact ⟨rfl, fun H' f => ⟨_, .lst (f _ _ zl1 (f6 _ _ zl1 (e5 _ _ (e4 _ _ (e3 _ _ hl1)))))⟩⟩
    | 8, hy => cases hy; exact ⟨rfl, fun H' f => ⟨_, .tup (f _ _ zt1 (f6 _ _ zt1 (e5 _ _ (e4 _ _ ht1))))⟩⟩
    | 9, hy => cases hy; exact ⟨rfl, fun H' f => ⟨_, .dic (f _ _ zd1 (f6 _ _ zd1 (e5 _ _ hd1)))⟩⟩
    | 10, hy => cases hy; exact str _ (by decide +kernel) (by decide)
    | 11, hy => cases hy; exact str _ (by decide +kernel) (by decide)
    | 12, hy => cases hy; exact ⟨rfl, fun H' _ => ⟨_, .int _⟩⟩
    | j + 13, hy => exact absurd (List.getElem?_eq_some_iff.mp hy).1 (by show ¬ j + 13 < 13; omega)
theorem ok_law_bent_contents (T : Tx K mg w) : FnOk P w K mg base CX0 4 T.f_law_bent_contents.a T.f_law_bent_contents.fd ["_law_pen_here", "_law_good"] spBentCont := by
  refine T.f_law_bent_contents.F.ok sc_law_bent_contents (fun vs H Q E h => ?_) (fun cdv A outer s H vs Q E hr h => ?_)
  · obtain ⟨z, c, cells, t, g, rfl, _⟩ := h
    rfl
  · obtain ⟨z, c, cells, t, g, rfl, PA, ht, hg, k⟩ := h
    refine ⟨_, (pss_cons (ps_set (i := 2) sc_law_bent_contents.nd rfl (Or.inl rfl) (pe_call (ok_law_draw T) (hr.mono (by decide)) (by rfl) T.f_law_draw.m T.f_law_draw.F.kp (bd_law_draw T) .nil pass0 (pa_cons (pv 0) (pa_cons pe_int pa_nil))))
      (Evl.pss_cut (ps_if (pt_cmpR op_eq (pv 2) pe_int (nomark _)) (pss_one (ps_ret (pe_tup (pa_cons (pe_call (ok_law_one T) (hr.mono (by decide)) (by rfl) T.f_law_one.m T.f_law_one.F.kp (bd_law_one T) .nil pass0 (pa_cons (pv 0) (pa_cons (pe_lst (pa_cons pe_non (pa_cons (pe_lst (pa_cons pe_str (pa_cons pe_str pa_nil))) (pa_cons (pe_tup pa_nil) (pa_cons pe_str (pa_cons pe_dnewK (pa_cons pe_int pa_nil))))))) pa_nil))) (pa_cons pe_int pa_nil))))) pss_nil)
      (pss_cons (ps_set (i := 3) sc_law_bent_contents.nd rfl (Or.inl rfl) (pe_call (ok_law_draw T) (hr.mono (by decide)) (by rfl) T.f_law_draw.m T.f_law_draw.F.kp (bd_law_draw T) .nil pass0 (pa_cons (pv 0) (pa_cons (pe_callB call_len_seq (by rfl) T.b_len (by decide +kernel) (pa_cons (pv 1) pa_nil)) pa_nil))))
      (Evl.pss_cut (ps_set (i := 4) sc_law_bent_contents.nd rfl (Or.inl rfl) (pe_ifExp (PW.pt (pw_and (pt_cmpR op_eq (pv 2) pe_int (nomark _)) (pw_and1 (pt_cmpR op_gt (pv 3) pe_int (nomark _))))) (pe_ix ix_tup (pv 1) pe_int (fun _ _ => rfl)) (pe_call (ok_law_thing T) (hr.mono (by decide)) (by rfl) T.f_law_thing.m T.f_law_thing.F.kp (bd_law_thing T) .nil pass0 (pa_cons (pv 0) pa_nil))))
      (pss_one (ps_ret (pe_tup (pa_cons (pe_op op_catA (pe_op op_catA (pe_slice sl_tup (pv 1) po_none (po_some (pv 3))) (pe_tup (pa_cons (pv 4) pa_nil))) (pe_slice sl_tup (pv 1) (po_some (pe_op op_add (pv 3) pe_int)) po_none)) (pa_cons (pv 3) pa_nil))))))))), ?_⟩

    have fin : ∀ H' v (n : Nat), Aft z H' (fun H'' => ContBad H'' v n) → PenAt H' z c cells (t + 10) → Fw z H H' → ∀ pr, H' pr = none → Q (.ref pr) (upd H' pr (.tup [v, .int n])) := fun H' v n W P f pr np =>
      k pr v n _ (W.fw (Ex.new np).fw) upd_same (f.backR np (P.off np).1) (P.ex (Ex.new np)) (f.trans (Ex.new np).fw)
    refine ⟨_, rfl, z, c, cells, t, 4, rfl, PA, by omega, by decide, by decide, fun way H1 y0 y1 P1 f1 => ?_⟩
    have hg1 := f1 _ _ (PA.nl hg) hg
    refine ⟨fun σ' H' => H' = H1 ∧ σ' = [some (.ref z), some (.ref g), some (.int way), none, none], ?_, ?_⟩
    · refine ⟨_, rfl, rfl, _, rfl, ite2 (fun q => ?_) (fun q => ⟨rfl, rfl⟩)⟩
      refine ⟨_, rfl, by show 2 ≤ sizeLine; decide, fun l1 nl1 => ?_⟩
      have zl1 := (P1.off nl1).1
      (generalize g_H2 : upd _ l1 _ = H2); have hl1 := gat g_H2; have e2 := gex g_H2 nl1; clear g_H2
      refine ⟨by decide, fun t1 nt1 => ?_⟩
      have P2 := P1.ex e2
      have zt1 := (P2.off nt1).1
      (generalize g_H3 : upd _ t1 _ = H3); have ht1 := gat g_H3; have e3 := gex g_H3 nt1; clear g_H3
      intro d1 nd1
      have P3 := P2.ex e3
      have zd1 := (P3.off nd1).1
      (generalize g_H4 : upd _ d1 _ = H4); have hd1 := gat g_H4; have e4 := gex g_H4 nd1; clear g_H4
      refine ⟨by show 6 ≤ sizeLine; decide, fun b nb => ?_⟩
      have P4 := P3.ex e4
      have zb := (P4.off nb).1
      (generalize g_H5 : upd _ b _ = H5); have hb := gat g_H5; have e5 := gex g_H5 nb; clear g_H5
      have e15 : Ex H1 H5 := fun _ _ q => e5 _ _ (e4 _ _ (e3 _ _ (e2 _ _ q)))
      refine ⟨z, c, cells, _, b, _, rfl, P4.ex e5, by omega, hb, by show 0 < 6; omega, by show 6 ≤ 100; omega, zb, fun j y H6 hy P6 f6 => ?_⟩
      refine ⟨by show 2 ≤ sizeLine; decide, fun pr np => fin _ _ 0 ?_ (P6.mono (by omega)) ((f1.trans e15.fw).trans f6) pr np⟩
      match j, hy with
      | 0, hy => cases hy; exact fun H' _ => .inl ⟨_, .non, rfl, rfl⟩
      | 1, hy => cases hy; exact fun H' f => .inl ⟨_, .lst (f _ _ zl1 (f6 _ _ zl1 (e5 _ _ (e4 _ _ (e3 _ _ hl1))))), rfl, rfl⟩
      | 2, hy => cases hy; exact fun H' f => .inr (.inl ⟨_, rfl, f _ _ zt1 (f6 _ _ zt1 (e5 _ _ (e4 _ _ ht1))), rfl⟩)
      | 3, hy => cases hy; exact fun H' _ => .inl ⟨_, .str "st" (by decide), rfl, rfl⟩
      | 4, hy => cases hy; exact fun H' f => .inl ⟨_, .dic (f _ _ zd1 (f6 _ _ zd1 (e5 _ _ hd1))), rfl, rfl⟩
      | 5, hy => cases hy; exact fun H' _ => .inl ⟨_, .int 0, rfl, rfl⟩
      | j + 6, hy => exact absurd (List.getElem?_eq_some_iff.mp hy).1 (by show ¬ j + 6 < 6; omega)
    rintro σ' H' ⟨rfl, rfl⟩
    refine ⟨_, rfl, _, rfl, g, _, rfl, .inr (sqT hg1), z, c, cells, _, _, rfl, P1, by omega, by decide, by decide, fun at_ H2 a0 al P2 f2 => ?_⟩
    obtain ⟨m, rfl⟩ : ∃ i : Nat, at_ = (i : Int) := ⟨at_.toNat, by omega⟩
    have m2 : m < 2 := by have : ((m : Nat) : Int) < 2 := al; omega
    have f02 := f1.trans f2
    have hg2 := f2 _ _ (P1.nl hg1) hg1
    refine ⟨fun σ' H' => ∃ x, (nameV x = false ∨ m = 1 ∧ x = .str "s") ∧ Aft z H' (fun H'' => ∃ g, Th H'' x g) ∧ PenAt H' z c cells (t + 4) ∧ Fw z H H' ∧ σ' = [some (.ref z), some (.ref g), some (.int way), some (.int m), some x], ?_, ?_⟩
    · refine ⟨_, rfl, rfl, _, rfl, ite2 (fun q => ?_) (fun q => ?_)⟩
      · refine ⟨_, rfl, _, _, rfl, rfl, _, rfl, ite2 (fun q1 => ?_) (fun q1 => ?_)⟩
        · refine ⟨_, rfl, g, _, 0, .str "s", rfl, rfl, sqT hg2, rfl, ?_⟩
          have m1 : m = 1 := by have := of_decide_eq_true q1; omega
          exact ⟨_, .inr ⟨m1, rfl⟩, fun H' _ => ⟨_, .str "s" (by decide)⟩, P2.mono (by omega), f02, rfl⟩
        · exact ⟨_, rfl, z, c, cells, _, rfl, P2, by omega, fun x H' o P f => ⟨x, .inl o.1, o.2, P.mono (by omega), f02.trans f, rfl⟩⟩
      · exact iteF ⟨_, rfl, z, c, cells, _, rfl, P2, by omega, fun x H' o P f => ⟨x, .inl o.1, o.2, P.mono (by omega), f02.trans f, rfl⟩⟩
    rintro σ' H3 ⟨x, bad, th, P3, f3, rfl⟩
    have hg3 := f3 _ _ (PA.nl hg) hg
    refine bent_two (i := 1) (j := 3) (G := fun x' H' => x' = x ∧ Ex H3 H') m2 rfl rfl hg3 (fun H4 e4 Q1 k1 => ?_) (fun p x' H4 H5 e4 e5 gx hp => ?_)
    · refine ⟨_, rfl, by show 1 ≤ sizeLine; decide, fun p np => k1 p x _ (Ex.new np) upd_same ⟨rfl, fun _ _ q => Ex.new np _ _ (e4 _ _ q)⟩⟩
    obtain ⟨rfl, e34⟩ := gx
    have e35 : Ex H3 H5 := fun _ _ q => e5 _ _ (e34 _ _ q)
    refine ⟨_, rfl, by show 2 ≤ sizeLine; decide, fun pr npr => fin _ _ m ?_ ((P3.ex e35).mono (by omega)) (f3.trans e35.fw) pr npr⟩
    have zp := (P3.ex e35).nl hp
    refine fun H' f => .inr (.inr ?_)
    have th' := (th.fw e35.fw) H' f
    obtain ⟨gk, d⟩ := th'
    match m, m2, bad, hp with
    | 0, _, bad, hp =>
      exact ⟨p, [], x', [.str "t"], gk, rfl, f _ _ zp hp, by decide, ⟨(fun z h => nomatch h), List.nodup_nil⟩, d, .inl (bad.elim id fun q => absurd q.1 (by decide)), rfl⟩
    | 1, _, bad, hp =>
      exact ⟨p, ["s"], x', [], gk, rfl, f _ _ zp hp, by decide, names_st.takeR 1, d, bad.imp id fun q => ⟨"s", List.mem_cons_self, q.2⟩, rfl⟩
    | m + 2, h, _, _ => exact absurd h (by omega)
theorem ok_law_bent_folded (T : Tx K mg w) : FnOk P w K mg base CX0 4 T.f_law_bent_folded.a T.f_law_bent_folded.fd ["_law_pen_here"] spBentFold := by
  refine T.f_law_bent_folded.F.ok sc_law_bent_folded (fun vs H Q E h => ?_) (fun cdv A outer s H vs Q E hr h => ?_)
  · obtain ⟨z, c, cells, t, rfl, _⟩ := h
    rfl
  · obtain ⟨z, c, cells, t, rfl, PA, ht, k⟩ := h
    refine ⟨_, (pss_cons (ps_set (i := 1) sc_law_bent_folded.nd rfl (Or.inl rfl) (pe_call (ok_law_draw T) (hr.mono (by decide)) (by rfl) T.f_law_draw.m T.f_law_draw.F.kp (bd_law_draw T) .nil pass0 (pa_cons (pv 0) (pa_cons pe_int pa_nil))))
      (Evl.pss_cut (ps_if (pt_cmpR op_eq (pv 1) pe_int (nomark _)) (pss_one (ps_ret (pe_tup (pa_cons (pe_call (ok_law_one T) (hr.mono (by decide)) (by rfl) T.f_law_one.m T.f_law_one.F.kp (bd_law_one T) .nil pass0 (pa_cons (pv 0) (pa_cons (pe_lst (pa_cons pe_non (pa_cons (pe_lst (pa_cons pe_str pa_nil)) (pa_cons pe_str (pa_cons pe_dnewK (pa_cons pe_int pa_nil)))))) pa_nil))) (pa_cons pe_int pa_nil))))) pss_nil)
      (Evl.pss_cut (ps_if (pt_cmpR op_eq (pv 1) pe_int (nomark _)) (pss_one (ps_ret (pe_tup (pa_cons (pe_tup (pa_cons pe_str (pa_cons pe_str (pa_cons pe_str pa_nil)))) (pa_cons pe_int pa_nil))))) pss_nil)
      (pss_one (ps_ret (pe_tup (pa_cons (pe_tup (pa_cons pe_str (pa_cons (pe_call (ok_law_one T) (hr.mono (by decide)) (by rfl) T.f_law_one.m T.f_law_one.F.kp (bd_law_one T) .nil pass0 (pa_cons (pv 0) (pa_cons (pe_lst (pa_cons pe_non (pa_cons pe_str (pa_cons pe_str (pa_cons (pe_lst (pa_cons pe_str pa_nil)) (pa_cons pe_int (pa_cons pe_str pa_nil))))))) pa_nil))) pa_nil))) (pa_cons pe_int pa_nil)))))))), ?_⟩

    have fin : ∀ H' v (n : Nat), Aft z H' (fun H'' => SumBad H'' ["c", "d"] v n) → PenAt H' z c cells (t + 10) → Fw z H H' → ∀ pr, H' pr = none → Q (.ref pr) (upd H' pr (.tup [v, .int n])) := fun H' v n W P f pr np =>
      k pr v n _ (W.fw (Ex.new np).fw) upd_same (f.backR np (P.off np).1) (P.ex (Ex.new np)) (f.trans (Ex.new np).fw)
    refine ⟨_, rfl, z, c, cells, t, 3, rfl, PA, by omega, by decide, by decide, fun way H1 y0 y1 P1 f1 => ?_⟩
    refine ⟨fun σ' H' => H' = H1 ∧ σ' = [some (.ref z), some (.int way)], ?_, ?_⟩
    · refine ⟨_, rfl, rfl, _, rfl, ite2 (fun q => ?_) (fun q => ⟨rfl, rfl⟩)⟩
      refine ⟨_, rfl, by show 1 ≤ sizeLine; decide, fun l1 nl1 => ?_⟩
      have zl1 := (P1.off nl1).1
      (generalize g_H2 : upd _ l1 _ = H2); have hl1 := gat g_H2; have e2 := gex g_H2 nl1; clear g_H2
      intro d1 nd1
      have P2 := P1.ex e2
      have zd1 := (P2.off nd1).1
      (generalize g_H4 : upd _ d1 _ = H4); have hd1 := gat g_H4; have e4 := gex g_H4 nd1; clear g_H4
      refine ⟨by show 5 ≤ sizeLine; decide, fun b nb => ?_⟩
      have P4 := P2.ex e4
      have zb := (P4.off nb).1
      (generalize g_H5 : upd _ b _ = H5); have hb := gat g_H5; have e5 := gex g_H5 nb; clear g_H5
      have e15 : Ex H1 H5 := fun _ _ q => e5 _ _ (e4 _ _ (e2 _ _ q))
      refine ⟨z, c, cells, _, b, _, rfl, P4.ex e5, by omega, hb, by show 0 < 5; omega, by show 5 ≤ 100; omega, zb, fun j y H6 hy P6 f6 => ?_⟩
      refine ⟨by show 2 ≤ sizeLine; decide, fun pr np => fin _ _ 0 ?_ (P6.mono (by omega)) ((f1.trans e15.fw).trans f6) pr np⟩
      match j, hy with
      | 0, hy => cases hy; exact fun H' _ => .inl ⟨_, .non, rfl, rfl⟩
      | 1, hy => cases hy; exact fun H' f => .inl ⟨_, .lst (f _ _ zl1 (f6 _ _ zl1 (e5 _ _ (e4 _ _ hl1)))), rfl, rfl⟩
      | 2, hy => cases hy; exact fun H' _ => .inl ⟨_, .str "c" (by decide), rfl, rfl⟩
      | 3, hy => cases hy; exact fun H' f => .inl ⟨_, .dic (f _ _ zd1 (f6 _ _ zd1 (e5 _ _ hd1))), rfl, rfl⟩
      | 4, hy => cases hy; exact fun H' _ => .inl ⟨_, .int 0, rfl, rfl⟩
      | j + 5, hy => exact absurd (List.getElem?_eq_some_iff.mp hy).1 (by show ¬ j + 5 < 5; omega)
    rintro σ' H' ⟨rfl, rfl⟩
    refine ⟨fun σ' H'' => H'' = H' ∧ σ' = [some (.ref z), some (.int way)], ?_, ?_⟩
    · refine ⟨_, rfl, rfl, _, rfl, ite2 (fun q => ?_) (fun q => ⟨rfl, rfl⟩)⟩
      refine ⟨by show 3 ≤ sizeLine; decide, fun a na => ?_⟩
      have za := (P1.off na).1
      (generalize g_H2 : upd _ a _ = H2); have ha := gat g_H2; have e2 := gex g_H2 na; clear g_H2
      refine ⟨by show 2 ≤ sizeLine; decide, fun pr np => fin _ _ 2 ?_ ((P1.ex e2).mono (by omega)) (f1.trans e2.fw) pr np⟩
      exact fun H'' f => .inr ⟨a, ["d", "c"], .str "d", [], .str, rfl, f _ _ za ha, by decide, by decide, by decide, .str "d" (by decide), .inr ⟨"d", List.mem_cons_self, rfl⟩, rfl⟩
    rintro σ' H'' ⟨rfl, rfl⟩
    refine ⟨_, rfl, by show 1 ≤ sizeLine; decide, fun l1 nl1 => ?_⟩
    have zl1 := (P1.off nl1).1
    (generalize g_H2 : upd _ l1 _ = H2); have hl1 := gat g_H2; have e2 := gex g_H2 nl1; clear g_H2
    refine ⟨by show 6 ≤ sizeLine; decide, fun b nb => ?_⟩
    have P2 := P1.ex e2
    have zb := (P2.off nb).1
    (generalize g_H5 : upd _ b _ = H5); have hb := gat g_H5; have e5 := gex g_H5 nb; clear g_H5
    have e15 : Ex H'' H5 := fun _ _ q => e5 _ _ (e2 _ _ q)
    refine ⟨z, c, cells, _, b, _, rfl, P2.ex e5, by omega, hb, by show 0 < 6; omega, by show 6 ≤ 100; omega, zb, fun j y H6 hy P6 f6 => ?_⟩
    refine ⟨by show 2 ≤ sizeLine; decide, fun a na => ?_⟩
    have za := (P6.off na).1
    (generalize g_H7 : upd _ a _ = H7); have ha := gat g_H7; have e7 := gex g_H7 na; clear g_H7
    refine ⟨by show 2 ≤ sizeLine; decide, fun pr np => fin _ _ 1 ?_ ((P6.ex e7).mono (by omega)) (((f1.trans e15.fw).trans f6).trans e7.fw) pr np⟩
    have wrong : inS y ["c", "d"] = false → (∀ H', Fw z H7 H' → ∃ g, Th H' y g) → Aft z H7 fun H'' => SumBad H'' ["c", "d"] (.ref a) 1 := fun h1 h2 H' f => by
      obtain ⟨g, d⟩ := h2 H' f
      exact .inr ⟨a, ["c"], y, [], g, rfl, f _ _ za ha, by decide, by decide, by decide, d, .inl h1, rfl⟩
    match j, hy with
    | 0, hy => cases hy; exact wrong rfl fun H' _ => ⟨_, .non⟩
    | 1, hy => cases hy; exact wrong (by decide) fun H' _ => ⟨_, .str "s" (by decide)⟩
    | 2, hy => cases hy; exact wrong (by decide) fun H' _ => ⟨_, .str "z" (by decide)⟩
    | 3, hy => cases hy; exact wrong rfl fun H' f => ⟨_, .lst (f _ _ zl1 (e7 _ _ (f6 _ _ zl1 (e5 _ _ hl1))))⟩
    | 4, hy => cases hy; exact wrong rfl fun H' _ => ⟨_, .int 0⟩
    | 5, hy => cases hy; exact wrong (by decide) fun H' _ => ⟨_, .str "C" (by decide)⟩
    | j + 6, hy => exact absurd (List.getElem?_eq_some_iff.mp hy).1 (by show ¬ j + 6 < 6; omega)
theorem ok_law_bent_total (T : Tx K mg w) : FnOk P w K mg base CX0 3 T.f_law_bent_total.a T.f_law_bent_total.fd ["_law_pen_here", "_law_good"] (spBentOf TotB) := by
  refine T.f_law_bent_total.F.ok sc_law_bent_total (fun vs H Q E h => ?_) (fun cdv A outer s H vs Q E hr h => ?_)
  · obtain ⟨z, c, cells, t, g, r0, r1, c0, c1, x0, x1, y0, y1, y2, rfl, _⟩ := h
    rfl
  · obtain ⟨z, c, cells, t, g, r0, r1, c0, c1, x0, x1, y0, y1, y2, rfl, PA, ht, CS, k⟩ := h
    refine ⟨_, (pss_cons (ps_set (i := 2) sc_law_bent_total.nd rfl (Or.inl rfl) (pe_call (ok_law_draw T) (hr.mono (by decide)) (by rfl) T.f_law_draw.m T.f_law_draw.F.kp (bd_law_draw T) .nil pass0 (pa_cons (pv 0) (pa_cons (pe_callB call_len_seq (by rfl) T.b_len (by decide +kernel) (pa_cons (pv 1) pa_nil)) pa_nil))))
      (pss_cons (ps_set (i := 3) sc_law_bent_total.nd rfl (Or.inl rfl) (pe_tup (pa_cons pe_str (pa_cons pe_int pa_nil))))
      (pss_cons (ps_set (i := 4) sc_law_bent_total.nd rfl (Or.inl rfl) (pe_lst (pa_cons (pe_tup pa_nil) (pa_cons pe_non (pa_cons (pe_lst (pa_cons (pv 3) pa_nil)) (pa_cons (pe_tup (pa_cons (pv 3) (pa_cons (pv 3) pa_nil))) (pa_cons (pe_tup (pa_cons (pe_tup (pa_cons pe_str (pa_cons pe_int pa_nil))) pa_nil)) (pa_cons (pe_tup (pa_cons (pe_tup (pa_cons pe_str (pa_cons pe_int pa_nil))) pa_nil)) (pa_cons (pe_tup (pa_cons (pe_tup (pa_cons pe_str (pa_cons pe_int pa_nil))) pa_nil)) (pa_cons (pe_tup (pa_cons (pe_tup (pa_cons pe_str (pa_cons pe_bl pa_nil))) pa_nil)) (pa_cons (pe_tup (pa_cons (pe_tup (pa_cons pe_str (pa_cons pe_str pa_nil))) pa_nil)) pa_nil)))))))))))
      (pss_cons (ps_set (i := 4) sc_law_bent_total.nd rfl (Or.inl rfl) (pe_op op_cat (pv 4) (pe_lst (pa_cons (pe_tup (pa_cons (pe_tup (pa_cons (pe_lst (pa_cons pe_str pa_nil)) (pa_cons pe_int pa_nil))) pa_nil)) (pa_cons (pe_tup (pa_cons (pv 3) (pa_cons (pe_tup (pa_cons pe_dnewK (pa_cons pe_int pa_nil))) pa_nil))) pa_nil)))))
      (pss_cons (ps_set (i := 4) sc_law_bent_total.nd rfl (Or.inl rfl) (pe_op op_cat (pv 4) (pe_lst (pa_cons (pe_tup (pa_cons (pv 3) (pa_cons (pe_lst (pa_cons pe_str (pa_cons pe_int pa_nil))) pa_nil))) (pa_cons (pe_tup (pa_cons (pv 3) (pa_cons (pe_tup (pa_cons pe_str pa_nil)) pa_nil))) (pa_cons (pe_tup (pa_cons (pv 3) (pa_cons (pe_tup (pa_cons pe_str (pa_cons pe_int (pa_cons pe_int pa_nil)))) pa_nil))) (pa_cons (pe_tup (pa_cons (pe_tup (pa_cons pe_str (pa_cons (pe_op op_sub pe_int pe_int) pa_nil))) pa_nil)) (pa_cons pe_str (pa_cons (pe_tup (pa_cons pe_str (pa_cons pe_int pa_nil))) (pa_cons (pe_tup (pa_cons (pv 3) (pa_cons pe_non pa_nil))) pa_nil))))))))))
      (Evl.pss_cut (ps_set (i := 5) sc_law_bent_total.nd rfl (Or.inl rfl) (pe_ix ix_list (pv 4) (pe_call (ok_law_draw T) (hr.mono (by decide)) (by rfl) T.f_law_draw.m T.f_law_draw.F.kp (bd_law_draw T) .nil pass0 (pa_cons (pv 0) (pa_cons (pe_callB call_len_seq (by rfl) T.b_len (by decide +kernel) (pa_cons (pv 4) pa_nil)) pa_nil))) (fun _ _ => rfl)))
      (pss_one (ps_ret (pe_tup (pa_cons (pe_op op_catA (pe_op op_catA (pe_slice sl_tup (pv 1) po_none (po_some (pv 2))) (pe_tup (pa_cons (pe_tup (pa_cons (pe_ix ix_tup (pe_ix ix_tup (pv 1) (pv 2) (fun _ _ => rfl)) pe_int (fun _ _ => rfl)) (pa_cons (pv 5) pa_nil))) pa_nil))) (pe_slice sl_tup (pv 1) (po_some (pe_op op_add (pv 2) pe_int)) po_none)) (pa_cons (pv 2) pa_nil))))))))))), ?_⟩

    have fin : ∀ H' v (n : Nat), Aft z H' (TotB v n) → PenAt H' z c cells (t + 10) → Fw z H H' → ∀ pr, H' pr = none → Q (.ref pr) (upd H' pr (.tup [v, .int n])) := fun H' v n W P f pr np =>
      k pr v n _ (W.fw (Ex.new np).fw) upd_same (f.backR np (P.off np).1) (P.ex (Ex.new np)) (f.trans (Ex.new np).fw)
    refine ⟨_, rfl, _, rfl, g, _, rfl, .inr (sqT CS.g), z, c, cells, _, _, rfl, PA, by omega, by show (0 : Int) < ((2 : Nat) : Int); decide, by show ((2 : Nat) : Int) ≤ 100000; decide, fun at_ H1 a0 al P1 f1 => ?_⟩
    obtain ⟨m, rfl⟩ : ∃ i : Nat, at_ = (i : Int) := ⟨at_.toNat, by omega⟩
    have m2 : m < 2 := by have : ((m : Nat) : Int) < 2 := al; omega
    have CS1 := CS.of (PA.tups f1)
    refine ⟨by show 2 ≤ sizeLine; decide, fun row nrow => ?_⟩
    have z_row := (P1.off nrow).1
    (generalize g_H2 : upd _ row _ = H2); have h_row := gat g_H2; have e2 := gex g_H2 nrow; clear g_H2
    have P2 := P1.ex e2
    refine ⟨by decide, fun q0 nq0 => ?_⟩
    have z_q0 := (P2.off nq0).1
    (generalize g_H3 : upd _ q0 _ = H3); have h_q0 := gat g_H3; have e3 := gex g_H3 nq0; clear g_H3
    have P3 := P2.ex e3
    refine ⟨_, rfl, by show 1 ≤ sizeLine; decide, fun q2 nq2 => ?_⟩
    have z_q2 := (P3.off nq2).1
    (generalize g_H4 : upd _ q2 _ = H4); have h_q2 := gat g_H4; have e4 := gex g_H4 nq2; clear g_H4
    have P4 := P3.ex e4
    refine ⟨_, rfl, _, rfl, by show 2 ≤ sizeLine; decide, fun q3 nq3 => ?_⟩
    have z_q3 := (P4.off nq3).1
    (generalize g_H5 : upd _ q3 _ = H5); have h_q3 := gat g_H5; have e5 := gex g_H5 nq3; clear g_H5
    have P5 := P4.ex e5
    refine ⟨by show 2 ≤ sizeLine; decide, fun w4 nw4 => ?_⟩
    have z_w4 := (P5.off nw4).1
    (generalize g_H6 : upd _ w4 _ = H6); have h_w4 := gat g_H6; have e6 := gex g_H6 nw4; clear g_H6
    have P6 := P5.ex e6
    refine ⟨by show 1 ≤ sizeLine; decide, fun q4 nq4 => ?_⟩
    have z_q4 := (P6.off nq4).1
    (generalize g_H7 : upd _ q4 _ = H7); have h_q4 := gat g_H7; have e7 := gex g_H7 nq4; clear g_H7
    have P7 := P6.ex e7
    refine ⟨by show 2 ≤ sizeLine; decide, fun w5 nw5 => ?_⟩
    have z_w5 := (P7.off nw5).1
    (generalize g_H8 : upd _ w5 _ = H8); have h_w5 := gat g_H8; have e8 := gex g_H8 nw5; clear g_H8
    have P8 := P7.ex e8
    refine ⟨by show 1 ≤ sizeLine; decide, fun q5 nq5 => ?_⟩
    have z_q5 := (P8.off nq5).1
    (generalize g_H9 : upd _ q5 _ = H9); have h_q5 := gat g_H9; have e9 := gex g_H9 nq5; clear g_H9
    have P9 := P8.ex e9
    refine ⟨by show 2 ≤ sizeLine; decide, fun w6 nw6 => ?_⟩
    have z_w6 := (P9.off nw6).1
    (generalize g_H10 : upd _ w6 _ = H10); have h_w6 := gat g_H10; have e10 := gex g_H10 nw6; clear g_H10
    have P10 := P9.ex e10
    refine ⟨by show 1 ≤ sizeLine; decide, fun q6 nq6 => ?_⟩
    have z_q6 := (P10.off nq6).1
    (generalize g_H11 : upd _ q6 _ = H11); have h_q6 := gat g_H11; have e11 := gex g_H11 nq6; clear g_H11
    have P11 := P10.ex e11
    refine ⟨by show 2 ≤ sizeLine; decide, fun w7 nw7 => ?_⟩
    have z_w7 := (P11.off nw7).1
    (generalize g_H12 : upd _ w7 _ = H12); have h_w7 := gat g_H12; have e12 := gex g_H12 nw7; clear g_H12
    have P12 := P11.ex e12
    refine ⟨by show 1 ≤ sizeLine; decide, fun q7 nq7 => ?_⟩
    have z_q7 := (P12.off nq7).1
    (generalize g_H13 : upd _ q7 _ = H13); have h_q7 := gat g_H13; have e13 := gex g_H13 nq7; clear g_H13
    have P13 := P12.ex e13
    refine ⟨by show 2 ≤ sizeLine; decide, fun w8 nw8 => ?_⟩
    have z_w8 := (P13.off nw8).1
    (generalize g_H14 : upd _ w8 _ = H14); have h_w8 := gat g_H14; have e14 := gex g_H14 nw8; clear g_H14
    have P14 := P13.ex e14
    refine ⟨by show 1 ≤ sizeLine; decide, fun q8 nq8 => ?_⟩
    have z_q8 := (P14.off nq8).1
    (generalize g_H15 : upd _ q8 _ = H15); have h_q8 := gat g_H15; have e15 := gex g_H15 nq8; clear g_H15
    have P15 := P14.ex e15
    refine ⟨by show 9 ≤ sizeLine; decide, fun L1 nL1 => ?_⟩
    have z_L1 := (P15.off nL1).1
    (generalize g_H16 : upd _ L1 _ = H16); have h_L1 := gat g_H16; have e16 := gex g_H16 nL1; clear g_H16
    have P16 := P15.ex e16
    refine ⟨_, rfl, by show 1 ≤ sizeLine; decide, fun ls nls => ?_⟩
    have z_ls := (P16.off nls).1
    (generalize g_H17 : upd _ ls _ = H17); have h_ls := gat g_H17; have e17 := gex g_H17 nls; clear g_H17
    have P17 := P16.ex e17
    refine ⟨by show 2 ≤ sizeLine; decide, fun w9 nw9 => ?_⟩
    have z_w9 := (P17.off nw9).1
    (generalize g_H18 : upd _ w9 _ = H18); have h_w9 := gat g_H18; have e18 := gex g_H18 nw9; clear g_H18
    have P18 := P17.ex e18
    refine ⟨by show 1 ≤ sizeLine; decide, fun q9 nq9 => ?_⟩
    have z_q9 := (P18.off nq9).1
    (generalize g_H19 : upd _ q9 _ = H19); have h_q9 := gat g_H19; have e19 := gex g_H19 nq9; clear g_H19
    have P19 := P18.ex e19
    refine ⟨_, rfl, fun d nd => ?_⟩
    have z_d := (P19.off nd).1
    (generalize g_H20 : upd _ d _ = H20); have h_d := gat g_H20; have e20 := gex g_H20 nd; clear g_H20
    have P20 := P19.ex e20
    refine ⟨by show 2 ≤ sizeLine; decide, fun w10 nw10 => ?_⟩
    have z_w10 := (P20.off nw10).1
    (generalize g_H21 : upd _ w10 _ = H21); have h_w10 := gat g_H21; have e21 := gex g_H21 nw10; clear g_H21
    have P21 := P20.ex e21
    refine ⟨by show 2 ≤ sizeLine; decide, fun q10 nq10 => ?_⟩
    have z_q10 := (P21.off nq10).1
    (generalize g_H22 : upd _ q10 _ = H22); have h_q10 := gat g_H22; have e22 := gex g_H22 nq10; clear g_H22
    have P22 := P21.ex e22
    refine ⟨by show 2 ≤ sizeLine; decide, fun L2 nL2 => ?_⟩
    have z_L2 := (P22.off nL2).1
    (generalize g_H23 : upd _ L2 _ = H23); have h_L2 := gat g_H23; have e23 := gex g_H23 nL2; clear g_H23
    have P23 := P22.ex e23
    refine ⟨L1, L2, _, _, rfl, rfl, (e23 _ _ (e22 _ _ (e21 _ _ (e20 _ _ (e19 _ _ (e18 _ _ (e17 _ _ h_L1))))))), h_L2, by show 9 + 2 ≤ sizeLine; decide, fun L3 nL3 => ?_⟩
    have z_L3 := (P23.off nL3).1
    (generalize g_H24 : upd _ L3 _ = H24); have h_L3 := gat g_H24; have e24 := gex g_H24 nL3; clear g_H24
    have P24 := P23.ex e24
    refine ⟨_, rfl, _, rfl, by show 2 ≤ sizeLine; decide, fun l11 nl11 => ?_⟩
    have z_l11 := (P24.off nl11).1
    (generalize g_H25 : upd _ l11 _ = H25); have h_l11 := gat g_H25; have e25 := gex g_H25 nl11; clear g_H25
    have P25 := P24.ex e25
    refine ⟨by show 2 ≤ sizeLine; decide, fun q11 nq11 => ?_⟩
    have z_q11 := (P25.off nq11).1
    (generalize g_H26 : upd _ q11 _ = H26); have h_q11 := gat g_H26; have e26 := gex g_H26 nq11; clear g_H26
    have P26 := P25.ex e26
    refine ⟨_, rfl, by show 1 ≤ sizeLine; decide, fun w12 nw12 => ?_⟩
    have z_w12 := (P26.off nw12).1
    (generalize g_H27 : upd _ w12 _ = H27); have h_w12 := gat g_H27; have e27 := gex g_H27 nw12; clear g_H27
    have P27 := P26.ex e27
    refine ⟨by show 2 ≤ sizeLine; decide, fun q12 nq12 => ?_⟩
    have z_q12 := (P27.off nq12).1
    (generalize g_H28 : upd _ q12 _ = H28); have h_q12 := gat g_H28; have e28 := gex g_H28 nq12; clear g_H28
    have P28 := P27.ex e28
    refine ⟨_, rfl, by show 3 ≤ sizeLine; decide, fun w13 nw13 => ?_⟩
    have z_w13 := (P28.off nw13).1
    (generalize g_H29 : upd _ w13 _ = H29); have h_w13 := gat g_H29; have e29 := gex g_H29 nw13; clear g_H29
    have P29 := P28.ex e29
    refine ⟨by show 2 ≤ sizeLine; decide, fun q13 nq13 => ?_⟩
    have z_q13 := (P29.off nq13).1
    (generalize g_H30 : upd _ q13 _ = H30); have h_q13 := gat g_H30; have e30 := gex g_H30 nq13; clear g_H30
    have P30 := P29.ex e30
    refine ⟨_, _, rfl, rfl, by show 2 ≤ sizeLine; decide, fun w14 nw14 => ?_⟩
    have z_w14 := (P30.off nw14).1
    (generalize g_H31 : upd _ w14 _ = H31); have h_w14 := gat g_H31; have e31 := gex g_H31 nw14; clear g_H31
    have P31 := P30.ex e31
    refine ⟨by show 1 ≤ sizeLine; decide, fun q14 nq14 => ?_⟩
    have z_q14 := (P31.off nq14).1
    (generalize g_H32 : upd _ q14 _ = H32); have h_q14 := gat g_H32; have e32 := gex g_H32 nq14; clear g_H32
    have P32 := P31.ex e32
    refine ⟨by show 2 ≤ sizeLine; decide, fun q16 nq16 => ?_⟩
    have z_q16 := (P32.off nq16).1
    (generalize g_H33 : upd _ q16 _ = H33); have h_q16 := gat g_H33; have e33 := gex g_H33 nq16; clear g_H33
    have P33 := P32.ex e33
    refine ⟨_, rfl, by show 2 ≤ sizeLine; decide, fun q17 nq17 => ?_⟩
    have z_q17 := (P33.off nq17).1
    (generalize g_H34 : upd _ q17 _ = H34); have h_q17 := gat g_H34; have e34 := gex g_H34 nq17; clear g_H34
    have P34 := P33.ex e34
    refine ⟨by show 7 ≤ sizeLine; decide, fun L4 nL4 => ?_⟩
    have z_L4 := (P34.off nL4).1
    (generalize g_H35 : upd _ L4 _ = H35); have h_L4 := gat g_H35; have e35 := gex g_H35 nL4; clear g_H35
    have P35 := P34.ex e35
    refine ⟨L3, L4, _, _, rfl, rfl, (e35 _ _ (e34 _ _ (e33 _ _ (e32 _ _ (e31 _ _ (e30 _ _ (e29 _ _ (e28 _ _ (e27 _ _ (e26 _ _ (e25 _ _ h_L3))))))))))), h_L4, by show 11 + 7 ≤ sizeLine; decide, fun L5 nL5 => ?_⟩
    have z_L5 := (P35.off nL5).1
    (generalize g_H36 : upd _ L5 _ = H36); have h_L5 := gat g_H36; have e36 := gex g_H36 nL5; clear g_H36
    have P36 := P35.ex e36
    have e1f : Ex H1 H36 := fun _ _ q => e36 _ _ (e35 _ _ (e34 _ _ (e33 _ _ (e32 _ _ (e31 _ _ (e30 _ _ (e29 _ _ (e28 _ _ (e27 _ _ (e26 _ _ (e25 _ _ (e24 _ _ (e23 _ _ (e22 _ _ (e21 _ _ (e20 _ _ (e19 _ _ (e18 _ _ (e17 _ _ (e16 _ _ (e15 _ _ (e14 _ _ (e13 _ _ (e12 _ _ (e11 _ _ (e10 _ _ (e9 _ _ (e8 _ _ (e7 _ _ (e6 _ _ (e5 _ _ (e4 _ _ (e3 _ _ (e2 _ _ (q)))))))))))))))))))))))))))))))))))
    refine ⟨fun σ' H' => ∃ y, Aft z H' (fun H'' => CoverK H'' SK y false) ∧ PenAt H' z c cells (t + 4) ∧ Fw z H1 H' ∧ σ' = [some (.ref z), some (.ref g), some (.int m), some (.ref row), some (.ref L5), some y], ?_, ?_⟩
    · refine ⟨_, rfl, _, rfl, _, rfl, L5, _, rfl, .inl (sq h_L5), z, c, cells, _, _, rfl, P36, by omega, by show (0 : Int) < ((18 : Nat) : Int); decide, by show ((18 : Nat) : Int) ≤ 100000; decide, fun j Ha j0 jl Pa fa => ?_⟩
      obtain ⟨j, rfl⟩ : ∃ i : Nat, j = (i : Int) := ⟨j.toNat, by omega⟩
      have j18 : j < 18 := by have : ((j : Nat) : Int) < 18 := jl; omega
      have hL := fa _ _ z_L5 h_L5
      have TT : ∀ H'', Fw z Ha H'' → ∀ a xs, H36 a = some (.tup xs) → H'' a = some (.tup xs) := fun H'' f' a xs h => Pa.tups f' a xs (P36.tups fa a xs h)
      have pick : ∃ y, ([.ref q0, .non, .ref q2, .ref q3, .ref q4, .ref q5, .ref q6, .ref q7, .ref q8, .ref q9, .ref q10, .ref q11, .ref q12, .ref q13, .ref q14, .str "s", .ref q16, .ref q17] : List V)[j]? = some y ∧ Aft z Ha (fun H'' => CoverK H'' SK y false) := by
        match j, j18 with
        | 0, _ => exact ⟨_, rfl, fun H'' f' => .empty (TT H'' f' _ _ (e36 _ _ (e35 _ _ (e34 _ _ (e33 _ _ (e32 _ _ (e31 _ _ (e30 _ _ (e29 _ _ (e28 _ _ (e27 _ _ (e26 _ _ (e25 _ _ (e24 _ _ (e23 _ _ (e22 _ _ (e21 _ _ (e20 _ _ (e19 _ _ (e18 _ _ (e17 _ _ (e16 _ _ (e15 _ _ (e14 _ _ (e13 _ _ (e12 _ _ (e11 _ _ (e10 _ _ (e9 _ _ (e8 _ _ (e7 _ _ (e6 _ _ (e5 _ _ (e4 _ _ h_q0))))))))))))))))))))))))))))))))))⟩
        | 1, _ => exact ⟨_, rfl, fun H'' f' => .no .non rfl⟩
        | 2, _ => exact ⟨_, rfl, fun H'' f' => .no (.lst (f' _ _ z_q2 (fa _ _ z_q2 (e36 _ _ (e35 _ _ (e34 _ _ (e33 _ _ (e32 _ _ (e31 _ _ (e30 _ _ (e29 _ _ (e28 _ _ (e27 _ _ (e26 _ _ (e25 _ _ (e24 _ _ (e23 _ _ (e22 _ _ (e21 _ _ (e20 _ _ (e19 _ _ (e18 _ _ (e17 _ _ (e16 _ _ (e15 _ _ (e14 _ _ (e13 _ _ (e12 _ _ (e11 _ _ (e10 _ _ (e9 _ _ (e8 _ _ (e7 _ _ (e6 _ _ (e5 _ _ h_q2))))))))))))))))))))))))))))))))))) rfl⟩
        | 3, _ => exact ⟨_, rfl, fun H'' f' => ck_twice (TT H'' f' _ _ (e36 _ _ (e35 _ _ (e34 _ _ (e33 _ _ (e32 _ _ (e31 _ _ (e30 _ _ (e29 _ _ (e28 _ _ (e27 _ _ (e26 _ _ (e25 _ _ (e24 _ _ (e23 _ _ (e22 _ _ (e21 _ _ (e20 _ _ (e19 _ _ (e18 _ _ (e17 _ _ (e16 _ _ (e15 _ _ (e14 _ _ (e13 _ _ (e12 _ _ (e11 _ _ (e10 _ _ (e9 _ _ (e8 _ _ (e7 _ _ (e6 _ _ h_q3)))))))))))))))))))))))))))))))) (TT H'' f' _ _ (e36 _ _ (e35 _ _ (e34 _ _ (e33 _ _ (e32 _ _ (e31 _ _ (e30 _ _ (e29 _ _ (e28 _ _ (e27 _ _ (e26 _ _ (e25 _ _ (e24 _ _ (e23 _ _ (e22 _ _ (e21 _ _ (e20 _ _ (e19 _ _ (e18 _ _ (e17 _ _ (e16 _ _ (e15 _ _ (e14 _ _ (e13 _ _ (e12 _ _ (e11 _ _ (e10 _ _ (e9 _ _ (e8 _ _ (e7 _ _ (e6 _ _ (e5 _ _ (e4 _ _ (e3 _ _ h_row)))))))))))))))))))))))))))))))))))⟩
        | 4, _ => exact ⟨_, rfl, fun H'' f' => ck_row1 (TT H'' f' _ _ (e36 _ _ (e35 _ _ (e34 _ _ (e33 _ _ (e32 _ _ (e31 _ _ (e30 _ _ (e29 _ _ (e28 _ _ (e27 _ _ (e26 _ _ (e25 _ _ (e24 _ _ (e23 _ _ (e22 _ _ (e21 _ _ (e20 _ _ (e19 _ _ (e18 _ _ (e17 _ _ (e16 _ _ (e15 _ _ (e14 _ _ (e13 _ _ (e12 _ _ (e11 _ _ (e10 _ _ (e9 _ _ (e8 _ _ h_q4)))))))))))))))))))))))))))))) (TT H'' f' _ _ (e36 _ _ (e35 _ _ (e34 _ _ (e33 _ _ (e32 _ _ (e31 _ _ (e30 _ _ (e29 _ _ (e28 _ _ (e27 _ _ (e26 _ _ (e25 _ _ (e24 _ _ (e23 _ _ (e22 _ _ (e21 _ _ (e20 _ _ (e19 _ _ (e18 _ _ (e17 _ _ (e16 _ _ (e15 _ _ (e14 _ _ (e13 _ _ (e12 _ _ (e11 _ _ (e10 _ _ (e9 _ _ (e8 _ _ (e7 _ _ h_w4))))))))))))))))))))))))))))))) ⟨_, .str "z" (by decide)⟩ ⟨_, .int 1⟩ (by decide)⟩
        | 5, _ => exact ⟨_, rfl, fun H'' f' => ck_row1 (TT H'' f' _ _ (e36 _ _ (e35 _ _ (e34 _ _ (e33 _ _ (e32 _ _ (e31 _ _ (e30 _ _ (e29 _ _ (e28 _ _ (e27 _ _ (e26 _ _ (e25 _ _ (e24 _ _ (e23 _ _ (e22 _ _ (e21 _ _ (e20 _ _ (e19 _ _ (e18 _ _ (e17 _ _ (e16 _ _ (e15 _ _ (e14 _ _ (e13 _ _ (e12 _ _ (e11 _ _ (e10 _ _ h_q5)))))))))))))))))))))))))))) (TT H'' f' _ _ (e36 _ _ (e35 _ _ (e34 _ _ (e33 _ _ (e32 _ _ (e31 _ _ (e30 _ _ (e29 _ _ (e28 _ _ (e27 _ _ (e26 _ _ (e25 _ _ (e24 _ _ (e23 _ _ (e22 _ _ (e21 _ _ (e20 _ _ (e19 _ _ (e18 _ _ (e17 _ _ (e16 _ _ (e15 _ _ (e14 _ _ (e13 _ _ (e12 _ _ (e11 _ _ (e10 _ _ (e9 _ _ h_w5))))))))))))))))))))))))))))) ⟨_, .str "s" (by decide)⟩ ⟨_, .int 0⟩ (by decide)⟩
        | 6, _ => exact ⟨_, rfl, fun H'' f' => ck_row1 (TT H'' f' _ _ (e36 _ _ (e35 _ _ (e34 _ _ (e33 _ _ (e32 _ _ (e31 _ _ (e30 _ _ (e29 _ _ (e28 _ _ (e27 _ _ (e26 _ _ (e25 _ _ (e24 _ _ (e23 _ _ (e22 _ _ (e21 _ _ (e20 _ _ (e19 _ _ (e18 _ _ (e17 _ _ (e16 _ _ (e15 _ _ (e14 _ _ (e13 _ _ (e12 _ _ h_q6)))))))))))))))))))))))))) (TT H'' f' _ _ (e36 _ _ (e35 _ _ (e34 _ _ (e33 _ _ (e32 _ _ (e31 _ _ (e30 _ _ (e29 _ _ (e28 _ _ (e27 _ _ (e26 _ _ (e25 _ _ (e24 _ _ (e23 _ _ (e22 _ _ (e21 _ _ (e20 _ _ (e19 _ _ (e18 _ _ (e17 _ _ (e16 _ _ (e15 _ _ (e14 _ _ (e13 _ _ (e12 _ _ (e11 _ _ h_w6))))))))))))))))))))))))))) ⟨_, .str "s" (by decide)⟩ ⟨_, .int 10⟩ (by decide)⟩
        | 7, _ => exact ⟨_, rfl, fun H'' f' => ck_row1 (TT H'' f' _ _ (e36 _ _ (e35 _ _ (e34 _ _ (e33 _ _ (e32 _ _ (e31 _ _ (e30 _ _ (e29 _ _ (e28 _ _ (e27 _ _ (e26 _ _ (e25 _ _ (e24 _ _ (e23 _ _ (e22 _ _ (e21 _ _ (e20 _ _ (e19 _ _ (e18 _ _ (e17 _ _ (e16 _ _ (e15 _ _ (e14 _ _ h_q7)))))))))))))))))))))))) (TT H'' f' _ _ (e36 _ _ (e35 _ _ (e34 _ _ (e33 _ _ (e32 _ _ (e31 _ _ (e30 _ _ (e29 _ _ (e28 _ _ (e27 _ _ (e26 _ _ (e25 _ _ (e24 _ _ (e23 _ _ (e22 _ _ (e21 _ _ (e20 _ _ (e19 _ _ (e18 _ _ (e17 _ _ (e16 _ _ (e15 _ _ (e14 _ _ (e13 _ _ h_w7))))))))))))))))))))))))) ⟨_, .str "s" (by decide)⟩ ⟨_, .bl true⟩ (by decide)⟩
        | 8, _ => exact ⟨_, rfl, fun H'' f' => ck_row1 (TT H'' f' _ _ (e36 _ _ (e35 _ _ (e34 _ _ (e33 _ _ (e32 _ _ (e31 _ _ (e30 _ _ (e29 _ _ (e28 _ _ (e27 _ _ (e26 _ _ (e25 _ _ (e24 _ _ (e23 _ _ (e22 _ _ (e21 _ _ (e20 _ _ (e19 _ _ (e18 _ _ (e17 _ _ (e16 _ _ h_q8)))))))))))))))))))))) (TT H'' f' _ _ (e36 _ _ (e35 _ _ (e34 _ _ (e33 _ _ (e32 _ _ (e31 _ _ (e30 _ _ (e29 _ _ (e28 _ _ (e27 _ _ (e26 _ _ (e25 _ _ (e24 _ _ (e23 _ _ (e22 _ _ (e21 _ _ (e20 _ _ (e19 _ _ (e18 _ _ (e17 _ _ (e16 _ _ (e15 _ _ h_w8))))))))))))))))))))))) ⟨_, .str "s" (by decide)⟩ ⟨_, .str "1" (by decide)⟩ (by decide)⟩
        | 9, _ => exact ⟨_, rfl, fun H'' f' => ck_row1 (TT H'' f' _ _ (e36 _ _ (e35 _ _ (e34 _ _ (e33 _ _ (e32 _ _ (e31 _ _ (e30 _ _ (e29 _ _ (e28 _ _ (e27 _ _ (e26 _ _ (e25 _ _ (e24 _ _ (e23 _ _ (e22 _ _ (e21 _ _ (e20 _ _ h_q9)))))))))))))))))) (TT H'' f' _ _ (e36 _ _ (e35 _ _ (e34 _ _ (e33 _ _ (e32 _ _ (e31 _ _ (e30 _ _ (e29 _ _ (e28 _ _ (e27 _ _ (e26 _ _ (e25 _ _ (e24 _ _ (e23 _ _ (e22 _ _ (e21 _ _ (e20 _ _ (e19 _ _ h_w9))))))))))))))))))) ⟨_, .lst (f' _ _ z_ls (fa _ _ z_ls (e36 _ _ (e35 _ _ (e34 _ _ (e33 _ _ (e32 _ _ (e31 _ _ (e30 _ _ (e29 _ _ (e28 _ _ (e27 _ _ (e26 _ _ (e25 _ _ (e24 _ _ (e23 _ _ (e22 _ _ (e21 _ _ (e20 _ _ (e19 _ _ (e18 _ _ h_ls)))))))))))))))))))))⟩ ⟨_, .int 1⟩ rfl⟩
        | 10, _ => exact ⟨_, rfl, fun H'' f' => ck_row2 (TT H'' f' _ _ (e36 _ _ (e35 _ _ (e34 _ _ (e33 _ _ (e32 _ _ (e31 _ _ (e30 _ _ (e29 _ _ (e28 _ _ (e27 _ _ (e26 _ _ (e25 _ _ (e24 _ _ (e23 _ _ h_q10))))))))))))))) (TT H'' f' _ _ (e36 _ _ (e35 _ _ (e34 _ _ (e33 _ _ (e32 _ _ (e31 _ _ (e30 _ _ (e29 _ _ (e28 _ _ (e27 _ _ (e26 _ _ (e25 _ _ (e24 _ _ (e23 _ _ (e22 _ _ (e21 _ _ (e20 _ _ (e19 _ _ (e18 _ _ (e17 _ _ (e16 _ _ (e15 _ _ (e14 _ _ (e13 _ _ (e12 _ _ (e11 _ _ (e10 _ _ (e9 _ _ (e8 _ _ (e7 _ _ (e6 _ _ (e5 _ _ (e4 _ _ (e3 _ _ h_row))))))))))))))))))))))))))))))))))) (TT H'' f' _ _ (e36 _ _ (e35 _ _ (e34 _ _ (e33 _ _ (e32 _ _ (e31 _ _ (e30 _ _ (e29 _ _ (e28 _ _ (e27 _ _ (e26 _ _ (e25 _ _ (e24 _ _ (e23 _ _ (e22 _ _ h_w10)))))))))))))))) ⟨_, .str "s" (by decide)⟩ ⟨_, .int 1⟩ ⟨_, .dic (f' _ _ z_d (fa _ _ z_d (e36 _ _ (e35 _ _ (e34 _ _ (e33 _ _ (e32 _ _ (e31 _ _ (e30 _ _ (e29 _ _ (e28 _ _ (e27 _ _ (e26 _ _ (e25 _ _ (e24 _ _ (e23 _ _ (e22 _ _ (e21 _ _ h_d))))))))))))))))))⟩ ⟨_, .int 1⟩ rfl⟩
        | 11, _ => exact ⟨_, rfl, fun H'' f' => ck_pair (TT H'' f' _ _ (e36 _ _ (e35 _ _ (e34 _ _ (e33 _ _ (e32 _ _ (e31 _ _ (e30 _ _ (e29 _ _ (e28 _ _ (e27 _ _ h_q11))))))))))) (.tup (TT H'' f' _ _ (e36 _ _ (e35 _ _ (e34 _ _ (e33 _ _ (e32 _ _ (e31 _ _ (e30 _ _ (e29 _ _ (e28 _ _ (e27 _ _ (e26 _ _ (e25 _ _ (e24 _ _ (e23 _ _ (e22 _ _ (e21 _ _ (e20 _ _ (e19 _ _ (e18 _ _ (e17 _ _ (e16 _ _ (e15 _ _ (e14 _ _ (e13 _ _ (e12 _ _ (e11 _ _ (e10 _ _ (e9 _ _ (e8 _ _ (e7 _ _ (e6 _ _ (e5 _ _ (e4 _ _ (e3 _ _ h_row)))))))))))))))))))))))))))))))))))) (.no (.lst (f' _ _ z_l11 (fa _ _ z_l11 (e36 _ _ (e35 _ _ (e34 _ _ (e33 _ _ (e32 _ _ (e31 _ _ (e30 _ _ (e29 _ _ (e28 _ _ (e27 _ _ (e26 _ _ h_l11)))))))))))))) rfl)⟩
        | 12, _ => exact ⟨_, rfl, fun H'' f' => ck_pair (TT H'' f' _ _ (e36 _ _ (e35 _ _ (e34 _ _ (e33 _ _ (e32 _ _ (e31 _ _ (e30 _ _ (e29 _ _ h_q12))))))))) (.tup (TT H'' f' _ _ (e36 _ _ (e35 _ _ (e34 _ _ (e33 _ _ (e32 _ _ (e31 _ _ (e30 _ _ (e29 _ _ (e28 _ _ (e27 _ _ (e26 _ _ (e25 _ _ (e24 _ _ (e23 _ _ (e22 _ _ (e21 _ _ (e20 _ _ (e19 _ _ (e18 _ _ (e17 _ _ (e16 _ _ (e15 _ _ (e14 _ _ (e13 _ _ (e12 _ _ (e11 _ _ (e10 _ _ (e9 _ _ (e8 _ _ (e7 _ _ (e6 _ _ (e5 _ _ (e4 _ _ (e3 _ _ h_row)))))))))))))))))))))))))))))))))))) (.tup (TT H'' f' _ _ (e36 _ _ (e35 _ _ (e34 _ _ (e33 _ _ (e32 _ _ (e31 _ _ (e30 _ _ (e29 _ _ (e28 _ _ h_w12)))))))))))⟩
        | 13, _ => exact ⟨_, rfl, fun H'' f' => ck_pair (TT H'' f' _ _ (e36 _ _ (e35 _ _ (e34 _ _ (e33 _ _ (e32 _ _ (e31 _ _ h_q13))))))) (.tup (TT H'' f' _ _ (e36 _ _ (e35 _ _ (e34 _ _ (e33 _ _ (e32 _ _ (e31 _ _ (e30 _ _ (e29 _ _ (e28 _ _ (e27 _ _ (e26 _ _ (e25 _ _ (e24 _ _ (e23 _ _ (e22 _ _ (e21 _ _ (e20 _ _ (e19 _ _ (e18 _ _ (e17 _ _ (e16 _ _ (e15 _ _ (e14 _ _ (e13 _ _ (e12 _ _ (e11 _ _ (e10 _ _ (e9 _ _ (e8 _ _ (e7 _ _ (e6 _ _ (e5 _ _ (e4 _ _ (e3 _ _ h_row)))))))))))))))))))))))))))))))))))) (.tup (TT H'' f' _ _ (e36 _ _ (e35 _ _ (e34 _ _ (e33 _ _ (e32 _ _ (e31 _ _ (e30 _ _ h_w13)))))))))⟩
        | 14, _ => exact ⟨_, rfl, fun H'' f' => ck_row1 (TT H'' f' _ _ (e36 _ _ (e35 _ _ (e34 _ _ (e33 _ _ h_q14))))) (TT H'' f' _ _ (e36 _ _ (e35 _ _ (e34 _ _ (e33 _ _ (e32 _ _ h_w14)))))) ⟨_, .str "s" (by decide)⟩ ⟨_, .int _⟩ (by decide)⟩
        | 15, _ => exact ⟨_, rfl, fun H'' f' => .no (.str "s" (by decide)) rfl⟩
        | 16, _ => exact ⟨_, rfl, fun H'' f' => ck_pair (TT H'' f' _ _ (e36 _ _ (e35 _ _ (e34 _ _ h_q16)))) (.no (.str "s" (by decide)) rfl) (.no (.int 1) rfl)⟩
        | 17, _ => exact ⟨_, rfl, fun H'' f' => ck_pair (TT H'' f' _ _ (e36 _ _ (e35 _ _ h_q17))) (.tup (TT H'' f' _ _ (e36 _ _ (e35 _ _ (e34 _ _ (e33 _ _ (e32 _ _ (e31 _ _ (e30 _ _ (e29 _ _ (e28 _ _ (e27 _ _ (e26 _ _ (e25 _ _ (e24 _ _ (e23 _ _ (e22 _ _ (e21 _ _ (e20 _ _ (e19 _ _ (e18 _ _ (e17 _ _ (e16 _ _ (e15 _ _ (e14 _ _ (e13 _ _ (e12 _ _ (e11 _ _ (e10 _ _ (e9 _ _ (e8 _ _ (e7 _ _ (e6 _ _ (e5 _ _ (e4 _ _ (e3 _ _ h_row)))))))))))))))))))))))))))))))))))) (.no .non rfl)⟩
        | j + 18, h => exact absurd h (by omega)
      obtain ⟨y, hy, W⟩ := pick
      exact ⟨L5, _, _, _, rfl, rfl, sq hL, atI_nat hy, y, W, Pa.mono (by omega), e1f.fw.trans fa, rfl⟩
    rintro σ' H3' ⟨y, W, Pd, f3, rfl⟩
    have CS3 := CS1.of (P1.tups f3)
    have f03 := f1.trans f3
    obtain ⟨rr, cv, lab, hat, hr, hl⟩ : ∃ rr cv, ∃ lab : Str, atI [V.ref r0, V.ref r1] ((m : Nat) : Int) = some (.ref rr) ∧ H3' rr = some (.tup [.str lab, .ref cv]) ∧ lab = (if m = 0 then "c" else "d") := by
      match m, m2 with
      | 0, _ => exact ⟨r0, c0, "c", rfl, CS3.r0, rfl⟩
      | 1, _ => exact ⟨r1, c1, "d", rfl, CS3.r1, rfl⟩
      | m + 2, h => exact absurd h (by omega)
    refine bent_two (i := 1) (j := 2) (G := fun x' H' => ∃ pr, x' = .ref pr ∧ H' pr = some (.tup [.str lab, y]) ∧ Ex H3' H') m2 rfl rfl CS3.g (fun H4 e4 Q1 k1 => ?_) (fun p x' H4 H5 e4 e5 gx hp => ?_)
    · refine ⟨_, rfl, _, rfl, g, _, _, .ref rr, rfl, rfl, sqT (e4 _ _ CS3.g), hat, rr, _, 0, .str lab, rfl, rfl, sqT (e4 _ _ hr), rfl, _, rfl, by show 2 ≤ sizeLine; decide, fun p1 np1 => ?_⟩
      (generalize g_Hb : upd _ p1 _ = Hb); have hp1 := gat g_Hb; have eb := gex g_Hb np1; clear g_Hb
      exact ⟨by show 1 ≤ sizeLine; decide, fun p2 np2 => k1 p2 (.ref p1) _ (fun _ _ q => Ex.new np2 _ _ (eb _ _ q)) upd_same ⟨p1, rfl, Ex.new np2 _ _ hp1, fun _ _ q => Ex.new np2 _ _ (eb _ _ (e4 _ _ q))⟩⟩
    obtain ⟨pr, rfl, hpr, e34⟩ := gx
    have e35 : Ex H3' H5 := fun _ _ q => e5 _ _ (e34 _ _ q)
    have P5 := Pd.ex e35
    refine ⟨_, rfl, by show 2 ≤ sizeLine; decide, fun pq npq => fin _ _ m ?_ (P5.mono (by omega)) (f03.trans e35.fw) pq npq⟩
    intro H'' f'
    have TU := P5.tups f'
    have C5 := CS3.of fun a xs h => TU a xs (e35 _ _ h)
    have b := W H'' (e35.fw.trans f')
    have hq := TU _ _ (e5 _ _ hpr)
    have hr' := TU _ _ hp
    rw [hl] at hq
    match m, m2, hq, hr' with
    | 0, _, hq, hr' => exact tot_first C5 hr' hq b
    | 1, _, hq, hr' => exact tot_second C5 hr' hq b
    | m + 2, h, _, _ => exact absurd h (by omega)
theorem ok_law_bent_covers (T : Tx K mg w) : FnOk P w K mg base CX0 4 T.f_law_bent_covers.a T.f_law_bent_covers.fd ["_law_pen_here", "_law_good"] (spBentOf CovsB) := by
  refine T.f_law_bent_covers.F.ok sc_law_bent_covers (fun vs H Q E h => ?_) (fun cdv A outer s H vs Q E hr h => ?_)
  · obtain ⟨z, c, cells, t, g, r0, r1, c0, c1, x0, x1, y0, y1, y2, rfl, _⟩ := h
    rfl
  · obtain ⟨z, c, cells, t, g, r0, r1, c0, c1, x0, x1, y0, y1, y2, rfl, PA, ht, CS, k⟩ := h
    refine ⟨_, (pss_cons (ps_set (i := 2) sc_law_bent_covers.nd rfl (Or.inl rfl) (pe_call (ok_law_draw T) (hr.mono (by decide)) (by rfl) T.f_law_draw.m T.f_law_draw.F.kp (bd_law_draw T) .nil pass0 (pa_cons (pv 0) (pa_cons pe_int pa_nil))))
      (Evl.pss_cut (ps_if (pt_cmpR op_eq (pv 2) pe_int (nomark _)) (pss_one (ps_ret (pe_tup (pa_cons (pe_call (ok_law_one T) (hr.mono (by decide)) (by rfl) T.f_law_one.m T.f_law_one.F.kp (bd_law_one T) .nil pass0 (pa_cons (pv 0) (pa_cons (pe_lst (pa_cons pe_non (pa_cons (pe_tup pa_nil) (pa_cons (pe_lst pa_nil) (pa_cons (pe_disp (pps_cons pe_str (pe_tup (pa_cons (pe_tup (pa_cons pe_str (pa_cons pe_int pa_nil))) pa_nil)) pps_nil) rfl rfl (by simp) (by decide)) (pa_cons pe_str (pa_cons (pe_op op_catT (pe_op op_catT (pe_op op_catT (pv 1) (pv 1)) (pv 1)) (pv 1)) (pa_cons pe_int pa_nil)))))))) pa_nil))) (pa_cons pe_int pa_nil))))) pss_nil)
      (pss_cons (ps_set (i := 3) sc_law_bent_covers.nd rfl (Or.inl rfl) (pe_call (ok_law_draw T) (hr.mono (by decide)) (by rfl) T.f_law_draw.m T.f_law_draw.F.kp (bd_law_draw T) .nil pass0 (pa_cons (pv 0) (pa_cons (pe_callB call_len_seq (by rfl) T.b_len (by decide +kernel) (pa_cons (pv 1) pa_nil)) pa_nil))))
      (pss_cons (ps_set (i := 4) sc_law_bent_covers.nd rfl (Or.inl rfl) (pe_ix ix_tup (pe_ix ix_tup (pv 1) (pv 3) (fun _ _ => rfl)) pe_int (fun _ _ => rfl)))
      (Evl.pss_cut (ps_set (i := 5) sc_law_bent_covers.nd rfl (Or.inl rfl) (pe_call (ok_law_one T) (hr.mono (by decide)) (by rfl) T.f_law_one.m T.f_law_one.F.kp (bd_law_one T) .nil pass0 (pa_cons (pv 0) (pa_cons (pe_lst (pa_cons (pe_tup (pa_cons (pe_call (ok_law_thing T) (hr.mono (by decide)) (by rfl) T.f_law_thing.m T.f_law_thing.F.kp (bd_law_thing T) .nil pass0 (pa_cons (pv 0) pa_nil)) (pa_cons (pv 4) pa_nil))) (pa_cons (pe_tup (pa_cons pe_str (pa_cons (pv 4) pa_nil))) (pa_cons pe_str (pa_cons pe_non (pa_cons (pe_tup (pa_cons pe_str pa_nil)) (pa_cons (pe_lst (pa_cons pe_str (pa_cons (pv 4) pa_nil))) (pa_cons (pe_tup (pa_cons pe_str (pa_cons (pv 4) (pa_cons pe_int pa_nil)))) pa_nil)))))))) pa_nil))))
      (Evl.pss_cut (ps_if (PW.pt (pw_and (pt_cmpR op_eq (pv 2) pe_int (nomark _)) (pw_and1 (pt_cmpR op_gt (pv 3) pe_int (nomark _))))) (pss_one (ps_set (i := 5) sc_law_bent_covers.nd rfl (Or.inl rfl) (pe_tup (pa_cons (pe_ix ix_tup (pe_ix ix_tup (pv 1) pe_int (fun _ _ => rfl)) pe_int (fun _ _ => rfl)) (pa_cons (pv 4) pa_nil))))) pss_nil)
      (pss_one (ps_ret (pe_tup (pa_cons (pe_op op_cat (pe_op op_cat (pe_callTy call_list_of (by rfl) T.b_list (by decide +kernel) (pa_cons (pe_slice sl_tup (pv 1) po_none (po_some (pv 3))) pa_nil)) (pe_lst (pa_cons (pv 5) pa_nil))) (pe_callTy call_list_of (by rfl) T.b_list (by decide +kernel) (pa_cons (pe_slice sl_tup (pv 1) (po_some (pe_op op_add (pv 3) pe_int)) po_none) pa_nil))) (pa_cons (pv 3) pa_nil))))))))))), ?_⟩

    have fin : ∀ H' v (n : Nat), Aft z H' (CovsB v n) → PenAt H' z c cells (t + 10) → Fw z H H' → ∀ pr, H' pr = none → Q (.ref pr) (upd H' pr (.tup [v, .int n])) := fun H' v n W P f pr np =>
      k pr v n _ (W.fw (Ex.new np).fw) upd_same (f.backR np (P.off np).1) (P.ex (Ex.new np)) (f.trans (Ex.new np).fw)
    refine ⟨_, rfl, z, c, cells, t, 3, rfl, PA, by omega, by decide, by decide, fun way H1 w0 w1 P1 f1 => ?_⟩
    have CS1 := CS.of (PA.tups f1)
    refine ⟨fun σ' H' => H' = H1 ∧ σ' = [some (.ref z), some (.ref g), some (.int way), none, none, none], ?_, ?_⟩
    · refine ⟨_, rfl, rfl, _, rfl, ite2 (fun q => ?_) (fun q => ⟨rfl, rfl⟩)⟩
      refine ⟨_, rfl, by decide, fun t1 nt1 => ?_⟩
      (generalize g_H2 : upd _ t1 _ = H2); have ht1 := gat g_H2; have e2 := gex g_H2 nt1; clear g_H2
      have P2 := P1.ex e2
      refine ⟨by decide, fun l1 nl1 => ?_⟩
      have zl1 := (P2.off nl1).1
      (generalize g_H3 : upd _ l1 _ = H3); have hl1 := gat g_H3; have e3 := gex g_H3 nl1; clear g_H3
      have P3 := P2.ex e3
      intro d nd
      have zd := (P3.off nd).1
      generalize g4 : upd H3 d _ = H4
      have hd4 : H4 d = some (.dK []) := gat g4
      have e4 : Ex H3 H4 := gex g4 nd
      clear g4
      refine ⟨by show 2 ≤ sizeLine; decide, fun s1 ns1 => ?_⟩
      (generalize g_H5 : upd _ s1 _ = H5); have hs1 := gat g_H5; have e5 := gex g_H5 ns1; clear g_H5
      refine ⟨by show 1 ≤ sizeLine; decide, fun s2 ns2 => ?_⟩
      (generalize g_H6 : upd _ s2 _ = H6); have hs2 := gat g_H6; have e6 := gex g_H6 ns2; clear g_H6
      refine ⟨e6 _ _ (e5 _ _ hd4), [(Sum.inr "c", .ref s2)], rfl, by show 1 ≤ 15; omega, ?_⟩
      generalize g7 : upd H6 d _ = H7
      have hd7 := gat g7
      have e7 : Ex H3 H7 := by rw [← g7]; exact Ex.keepD nd fun _ _ q => e6 _ _ (e5 _ _ (e4 _ _ q))
      clear g7
      have P7 := P3.ex e7
      have hg7 : H7 g = some (.tup [.ref r0, .ref r1]) := e7 _ _ (e3 _ _ (e2 _ _ CS1.g))
      refine ⟨_, rfl, _, rfl, g, g, _, _, rfl, rfl, sqT hg7, sqT hg7, (fun q => nomatch q), by show 2 + 2 ≤ sizeLine; decide, (fun q => nomatch q), fun _ p8 np8 => ?_⟩
      (generalize g_H8 : upd _ p8 _ = H8); have hp8 := gat g_H8; have e8 := gex g_H8 np8; clear g_H8
      refine ⟨_, rfl, p8, g, _, _, rfl, rfl, sqT hp8, sqT (e8 _ _ hg7), (fun q => nomatch q), by show 4 + 2 ≤ sizeLine; decide, (fun q => nomatch q), fun _ p9 np9 => ?_⟩
      (generalize g_H9 : upd _ p9 _ = H9); have hp9 := gat g_H9; have e9 := gex g_H9 np9; clear g_H9
      refine ⟨_, rfl, p9, g, _, _, rfl, rfl, sqT hp9, sqT (e9 _ _ (e8 _ _ hg7)), (fun q => nomatch q), by show 6 + 2 ≤ sizeLine; decide, (fun q => nomatch q), fun _ pa npa => ?_⟩
      (generalize g_Ha : upd _ pa _ = Ha); have hpa := gat g_Ha; have ea := gex g_Ha npa; clear g_Ha
      have e7a : Ex H7 Ha := fun _ _ q => ea _ _ (e9 _ _ (e8 _ _ q))
      have e1a : Ex H1 Ha := fun _ _ q => e7a _ _ (e7 _ _ (e3 _ _ (e2 _ _ q)))
      have Pa := P7.ex e7a
      refine ⟨by show 7 ≤ sizeLine; decide, fun b nb => ?_⟩
      have zb := (Pa.off nb).1
      (generalize g_Hb : upd _ b _ = Hb); have hb := gat g_Hb; have eb := gex g_Hb nb; clear g_Hb
      have Pb := Pa.ex eb
      refine ⟨z, c, cells, _, b, _, rfl, Pb, by omega, hb, by show 0 < 7; omega, by show 7 ≤ 100; omega, zb, fun j y Hc hy Pc fc => ?_⟩
      refine ⟨by show 2 ≤ sizeLine; decide, fun pr np => fin _ _ 0 (fun H' f => .inl ⟨?_, rfl⟩) (Pc.mono (by omega)) ((f1.trans e1a.fw).trans (eb.fw.trans fc)) pr np⟩
      have TT : ∀ a xs, Hb a = some (.tup xs) → H' a = some (.tup xs) := fun a xs h => Pc.tups f a xs (Pb.tups fc a xs h)
      match j, hy with
      | 0, hy => cases hy; exact .inl ⟨_, .non, rfl, rfl⟩
      | 1, hy => cases hy; exact .inr ⟨[], ⟨t1, rfl, .inr (TT _ _ (eb _ _ (e7a _ _ (e7 _ _ (e3 _ _ ht1)))))⟩, by show ¬ (1 ≤ 0 ∧ 0 ≤ 3); omega⟩
      | 2, hy => cases hy; exact .inr ⟨[], ⟨l1, rfl, .inl (f _ _ zl1 (fc _ _ zl1 (eb _ _ (e7a _ _ (e7 _ _ hl1)))))⟩, by show ¬ (1 ≤ 0 ∧ 0 ≤ 3); omega⟩
      | 3, hy => cases hy; exact .inl ⟨_, .dic (f _ _ zd (fc _ _ zd (eb _ _ (e7a _ _ hd7)))), rfl, rfl⟩
      | 4, hy => cases hy; exact .inl ⟨_, .str "c" (by decide), rfl, rfl⟩
      | 5, hy => cases hy; exact .inr ⟨_, ⟨pa, rfl, .inr (TT _ _ (eb _ _ hpa))⟩, by show ¬ (1 ≤ 8 ∧ 8 ≤ 3); omega⟩
      | 6, hy => cases hy; exact .inl ⟨_, .int 0, rfl, rfl⟩
      | j + 7, hy => exact absurd (List.getElem?_eq_some_iff.mp hy).1 (by show ¬ j + 7 < 7; omega)
    rintro σ' H' ⟨rfl, rfl⟩
    refine ⟨_, rfl, _, rfl, g, _, rfl, .inr (sqT CS1.g), z, c, cells, _, _, rfl, P1, by omega, by show (0 : Int) < ((2 : Nat) : Int); decide, by show ((2 : Nat) : Int) ≤ 100000; decide, fun at_ H2 a0 al P2 f2 => ?_⟩
    obtain ⟨m, rfl⟩ : ∃ i : Nat, at_ = (i : Int) := ⟨at_.toNat, by omega⟩
    have m2 : m < 2 := by have : ((m : Nat) : Int) < 2 := al; omega
    have f02 := f1.trans f2
    have CS2 := CS1.of (P1.tups f2)
    obtain ⟨rr, cv, lab, hat, hr⟩ : ∃ rr cv, ∃ lab : Str, atI [V.ref r0, V.ref r1] ((m : Nat) : Int) = some (.ref rr) ∧ H2 rr = some (.tup [.str lab, .ref cv]) := by
      match m, m2 with
      | 0, _ => exact ⟨r0, c0, "c", rfl, CS2.r0⟩
      | 1, _ => exact ⟨r1, c1, "d", rfl, CS2.r1⟩
      | m + 2, h => exact absurd h (by omega)
    refine ⟨_, rfl, _, rfl, g, _, _, .ref rr, rfl, rfl, sqT CS2.g, hat, rr, _, 1, .ref cv, rfl, rfl, sqT hr, rfl, ?_⟩
    refine ⟨fun σ' H' => ∃ y, Aft z H' (fun H'' => PRow H'' (KL m) y false) ∧ PenAt H' z c cells (t + 6) ∧ Fw z H H' ∧ Fw z H2 H' ∧ σ' = [some (.ref z), some (.ref g), some (.int way), some (.int m), some (.ref cv), some y], ?_, ?_⟩
    · refine ⟨_, rfl, _, rfl, z, c, cells, _, rfl, P2, by omega, fun x H3 o P3 f3 => ?_⟩
      refine ⟨_, rfl, by show 2 ≤ sizeLine; decide, fun q0 nq0 => ?_⟩
      (generalize g_H4 : upd _ q0 _ = H4); have hq0 := gat g_H4; have e4 := gex g_H4 nq0; clear g_H4
      refine ⟨_, rfl, by show 2 ≤ sizeLine; decide, fun q1 nq1 => ?_⟩
      (generalize g_H5 : upd _ q1 _ = H5); have hq1 := gat g_H5; have e5 := gex g_H5 nq1; clear g_H5
      refine ⟨by show 1 ≤ sizeLine; decide, fun q4 nq4 => ?_⟩
      (generalize g_H6 : upd _ q4 _ = H6); have hq4 := gat g_H6; have e6 := gex g_H6 nq4; clear g_H6
      have P6 := ((P3.ex e4).ex e5).ex e6
      refine ⟨_, rfl, by show 2 ≤ sizeLine; decide, fun q5 nq5 => ?_⟩
      have zq5 := (P6.off nq5).1
      (generalize g_H7 : upd _ q5 _ = H7); have hq5 := gat g_H7; have e7 := gex g_H7 nq5; clear g_H7
      refine ⟨_, rfl, by show 3 ≤ sizeLine; decide, fun q6 nq6 => ?_⟩
      (generalize g_H8 : upd _ q6 _ = H8); have hq6 := gat g_H8; have e8 := gex g_H8 nq6; clear g_H8
      have P8 := (P6.ex e7).ex e8
      refine ⟨by show 7 ≤ sizeLine; decide, fun b nb => ?_⟩
      have zb := (P8.off nb).1
      (generalize g_H9 : upd _ b _ = H9); have hb := gat g_H9; have e9 := gex g_H9 nb; clear g_H9
      have P9 := P8.ex e9
      have e39 : Ex H3 H9 := fun _ _ q => e9 _ _ (e8 _ _ (e7 _ _ (e6 _ _ (e5 _ _ (e4 _ _ q)))))
      refine ⟨z, c, cells, _, b, _, rfl, P9, by omega, hb, by show 0 < 7; omega, by show 7 ≤ 100; omega, zb, fun j y Hc hy Pc fc => ?_⟩
      have f2c : Fw z H2 Hc := f3.trans (e39.fw.trans fc)
      refine ⟨y, fun H' f => ?_, Pc.mono (by omega), f02.trans f2c, f2c, rfl⟩
      have TT : ∀ a xs, H9 a = some (.tup xs) → H' a = some (.tup xs) := fun a xs h => Pc.tups f a xs (P9.tups fc a xs h)
      obtain ⟨gx, dx⟩ := o.2 H' ((e39.fw.trans fc).trans f)
      match j, hy with
      | 0, hy => cases hy; exact .label (TT _ _ (e9 _ _ (e8 _ _ (e7 _ _ (e6 _ _ (e5 _ _ hq0)))))) dx (.inl o.1)
      | 1, hy => cases hy; exact .label (TT _ _ (e9 _ _ (e8 _ _ (e7 _ _ (e6 _ _ hq1))))) (.str "s" (by decide)) (.inr (by unfold KL; split <;> decide))
      | 2, hy => cases hy; exact .no (.str "c" (by decide)) rfl
      | 3, hy => cases hy; exact .no .non rfl
      | 4, hy => cases hy; exact .len (TT _ _ (e9 _ _ (e8 _ _ (e7 _ _ hq4)))) (by show ¬ 1 = 2; omega)
      | 5, hy => cases hy; exact .no (.lst (f _ _ zq5 (fc _ _ zq5 (e9 _ _ (e8 _ _ hq5))))) rfl
      | 6, hy => cases hy; exact .len (TT _ _ (e9 _ _ hq6)) (by show ¬ 3 = 2; omega)
      | j + 7, hy => exact absurd (List.getElem?_eq_some_iff.mp hy).1 (by show ¬ j + 7 < 7; omega)
    rintro σ' H3 ⟨y, W, P3, f3, f23, rfl⟩
    have CS3 := CS2.of (P2.tups f23)
    refine ⟨fun σ' H' => ∃ y, Aft z H' (fun H'' => PRow H'' (KL m) y false) ∧ PenAt H' z c cells (t + 6) ∧ Fw z H H' ∧ Ex H3 H' ∧ σ' = [some (.ref z), some (.ref g), some (.int way), some (.int m), some (.ref cv), some y], ?_, ?_⟩
    · refine ⟨_, rfl, rfl, _, rfl, ite2 (fun q => ?_) (fun q => ?_)⟩
      · refine ⟨_, rfl, _, _, rfl, rfl, _, rfl, ite2 (fun q1 => ?_) (fun q1 => ?_)⟩
        · have m1 : m = 1 := by have := of_decide_eq_true q1; omega
          subst m1
          refine ⟨_, rfl, g, _, 0, .ref r0, rfl, rfl, sqT CS3.g, rfl, r0, _, 0, .str "c", rfl, rfl, sqT CS3.r0, rfl, _, rfl, by show 2 ≤ sizeLine; decide, fun p np => ?_⟩
          (generalize g_H4 : upd _ p _ = H4); have hp := gat g_H4; have e4 := gex g_H4 np; clear g_H4
          exact ⟨_, fun H' f => .label ((P3.ex e4).tups f _ _ hp) (.str "c" (by decide)) (.inr (by decide)), P3.ex e4, f3.trans e4.fw, e4, rfl⟩
        · exact ⟨y, W, P3, f3, Ex.refl _, rfl⟩
      · exact iteF ⟨y, W, P3, f3, Ex.refl _, rfl⟩
    rintro σ' H4 ⟨y, W, P4, f4, e4, rfl⟩
    have CS4 := CS3.of fun a xs h => e4 _ _ h
    match m, m2, W with
    | 0, _, W =>
      refine ⟨_, rfl, _, rfl, _, rfl, g, _, rfl, sqT CS4.g, (by show ¬ (HT.sIx 2 0 none = 0 ∧ HT.sIx 2 2 (some 0) = 2); decide), fun p1 np1 => ?_⟩
      (generalize g_H5 : upd _ p1 _ = H5); have hp1 := gat g_H5; have e5 := gex g_H5 np1; clear g_H5
      refine ⟨p1, _, rfl, .inr (sqT hp1), fun l1 nl1 => ?_⟩
      (generalize g_H6 : upd _ l1 _ = H6); have hl1 := gat g_H6; have e6 := gex g_H6 nl1; clear g_H6
      refine ⟨_, rfl, by show 1 ≤ sizeLine; decide, fun l2 nl2 => ?_⟩
      (generalize g_H7 : upd _ l2 _ = H7); have hl2 := gat g_H7; have e7 := gex g_H7 nl2; clear g_H7
      refine ⟨l1, l2, _, _, rfl, rfl, e7 _ _ hl1, hl2, by show 0 + 1 ≤ sizeLine; decide, fun l3 nl3 => ?_⟩
      (generalize g_H8 : upd _ l3 _ = H8); have hl3 := gat g_H8; have e8 := gex g_H8 nl3; clear g_H8
      refine ⟨_, rfl, _, rfl, _, _, rfl, rfl, _, rfl, g, _, rfl, sqT (e8 _ _ (e7 _ _ (e6 _ _ (e5 _ _ CS4.g)))), (by show ¬ (HT.sIx 2 0 (some 1) = 0 ∧ HT.sIx 2 2 none = 2); decide), fun p4 np4 => ?_⟩
      (generalize g_H9 : upd _ p4 _ = H9); have hp4 := gat g_H9; have e9 := gex g_H9 np4; clear g_H9
      refine ⟨p4, _, rfl, .inr (sqT hp4), fun l5 nl5 => ?_⟩
      (generalize g_Ha : upd _ l5 _ = Ha); have hl5 := gat g_Ha; have ea := gex g_Ha nl5; clear g_Ha
      refine ⟨l3, l5, _, _, rfl, rfl, ea _ _ (e9 _ _ hl3), hl5, by show 1 + 1 ≤ sizeLine; decide, fun l6 nl6 => ?_⟩
      (generalize g_Hb : upd _ l6 _ = Hb); have hl6 := gat g_Hb; have eb := gex g_Hb nl6; clear g_Hb
      have e4b : Ex H4 Hb := fun _ _ q => eb _ _ (ea _ _ (e9 _ _ (e8 _ _ (e7 _ _ (e6 _ _ (e5 _ _ q))))))
      have Pb := P4.ex e4b
      refine ⟨_, rfl, by show 2 ≤ sizeLine; decide, fun pr npr => fin _ _ 0 (fun H' f => ?_) (Pb.mono (by omega)) (f4.trans e4b.fw) pr npr⟩
      have zl6 : l6 ≠ z := by
        intro e
        have z6 := (((((((P4.ex e5).ex e6).ex e7).ex e8).ex e9).ex ea).off nl6).1
        exact z6 e
      exact covs_first (g := g) (r0 := r0) (c0 := c0) (c1 := c1) (x0 := x0) (x1 := x1) (y0 := y0) (y1 := y1) (y2 := y2) (f _ _ zl6 hl6) (W H' (e4b.fw.trans f))
    | 1, _, W =>
      refine ⟨_, rfl, _, rfl, _, rfl, g, _, rfl, sqT CS4.g, (by show ¬ (HT.sIx 2 0 none = 0 ∧ HT.sIx 2 2 (some 1) = 2); decide), fun p1 np1 => ?_⟩
      (generalize g_H5 : upd _ p1 _ = H5); have hp1 := gat g_H5; have e5 := gex g_H5 np1; clear g_H5
      refine ⟨p1, _, rfl, .inr (sqT hp1), fun l1 nl1 => ?_⟩
      (generalize g_H6 : upd _ l1 _ = H6); have hl1 := gat g_H6; have e6 := gex g_H6 nl1; clear g_H6
      refine ⟨_, rfl, by show 1 ≤ sizeLine; decide, fun l2 nl2 => ?_⟩
      (generalize g_H7 : upd _ l2 _ = H7); have hl2 := gat g_H7; have e7 := gex g_H7 nl2; clear g_H7
      refine ⟨l1, l2, _, _, rfl, rfl, e7 _ _ hl1, hl2, by show 1 + 1 ≤ sizeLine; decide, fun l3 nl3 => ?_⟩
      (generalize g_H8 : upd _ l3 _ = H8); have hl3 := gat g_H8; have e8 := gex g_H8 nl3; clear g_H8
      refine ⟨_, rfl, _, rfl, _, _, rfl, rfl, _, rfl, g, _, rfl, sqT (e8 _ _ (e7 _ _ (e6 _ _ (e5 _ _ CS4.g)))), (by show ¬ (HT.sIx 2 0 (some 2) = 0 ∧ HT.sIx 2 2 none = 2); decide), fun p4 np4 => ?_⟩
      (generalize g_H9 : upd _ p4 _ = H9); have hp4 := gat g_H9; have e9 := gex g_H9 np4; clear g_H9
      refine ⟨p4, _, rfl, .inr (sqT hp4), fun l5 nl5 => ?_⟩
      (generalize g_Ha : upd _ l5 _ = Ha); have hl5 := gat g_Ha; have ea := gex g_Ha nl5; clear g_Ha
      refine ⟨l3, l5, _, _, rfl, rfl, ea _ _ (e9 _ _ hl3), hl5, by show 2 + 0 ≤ sizeLine; decide, fun l6 nl6 => ?_⟩
      (generalize g_Hb : upd _ l6 _ = Hb); have hl6 := gat g_Hb; have eb := gex g_Hb nl6; clear g_Hb
      have e4b : Ex H4 Hb := fun _ _ q => eb _ _ (ea _ _ (e9 _ _ (e8 _ _ (e7 _ _ (e6 _ _ (e5 _ _ q))))))
      have Pb := P4.ex e4b
      refine ⟨_, rfl, by show 2 ≤ sizeLine; decide, fun pr npr => fin _ _ 1 (fun H' f => ?_) (Pb.mono (by omega)) (f4.trans e4b.fw) pr npr⟩
      have zl6 : l6 ≠ z := by
        intro e
        have z6 := (((((((P4.ex e5).ex e6).ex e7).ex e8).ex e9).ex ea).off nl6).1
        exact z6 e
      exact covs_second (CS4.of fun a xs h => Pb.tups f a xs (e4b _ _ h)) (f _ _ zl6 hl6) (W H' (e4b.fw.trans f))
    | m + 2, h, _ => exact absurd h (by omega)
theorem ok_law {Pr : Program} (T : Tx K mg w) : FnQ Pr w K mg base 12 T.f_law.a T.f_law.fd ["_law_script"] (spLaw K) := by
  refine fnq T.f_law.F sc_law (fun vs H Q E h => ?_) (fun cdv A outer s H vs Q gd hr h => ?_)
  · obtain ⟨a, ns, rfl, _⟩ := h
    rfl
  · obtain ⟨a, ns, rfl, hS, hl, k⟩ := h
    refine ⟨_, (pss_cons (ps_set (i := 1) sc_law.nd rfl (Or.inl rfl) (pe_call (ok_law_pen T) (hr.mono (by decide)) (by rfl) T.f_law_pen.m T.f_law_pen.F.kp (bd_law_pen T) .nil pass0 (pa_cons (pv 0) pa_nil)))
      (pss_cons (ps_for PassesOwn.never rfl (pi_range1 (by rfl) T.b_range (pa_cons pe_int pa_nil)) (pg_name (i := 2) sc_law.nd rfl (Or.inl rfl)) (pss_cons (ps_set (i := 3) sc_law.nd rfl (Or.inl rfl) (pe_tup (pa_cons pe_str (pa_cons pe_str pa_nil))))
      (pss_cons (ps_set (i := 4) sc_law.nd rfl (Or.inl rfl) (pe_tup (pa_cons (pe_tup (pa_cons pe_str (pa_cons (pe_tup (pa_cons (pe_tup (pa_cons pe_str (pa_cons pe_int pa_nil))) (pa_cons (pe_tup (pa_cons pe_str (pa_cons pe_int pa_nil))) pa_nil))) pa_nil))) (pa_cons (pe_tup (pa_cons pe_str (pa_cons (pe_tup (pa_cons (pe_tup (pa_cons pe_str (pa_cons pe_int pa_nil))) (pa_cons (pe_tup (pa_cons pe_str (pa_cons pe_int pa_nil))) (pa_cons (pe_tup (pa_cons pe_str (pa_cons pe_int pa_nil))) pa_nil)))) pa_nil))) pa_nil))))
      (pss_cons (ps_set (i := 5) sc_law.nd rfl (Or.inl rfl) (pe_call (ok_law_one T) (hr.mono (by decide)) (by rfl) T.f_law_one.m T.f_law_one.F.kp (bd_law_one T) .nil pass0 (pa_cons (pv 1) (pa_cons (pe_lst (pa_cons (pe_tup pa_nil) (pa_cons (pe_tup (pa_cons pe_str pa_nil)) (pa_cons (pe_tup (pa_cons pe_str (pa_cons pe_str pa_nil))) pa_nil)))) pa_nil))))
      (pss_cons (ps_if (pt_cmp (pc_notN (pe_call (ok_law_refused T) (hr.mono (by decide)) (by rfl) T.f_law_refused.m T.f_law_refused.F.kp (bd_law_refused T) .nil pass0 (pa_cons (pv 3) (pa_cons (pv 4) (pa_cons (pv 5) pa_nil)))))) (pss_one (ps_ret pe_bl)) pss_nil)
      (pss_cons (ps_if (pt_cmp (pc_notN (pe_call (ok_law_refused T) (hr.mono (by decide)) (by rfl) T.f_law_refused.m T.f_law_refused.F.kp (bd_law_refused T) .nil pass0 (pa_cons (pv 3) (pa_cons (pe_callTy call_list_of (by rfl) T.b_list (by decide +kernel) (pa_cons (pv 4) pa_nil)) (pa_cons (pv 5) pa_nil)))))) (pss_one (ps_ret pe_bl)) pss_nil)
      (pss_cons (ps_set (i := 6) sc_law.nd rfl (Or.inl rfl) (pe_lst (pa_cons (pe_call (ok_law_bent_contents T) (hr.mono (by decide)) (by rfl) T.f_law_bent_contents.m T.f_law_bent_contents.F.kp (bd_law_bent_contents T) .nil pass0 (pa_cons (pv 1) (pa_cons (pv 3) pa_nil))) (pa_cons (pe_call (ok_law_bent_covers T) (hr.mono (by decide)) (by rfl) T.f_law_bent_covers.m T.f_law_bent_covers.F.kp (bd_law_bent_covers T) .nil pass0 (pa_cons (pv 1) (pa_cons (pv 4) pa_nil))) pa_nil))))
      (pss_cons (ps_set (i := 6) sc_law.nd rfl (Or.inl rfl) (pe_op op_cat (pv 6) (pe_lst (pa_cons (pe_call (ok_law_bent_total T) (hr.mono (by decide)) (by rfl) T.f_law_bent_total.m T.f_law_bent_total.F.kp (bd_law_bent_total T) .nil pass0 (pa_cons (pv 1) (pa_cons (pv 4) pa_nil))) (pa_cons (pe_call (ok_law_bent_folded T) (hr.mono (by decide)) (by rfl) T.f_law_bent_folded.m T.f_law_bent_folded.F.kp (bd_law_bent_folded T) .nil pass0 (pa_cons (pv 1) pa_nil)) pa_nil)))))
      (pss_cons (ps_if (pt_cmpR (op_neD hr.units) (pe_call (ok_law_refused T) (hr.mono (by decide)) (by rfl) T.f_law_refused.m T.f_law_refused.F.kp (bd_law_refused T) .nil pass0 (pa_cons (pe_ix ix_tup (pe_ix ix_list (pv 6) pe_int (fun _ _ => rfl)) pe_int (fun _ _ => rfl)) (pa_cons (pe_ix ix_tup (pe_ix ix_list (pv 6) pe_int (fun _ _ => rfl)) pe_int (fun _ _ => rfl)) (pa_cons (pe_ix ix_tup (pe_ix ix_list (pv 6) pe_int (fun _ _ => rfl)) pe_int (fun _ _ => rfl)) pa_nil)))) (pe_tup (pa_cons pe_str (pa_cons (pe_ix ix_tup (pe_ix ix_list (pv 6) pe_int (fun _ _ => rfl)) pe_int (fun _ _ => rfl)) pa_nil))) (nomark _)) (pss_one (ps_ret pe_bl)) pss_nil)
      (pss_cons (ps_if (pt_cmpR (op_neD hr.units) (pe_call (ok_law_refused T) (hr.mono (by decide)) (by rfl) T.f_law_refused.m T.f_law_refused.F.kp (bd_law_refused T) .nil pass0 (pa_cons (pv 3) (pa_cons (pe_ix ix_tup (pe_ix ix_list (pv 6) pe_int (fun _ _ => rfl)) pe_int (fun _ _ => rfl)) (pa_cons (pe_ix ix_tup (pe_ix ix_list (pv 6) pe_int (fun _ _ => rfl)) pe_int (fun _ _ => rfl)) pa_nil)))) (pe_tup (pa_cons pe_str (pa_cons (pe_ix ix_tup (pe_ix ix_list (pv 6) pe_int (fun _ _ => rfl)) pe_int (fun _ _ => rfl)) pa_nil))) (nomark _)) (pss_one (ps_ret pe_bl)) pss_nil)
      (Evl.pss_cut (ps_set (i := 7) sc_law.nd rfl (Or.inl rfl) (pe_slice sl_tupA (pe_tup (pa_cons pe_str (pa_cons pe_str (pa_cons pe_str (pa_cons pe_str (pa_cons pe_str pa_nil)))))) po_none (po_some (pe_op op_add pe_int (pe_call (ok_law_draw T) (hr.mono (by decide)) (by rfl) T.f_law_draw.m T.f_law_draw.F.kp (bd_law_draw T) .nil pass0 (pa_cons (pv 1) (pa_cons pe_int pa_nil)))))))
      (pss_cons (ps_if (pt_cmpR (op_neD hr.units) (pe_call (ok_law_refused T) (hr.mono (by decide)) (by rfl) T.f_law_refused.m T.f_law_refused.F.kp (bd_law_refused T) .nil pass0 (pa_cons (pv 7) (pa_cons (pe_ix ix_tup (pe_ix ix_list (pv 6) pe_int (fun _ _ => rfl)) pe_int (fun _ _ => rfl)) (pa_cons (pe_ix ix_tup (pe_ix ix_list (pv 6) pe_int (fun _ _ => rfl)) pe_int (fun _ _ => rfl)) pa_nil)))) (pe_tup (pa_cons pe_str (pa_cons (pe_op op_add (pe_callB call_len_seq (by rfl) T.b_len (by decide +kernel) (pa_cons (pv 7) pa_nil)) pe_int) pa_nil))) (nomark _)) (pss_one (ps_ret pe_bl)) pss_nil)
      (pss_cons (ps_if (pt_cmpR (op_neD hr.units) (pe_call (ok_law_refused T) (hr.mono (by decide)) (by rfl) T.f_law_refused.m T.f_law_refused.F.kp (bd_law_refused T) .nil pass0 (pa_cons (pv 3) (pa_cons (pe_ix ix_tup (pe_ix ix_list (pv 6) pe_int (fun _ _ => rfl)) pe_int (fun _ _ => rfl)) (pa_cons (pe_ix ix_tup (pe_ix ix_list (pv 6) pe_int (fun _ _ => rfl)) pe_int (fun _ _ => rfl)) pa_nil)))) (pe_tup (pa_cons pe_str (pa_cons (pe_ix ix_tup (pe_ix ix_list (pv 6) pe_int (fun _ _ => rfl)) pe_int (fun _ _ => rfl)) pa_nil))) (nomark _)) (pss_one (ps_ret pe_bl)) pss_nil)
      (pss_cons (ps_if (pt_cmpR (op_neD hr.units) (pe_call (ok_law_refused T) (hr.mono (by decide)) (by rfl) T.f_law_refused.m T.f_law_refused.F.kp (bd_law_refused T) .nil pass0 (pa_cons (pv 3) (pa_cons (pv 4) (pa_cons (pe_ix ix_tup (pe_ix ix_list (pv 6) pe_int (fun _ _ => rfl)) pe_int (fun _ _ => rfl)) pa_nil)))) (pe_tup (pa_cons pe_str (pa_cons (pe_ix ix_tup (pe_ix ix_list (pv 6) pe_int (fun _ _ => rfl)) pe_int (fun _ _ => rfl)) pa_nil))) (nomark _)) (pss_one (ps_ret pe_bl)) pss_nil)
      (pss_cons (ps_set (i := 8) sc_law.nd rfl (Or.inl rfl) (pe_tup (pa_cons (pe_tup (pa_cons pe_str (pa_cons pe_int pa_nil))) pa_nil)))
      (pss_one (ps_if (pt_cmpR (op_neD hr.units) (pe_call (ok_law_refused T) (hr.mono (by decide)) (by rfl) T.f_law_refused.m T.f_law_refused.F.kp (bd_law_refused T) .nil pass0 (pa_cons (pe_tup (pa_cons pe_str pa_nil)) (pa_cons (pe_tup (pa_cons (pe_tup (pa_cons pe_str (pa_cons (pv 8) pa_nil))) (pa_cons (pe_tup (pa_cons pe_str (pa_cons (pv 8) pa_nil))) (pa_cons (pe_tup (pa_cons pe_str (pa_cons (pv 8) pa_nil))) (pa_cons (pe_tup (pa_cons pe_str (pa_cons (pv 8) pa_nil))) pa_nil))))) (pa_cons (pe_tup pa_nil) pa_nil)))) (pe_tup (pa_cons pe_str (pa_cons pe_int pa_nil))) (nomark _)) (pss_one (ps_ret pe_bl)) pss_nil)))))))))))))))))
      (pss_one (ps_ret pe_bl)))), ?_⟩
    refine ⟨_, rfl, a, ns, rfl, hS, hl, fun z c H1 P1 e1 nz nc => ?_⟩
    refine ⟨6, rfl, by decide, by decide, for_range (n := 6) (fun i σ' H' => PenAt H' z c ns (i * 50) ∧ ∃ o2 o3 o4 o5 o6 o7 o8, σ' = [some (.ref a), some (.ref z), o2, o3, o4, o5, o6, o7, o8]) ⟨P1, _, _, _, _, _, _, _, rfl⟩ ?_ ?_⟩
    · rintro i σ' H2 hi ⟨P2, o2, o3, o4, o5, o6, o7, o8, rfl⟩
      refine ⟨by show 2 ≤ sizeLine; decide, fun ct nct => ?_⟩
      (generalize g_H3 : upd _ ct _ = H3); have h_ct := gat g_H3; have e3 := gex g_H3 nct; clear g_H3
      have P3 := P2.ex e3
      refine ⟨by show 2 ≤ sizeLine; decide, fun x0 nx0 => ?_⟩
      (generalize g_H4 : upd _ x0 _ = H4); have h_x0 := gat g_H4; have e4 := gex g_H4 nx0; clear g_H4
      have P4 := P3.ex e4
      refine ⟨by show 2 ≤ sizeLine; decide, fun x1 nx1 => ?_⟩
      (generalize g_H5 : upd _ x1 _ = H5); have h_x1 := gat g_H5; have e5 := gex g_H5 nx1; clear g_H5
      have P5 := P4.ex e5
      refine ⟨by show 2 ≤ sizeLine; decide, fun c0 nc0 => ?_⟩
      (generalize g_H6 : upd _ c0 _ = H6); have h_c0 := gat g_H6; have e6 := gex g_H6 nc0; clear g_H6
      have P6 := P5.ex e6
      refine ⟨by show 2 ≤ sizeLine; decide, fun r0 nr0 => ?_⟩
      (generalize g_H7 : upd _ r0 _ = H7); have h_r0 := gat g_H7; have e7 := gex g_H7 nr0; clear g_H7
      have P7 := P6.ex e7
      refine ⟨by show 2 ≤ sizeLine; decide, fun y0 ny0 => ?_⟩
      (generalize g_H8 : upd _ y0 _ = H8); have h_y0 := gat g_H8; have e8 := gex g_H8 ny0; clear g_H8
      have P8 := P7.ex e8
      refine ⟨by show 2 ≤ sizeLine; decide, fun y1 ny1 => ?_⟩
      (generalize g_H9 : upd _ y1 _ = H9); have h_y1 := gat g_H9; have e9 := gex g_H9 ny1; clear g_H9
      have P9 := P8.ex e9
      refine ⟨by show 2 ≤ sizeLine; decide, fun y2 ny2 => ?_⟩
      (generalize g_H10 : upd _ y2 _ = H10); have h_y2 := gat g_H10; have e10 := gex g_H10 ny2; clear g_H10
      have P10 := P9.ex e10
      refine ⟨by show 3 ≤ sizeLine; decide, fun c1 nc1 => ?_⟩
      (generalize g_H11 : upd _ c1 _ = H11); have h_c1 := gat g_H11; have e11 := gex g_H11 nc1; clear g_H11
      have P11 := P10.ex e11
      refine ⟨by show 2 ≤ sizeLine; decide, fun r1 nr1 => ?_⟩
      (generalize g_H12 : upd _ r1 _ = H12); have h_r1 := gat g_H12; have e12 := gex g_H12 nr1; clear g_H12
      have P12 := P11.ex e12
      refine ⟨by show 2 ≤ sizeLine; decide, fun g ng => ?_⟩
      (generalize g_H13 : upd _ g _ = H13); have h_g := gat g_H13; have e13 := gex g_H13 ng; clear g_H13
      have P13 := P12.ex e13
      have CS : CvS H13 g r0 r1 c0 c1 x0 x1 y0 y1 y2 := ⟨h_g, (e13 _ _ (e12 _ _ (e11 _ _ (e10 _ _ (e9 _ _ (e8 _ _ h_r0)))))), (e13 _ _ h_r1), (e13 _ _ (e12 _ _ (e11 _ _ (e10 _ _ (e9 _ _ (e8 _ _ (e7 _ _ h_c0))))))), (e13 _ _ (e12 _ _ h_c1)), (e13 _ _ (e12 _ _ (e11 _ _ (e10 _ _ (e9 _ _ (e8 _ _ (e7 _ _ (e6 _ _ (e5 _ _ h_x0))))))))), (e13 _ _ (e12 _ _ (e11 _ _ (e10 _ _ (e9 _ _ (e8 _ _ (e7 _ _ (e6 _ _ h_x1)))))))), (e13 _ _ (e12 _ _ (e11 _ _ (e10 _ _ (e9 _ _ h_y0))))), (e13 _ _ (e12 _ _ (e11 _ _ (e10 _ _ h_y1)))), (e13 _ _ (e12 _ _ (e11 _ _ h_y2)))⟩
      have hc0 : H13 ct = some (.tup ST) := (e13 _ _ (e12 _ _ (e11 _ _ (e10 _ _ (e9 _ _ (e8 _ _ (e7 _ _ (e6 _ _ (e5 _ _ (e4 _ _ h_ct))))))))))
      refine ⟨_, rfl, by decide, fun t0 nt0 => ?_⟩
      (generalize g_H14 : upd _ t0 _ = H14); have h_t0 := gat g_H14; have e14 := gex g_H14 nt0; clear g_H14
      have P14 := P13.ex e14
      refine ⟨by show 1 ≤ sizeLine; decide, fun t1 nt1 => ?_⟩
      (generalize g_H15 : upd _ t1 _ = H15); have h_t1 := gat g_H15; have e15 := gex g_H15 nt1; clear g_H15
      have P15 := P14.ex e15
      refine ⟨by show 2 ≤ sizeLine; decide, fun t2 nt2 => ?_⟩
      (generalize g_H16 : upd _ t2 _ = H16); have h_t2 := gat g_H16; have e16 := gex g_H16 nt2; clear g_H16
      have P16 := P15.ex e16
      refine ⟨by show 3 ≤ sizeLine; decide, fun b nb => ?_⟩
      have z_b := (P16.off nb).1
      (generalize g_H17 : upd _ b _ = H17); have h_b := gat g_H17; have e17 := gex g_H17 nb; clear g_H17
      have P17 := P16.ex e17
      refine ⟨z, c, ns, _, b, _, rfl, P17, by omega, h_b, by show 0 < 3; omega, by show 3 ≤ 100; omega, z_b, fun j fo HA hfo PA fA => ?_⟩
      obtain ⟨fa, ms, rfl, hfa, lms, mms, ndms⟩ : ∃ fa, ∃ ms : List Str, fo = .ref fa ∧ HA fa = some (.tup (ms.map V.str)) ∧ ms.length ≤ 20 ∧ (∀ m ∈ ms, m ∈ [("c" : Str), "d"] ∧ m.length ≤ 1000) ∧ ms.Nodup := by
        match j, hfo with
        | 0, h => cases h; exact ⟨t0, [], rfl, P17.tups fA _ _ (e17 _ _ (e16 _ _ (e15 _ _ h_t0))), by decide, by decide, by decide⟩
        | 1, h => cases h; exact ⟨t1, ["d"], rfl, P17.tups fA _ _ (e17 _ _ (e16 _ _ h_t1)), by decide, by decide, by decide⟩
        | 2, h => cases h; exact ⟨t2, ["d", "c"], rfl, P17.tups fA _ _ (e17 _ _ h_t2), by decide, by decide, by decide⟩
        | j + 3, h => exact absurd (List.getElem?_eq_some_iff.mp h).1 (by show ¬ j + 3 < 3; omega)
      have CSA := CS.of fun a xs h => P17.tups fA a xs (e17 _ _ (e16 _ _ (e15 _ _ (e14 _ _ h))))
      have hcA := P17.tups fA _ _ (e17 _ _ (e16 _ _ (e15 _ _ (e14 _ _ hc0))))
      refine ⟨_, rfl, _, rfl, _, rfl, _, _, _, rfl, .inr ⟨rg_taken CSA hcA ⟨g, rfl, .inr CSA.g⟩ hfa lms mms ndms, fun HB eB => ⟨_, rfl, iteNS rfl ?_⟩⟩⟩
      have CSB := CSA.of fun a xs h => eB _ _ h
      refine ⟨_, rfl, _, rfl, g, _, rfl, .inr (sqT CSB.g), fun lv nlv => ?_⟩
      (generalize g_HC : upd _ lv _ = HC); have hlv := gat g_HC; have eC := gex g_HC nlv; clear g_HC
      have eAC : Ex HA HC := fun _ _ q => eC _ _ (eB _ _ q)
      refine ⟨_, rfl, _, _, _, rfl, .inr ⟨rg_taken (CSA.of fun a xs h => eAC _ _ h) (eAC _ _ hcA) ⟨lv, rfl, .inl hlv⟩ (eAC _ _ hfa) lms mms ndms, fun HD eD => ⟨_, rfl, iteNS rfl ?_⟩⟩⟩
      have eAD : Ex HA HD := fun _ _ q => eD _ _ (eAC _ _ q)
      have PD := PA.ex eAD
      have CSD := CSA.of fun a xs h => eAD _ _ h
      have hcD := eAD _ _ hcA
      refine ⟨_, rfl, _, rfl, z, c, ns, _, ct, rfl, PD, by omega, hcD, fun q0 v0 n0 HE W0 hq0 nq0 PE1 fE => ?_⟩
      have CSE := CSD.of (PD.tups fE)
      refine ⟨_, rfl, _, rfl, z, c, ns, _, g, r0, r1, c0, c1, x0, x1, y0, y1, y2, rfl, PE1, by omega, CSE, fun q1 v1 n1 HF W1 hq1 nq1 PF fF => ?_⟩
      have CSF := CSE.of (PE1.tups fF)
      refine ⟨by show 2 ≤ sizeLine; decide, fun b1 nb1 => ?_⟩
      have zb1 := (PF.off nb1).1
      (generalize g_HG : upd _ b1 _ = HG); have hb1 := gat g_HG; have eG := gex g_HG nb1; clear g_HG
      have PG := PF.ex eG
      refine ⟨_, rfl, _, rfl, _, rfl, z, c, ns, _, g, r0, r1, c0, c1, x0, x1, y0, y1, y2, rfl, PG, by omega, CSF.of fun a xs h => eG _ _ h, fun q2 v2 n2 HI W2 hq2 nq2 PI fI => ?_⟩
      refine ⟨_, rfl, z, c, ns, _, rfl, PI, by omega, fun q3 v3 n3 HJ W3 hq3 nq3 PJ fJ => ?_⟩
      refine ⟨by show 2 ≤ sizeLine; decide, fun b2 nb2 => ?_⟩
      (generalize g_HK : upd _ b2 _ = HK); have hb2 := gat g_HK; have eK := gex g_HK nb2; clear g_HK
      have PK1 := PJ.ex eK
      refine ⟨b1, b2, _, _, rfl, rfl, eK _ _ (fJ _ _ zb1 (fI _ _ zb1 hb1)), hb2, by show 2 + 2 ≤ sizeLine; decide, fun b3 nb3 => ?_⟩
      have zb3 := (PK1.off nb3).1
      (generalize g_HL : upd _ b3 _ = HL); have hb3 := gat g_HL; have eL := gex g_HL nb3; clear g_HL
      have eJL : Ex HJ HL := fun _ _ q => eL _ _ (eK _ _ q)
      have fIL := fJ.trans eJL.fw
      have fFL := eG.fw.trans (fI.trans fIL)
      have fEL := fF.trans fFL
      have B : BentAt z c ns (i * 50 + 41) HL ct g r0 r1 c0 c1 x0 x1 y0 y1 y2 b3 q0 q1 q2 q3 v0 v1 v2 v3 n0 n1 n2 n3 := ⟨(PJ.ex eJL).mono (by omega), PE1.tups fEL _ _ (PD.tups fE _ _ hcD), CSE.of (PE1.tups fEL), zb3, hb3, PE1.tups fEL _ _ hq0, PF.tups fFL _ _ hq1, PI.tups fIL _ _ hq2, eJL _ _ hq3, W0.fw fEL, W1.fw fFL, W2.fw fIL, W3.fw eJL.fw⟩
      refine ⟨_, rfl, b3, _, 0, .ref q0, rfl, rfl, sq B.hb, rfl, q0, _, 0, v0, rfl, rfl, sqT B.h0, rfl, _, rfl, b3, _, 1, .ref q1, rfl, rfl, sq B.hb, rfl, q1, _, 0, v1, rfl, rfl, sqT B.h1, rfl, _, rfl, b3, _, 3, .ref q3, rfl, rfl, sq B.hb, rfl, q3, _, 0, v3, rfl, rfl, sqT B.h3, rfl, _, _, _, rfl, .inl ⟨"contents", n0, .cont B.w0.now, fun p1 M1 em1 hp1 => ?_⟩⟩
      have B1 := B.ex em1
      refine ⟨_, rfl, b3, _, 0, .ref q0, rfl, rfl, sq B1.hb, rfl, q0, _, 1, .int n0, rfl, rfl, sqT B1.h0, rfl, by show 2 ≤ sizeLine; decide, fun pq1 npq1 => ?_⟩
      (generalize g_N1 : upd _ pq1 _ = N1); have hpq1 := gat g_N1; have en1 := gex g_N1 npq1; clear g_N1
      refine told_ne (by decide +kernel) (en1 _ _ hp1) hpq1 ⟨_, rfl, iteF ?_⟩
      have B1' := B1.ex en1
      refine ⟨_, rfl, _, rfl, b3, _, 1, .ref q1, rfl, rfl, sq B1'.hb, rfl, q1, _, 0, v1, rfl, rfl, sqT B1'.h1, rfl, _, rfl, b3, _, 3, .ref q3, rfl, rfl, sq B1'.hb, rfl, q3, _, 0, v3, rfl, rfl, sqT B1'.h3, rfl, _, _, _, rfl, .inl ⟨"covers", n1, rg_covs B1'.w1.now B1'.hc, fun p2 M2 em2 hp2 => ?_⟩⟩
      have B2 := B1'.ex em2
      refine ⟨_, rfl, b3, _, 1, .ref q1, rfl, rfl, sq B2.hb, rfl, q1, _, 1, .int n1, rfl, rfl, sqT B2.h1, rfl, by show 2 ≤ sizeLine; decide, fun pq2 npq2 => ?_⟩
      (generalize g_N2 : upd _ pq2 _ = N2); have hpq2 := gat g_N2; have en2 := gex g_N2 npq2; clear g_N2
      refine told_ne (by decide +kernel) (en2 _ _ hp2) hpq2 ⟨_, rfl, iteF ?_⟩
      have B2' := B2.ex en2
      refine ⟨fun σ' H' => ∃ mp, ∃ ks : List Str, H' mp = some (.tup (ks.map V.str)) ∧ ks ≠ [] ∧ Names ks ∧ ks.length ≤ 10 ∧ 4 ≤ ks.length ∧ inS (.str "c") ks = false ∧ inS (.str "d") (ks ++ [("c" : Str)]) = false ∧ BentAt z c ns (i * 50 + 42) H' ct g r0 r1 c0 c1 x0 x1 y0 y1 y2 b3 q0 q1 q2 q3 v0 v1 v2 v3 n0 n1 n2 n3 ∧ σ' = [some (.ref a), some (.ref z), some (.int (0 + (i : Nat))), some (.ref ct), some (.ref g), some (.ref fa), some (.ref b3), some (.ref mp), o8], ?_, ?_⟩
      · refine ⟨by show 5 ≤ sizeLine; decide, fun m5 nm5 => ?_⟩
        (generalize g_HQ : upd _ m5 _ = HQ); have hm5 := gat g_HQ; have eQ := gex g_HQ nm5; clear g_HQ
        have BQ := B2'.ex eQ
        refine ⟨_, rfl, z, c, ns, _, 2, rfl, BQ.pen, by omega, by decide, by decide, fun d HR d0 d1 PR fR => ?_⟩
        have BR := BQ.fw fR (PR.mono (show _ ≤ i * 50 + 42 by omega))
        have hm := BQ.pen.tups fR _ _ hm5
        have nm : Names [("s" : Str), "t", "u", "v", "w"] := ⟨by decide +kernel, by decide⟩
        obtain rfl | rfl : d = 0 ∨ d = 1 := by omega
        · refine ⟨_, _, rfl, rfl, _, rfl, m5, _, rfl, sqT hm, fun q => absurd q (by show ¬ (HT.sIx 5 0 none = 0 ∧ HT.sIx 5 5 (some 4) = 5); decide), fun _ p np => ?_⟩
          (generalize g_HS : upd _ p _ = HS); have hp := gat g_HS; have eS := gex g_HS np; clear g_HS
          exact ⟨p, ["s", "t", "u", "v"], hp, by decide, nm.takeR 4, by decide, by decide, by decide, by decide, BR.ex eS, rfl⟩
        · refine ⟨_, _, rfl, rfl, _, rfl, m5, _, rfl, sqT hm, fun _ => ?_, fun q => absurd (show HT.sIx 5 0 none = 0 ∧ HT.sIx 5 5 (some 5) = 5 by decide) q⟩
          exact ⟨m5, ["s", "t", "u", "v", "w"], hm, by decide, nm, by decide, by decide, by decide, by decide, BR, rfl⟩
      rintro σ' HM ⟨mp, ks, hmp, ksne, knm, k10, k4, kc, kd, B3, rfl⟩
      refine ⟨_, rfl, _, rfl, b3, _, 2, .ref q2, rfl, rfl, sq B3.hb, rfl, q2, _, 0, v2, rfl, rfl, sqT B3.h2, rfl, _, rfl, b3, _, 3, .ref q3, rfl, rfl, sq B3.hb, rfl, q3, _, 0, v3, rfl, rfl, sqT B3.h3, rfl, _, _, _, rfl, .inl ⟨"names", ks.length + 2, rg_names B3.w2.now hmp ksne knm k10 kc kd k4, fun p3 M3 em3 hp3 => ?_⟩⟩
      have B3 := B3.ex em3
      refine ⟨_, rfl, mp, _, rfl, .inr (sqT (em3 _ _ hmp)), _, _, rfl, rfl, by show 2 ≤ sizeLine; decide, fun pq3 npq3 => ?_⟩
      (generalize g_N3 : upd _ pq3 _ = N3); have hpq3 := gat g_N3; have en3 := gex g_N3 npq3; clear g_N3
      dsimp only at hpq3
      rw [show (((ks.map V.str).length : Nat) : Int) + 2 = ((ks.length + 2 : Nat) : Int) by rw [List.length_map]; omega] at hpq3
      refine told_ne (by decide +kernel) (en3 _ _ hp3) hpq3 ⟨_, rfl, iteF ?_⟩
      have B3' := B3.ex en3
      refine ⟨_, rfl, _, rfl, b3, _, 2, .ref q2, rfl, rfl, sq B3'.hb, rfl, q2, _, 0, v2, rfl, rfl, sqT B3'.h2, rfl, _, rfl, b3, _, 3, .ref q3, rfl, rfl, sq B3'.hb, rfl, q3, _, 0, v3, rfl, rfl, sqT B3'.h3, rfl, _, _, _, rfl, .inl ⟨"total", n2, rg_total B3'.w2.now B3'.hc, fun p4 M4 em4 hp4 => ?_⟩⟩
      have B4 := B3'.ex em4
      refine ⟨_, rfl, b3, _, 2, .ref q2, rfl, rfl, sq B4.hb, rfl, q2, _, 1, .int n2, rfl, rfl, sqT B4.h2, rfl, by show 2 ≤ sizeLine; decide, fun pq4 npq4 => ?_⟩
      (generalize g_N4 : upd _ pq4 _ = N4); have hpq4 := gat g_N4; have en4 := gex g_N4 npq4; clear g_N4
      refine told_ne (by decide +kernel) (en4 _ _ hp4) hpq4 ⟨_, rfl, iteF ?_⟩
      have B4' := B4.ex en4
      refine ⟨_, rfl, _, rfl, _, rfl, b3, _, 3, .ref q3, rfl, rfl, sq B4'.hb, rfl, q3, _, 0, v3, rfl, rfl, sqT B4'.h3, rfl, _, _, _, rfl, .inl ⟨"summed", n3, rg_summed B4'.cs B4'.hc ⟨g, rfl, .inr B4'.cs.g⟩ B4'.w3.now, fun p5 M5 em5 hp5 => ?_⟩⟩
      have B5 := B4'.ex em5
      refine ⟨_, rfl, b3, _, 3, .ref q3, rfl, rfl, sq B5.hb, rfl, q3, _, 1, .int n3, rfl, rfl, sqT B5.h3, rfl, by show 2 ≤ sizeLine; decide, fun pq5 npq5 => ?_⟩
      (generalize g_N5 : upd _ pq5 _ = N5); have hpq5 := gat g_N5; have en5 := gex g_N5 npq5; clear g_N5
      refine told_ne (by decide +kernel) (en5 _ _ hp5) hpq5 ⟨_, rfl, iteF ?_⟩
      have B5' := B5.ex en5
      have Q0 := B5'.pen
      refine ⟨by show 2 ≤ sizeLine; decide, fun s1 ns1 => ?_⟩
      (generalize g_K_s1 : upd _ s1 _ = K_s1); have h_s1 := gat g_K_s1; have e_s1 := gex g_K_s1 ns1; clear g_K_s1
      have Q_s1 := Q0.ex e_s1
      refine ⟨by show 1 ≤ sizeLine; decide, fun s2 ns2 => ?_⟩
      (generalize g_K_s2 : upd _ s2 _ = K_s2); have h_s2 := gat g_K_s2; have e_s2 := gex g_K_s2 ns2; clear g_K_s2
      have Q_s2 := Q_s1.ex e_s2
      refine ⟨by show 1 ≤ sizeLine; decide, fun s3 ns3 => ?_⟩
      (generalize g_K_s3 : upd _ s3 _ = K_s3); have h_s3 := gat g_K_s3; have e_s3 := gex g_K_s3 ns3; clear g_K_s3
      have Q_s3 := Q_s2.ex e_s3
      refine ⟨_, rfl, by show 2 ≤ sizeLine; decide, fun u1 nu1 => ?_⟩
      (generalize g_K_u1 : upd _ u1 _ = K_u1); have h_u1 := gat g_K_u1; have e_u1 := gex g_K_u1 nu1; clear g_K_u1
      have Q_u1 := Q_s3.ex e_u1
      refine ⟨_, rfl, by show 2 ≤ sizeLine; decide, fun u2 nu2 => ?_⟩
      (generalize g_K_u2 : upd _ u2 _ = K_u2); have h_u2 := gat g_K_u2; have e_u2 := gex g_K_u2 nu2; clear g_K_u2
      have Q_u2 := Q_u1.ex e_u2
      refine ⟨_, rfl, by show 2 ≤ sizeLine; decide, fun u3 nu3 => ?_⟩
      (generalize g_K_u3 : upd _ u3 _ = K_u3); have h_u3 := gat g_K_u3; have e_u3 := gex g_K_u3 nu3; clear g_K_u3
      have Q_u3 := Q_u2.ex e_u3
      refine ⟨_, rfl, by show 2 ≤ sizeLine; decide, fun u4 nu4 => ?_⟩
      (generalize g_K_u4 : upd _ u4 _ = K_u4); have h_u4 := gat g_K_u4; have e_u4 := gex g_K_u4 nu4; clear g_K_u4
      have Q_u4 := Q_u3.ex e_u4
      refine ⟨by show 4 ≤ sizeLine; decide, fun u5 nu5 => ?_⟩
      (generalize g_K_u5 : upd _ u5 _ = K_u5); have h_u5 := gat g_K_u5; have e_u5 := gex g_K_u5 nu5; clear g_K_u5
      have Q_u5 := Q_u4.ex e_u5
      refine ⟨by decide, fun u6 nu6 => ?_⟩
      (generalize g_K_u6 : upd _ u6 _ = K_u6); have h_u6 := gat g_K_u6; have e_u6 := gex g_K_u6 nu6; clear g_K_u6
      have Q_u6 := Q_u5.ex e_u6
      refine ⟨_, _, _, rfl, .inl ⟨"covers", 0, .many (ks := ["s"]) rfl (e_u6 _ _ (e_u5 _ _ (e_u4 _ _ (e_u3 _ _ (e_u2 _ _ (e_u1 _ _ h_s3)))))) (by decide) (names_st.takeR 1) (by decide) (.inr ⟨_, ⟨u5, rfl, .inr (e_u6 _ _ h_u5)⟩, by show ¬ (1 ≤ 4 ∧ 4 ≤ 3); omega⟩), fun p9 M9 em9 hp9 => ?_⟩⟩
      refine ⟨by show 2 ≤ sizeLine; decide, fun pq9 npq9 => ?_⟩
      (generalize g_N9 : upd _ pq9 _ = N9); have hpq9 := gat g_N9; have en9 := gex g_N9 npq9; clear g_N9
      refine told_ne (by decide +kernel) (en9 _ _ hp9) hpq9 ⟨_, rfl, iteF ?_⟩
      exact ⟨((Q_u6.ex em9).ex en9).mono (by omega), _, _, _, _, _, _, _, rfl⟩
    · exact fun σ' H' h => k _

end
end Tz
namespace TzH
open PySem PySem.Spec PyProof.Rows L2 TzF Tz
def fn : List He.DefD := [⟨("is_whole", none), "is_whole", "is_whole", defArgs s_is_whole, defBody s_is_whole, defScope s_is_whole, [], []⟩, ⟨("is_from", none), "is_from", "is_from", defArgs s_is_from, defBody s_is_from, defScope s_is_from, [], []⟩, ⟨("is_name", none), "is_name", "is_name", defArgs s_is_name, defBody s_is_name, defScope s_is_name, [], []⟩, ⟨("Formula", some "__init__"), "__init__", "Formula.__init__", defArgs s_Formula_init_, defBody s_Formula_init_, defScope s_Formula_init_, [], []⟩, ⟨("number", none), "number", "number", defArgs s_number, defBody s_number, defScope s_number, [], []⟩, ⟨("right_written", none), "right_written", "right_written", defArgs s_right_written, defBody s_right_written, defScope s_right_written, [], []⟩, ⟨("joined_written", none), "joined_written", "joined_written", defArgs s_joined_written, defBody s_joined_written, defScope s_joined_written, [], []⟩, ⟨("complement_written", none), "complement_written", "complement_written", defArgs s_complement_written, defBody s_complement_written, defScope s_complement_written, [], []⟩, ⟨("named", none), "named", "named", defArgs s_named, defBody s_named, defScope s_named, [], []⟩, ⟨("operand_formula", none), "operand_formula", "operand_formula", defArgs s_operand_formula, defBody s_operand_formula, defScope s_operand_formula, [], []⟩, ⟨("put_together", none), "put_together", "put_together", defArgs s_put_together, defBody s_put_together, defScope s_put_together, [], []⟩, ⟨("Formula", some "__invert__"), "__invert__", "Formula.__invert__", defArgs s_Formula_invert_, defBody s_Formula_invert_, defScope s_Formula_invert_, [], []⟩, ⟨("product_formula", none), "product_formula", "product_formula", defArgs s_product_formula, defBody s_product_formula, defScope s_product_formula, [], []⟩, ⟨("Formula", some "__add__"), "__add__", "Formula.__add__", defArgs s_Formula_add_, defBody s_Formula_add_, defScope s_Formula_add_, [], []⟩, ⟨("Formula", some "__rmul__"), "__rmul__", "Formula.__rmul__", defArgs s_Formula_rmul_, defBody s_Formula_rmul_, defScope s_Formula_rmul_, [], []⟩, ⟨("Saying", some "__init__"), "__init__", "Saying.__init__", defArgs s_Saying_init_, defBody s_Saying_init_, defScope s_Saying_init_, [], []⟩, ⟨("Formula", some "__str__"), "__str__", "Formula.__str__", defArgs s_Formula_str_, defBody s_Formula_str_, defScope s_Formula_str_, [], []⟩, ⟨("joined_sayings", none), "joined_sayings", "joined_sayings", defArgs s_joined_sayings, defBody s_joined_sayings, defScope s_joined_sayings, [], []⟩, ⟨("Saying", some "__and__"), "__and__", "Saying.__and__", defArgs s_Saying_and_, defBody s_Saying_and_, defScope s_Saying_and_, [], []⟩, ⟨("simple_saying", none), "simple_saying", "simple_saying", defArgs s_simple_saying, defBody s_simple_saying, defScope s_simple_saying, [], []⟩, ⟨("yes", none), "yes", "yes", defArgs s_yes, defBody s_yes, defScope s_yes, [], []⟩, ⟨("same", none), "same", "same", defArgs s_same, defBody s_same, defScope s_same, [], []⟩, ⟨("is_full", none), "is_full", "is_full", defArgs s_is_full, defBody s_is_full, defScope s_is_full, [], []⟩, ⟨("all_of", none), "all_of", "all_of", defArgs s_all_of, defBody s_all_of, defScope s_all_of, [], []⟩, ⟨("is_pair", none), "is_pair", "is_pair", defArgs s_is_pair, defBody s_is_pair, defScope s_is_pair, [], []⟩, ⟨("is_cover", none), "is_cover", "is_cover", defArgs s_is_cover, defBody s_is_cover, defScope s_is_cover, [], []⟩, ⟨("BadRing", some "__init__"), "__init__", "BadRing.__init__", defArgs s_BadRing_init_, defBody s_BadRing_init_, defScope s_BadRing_init_, [], []⟩, ⟨("check_contents", none), "check_contents", "check_contents", defArgs s_check_contents, defBody s_check_contents, defScope s_check_contents, [], []⟩, ⟨("check_covers", none), "check_covers", "check_covers", defArgs s_check_covers, defBody s_check_covers, defScope s_check_covers, [], []⟩, ⟨("check_totals", none), "check_totals", "check_totals", defArgs s_check_totals, defBody s_check_totals, defScope s_check_totals, [], []⟩, ⟨("check_summed", none), "check_summed", "check_summed", defArgs s_check_summed, defBody s_check_summed, defScope s_check_summed, [], []⟩, ⟨("cover_of", none), "cover_of", "cover_of", defArgs s_cover_of, defBody s_cover_of, defScope s_cover_of, [], []⟩, ⟨("Ring", some "sum_of"), "sum_of", "Ring.sum_of", defArgs s_Ring_sum_of, defBody s_Ring_sum_of, defScope s_Ring_sum_of, [], []⟩, ⟨("Ring", some "wish"), "wish", "Ring.wish", defArgs s_Ring_wish, defBody s_Ring_wish, defScope s_Ring_wish, [], []⟩, ⟨("found_layers", none), "found_layers", "found_layers", defArgs s_found_layers, defBody s_found_layers, defScope s_found_layers, [], []⟩, ⟨("Ring", some "__init__"), "__init__", "Ring.__init__", defArgs s_Ring_init_, defBody s_Ring_init_, defScope s_Ring_init_, [], []⟩, ⟨("_law_pen", none), "_law_pen", "_law_pen", defArgs s_law_pen, defBody s_law_pen, defScope s_law_pen, [], []⟩, ⟨("_law_draw", none), "_law_draw", "_law_draw", defArgs s_law_draw, defBody s_law_draw, defScope s_law_draw, [], []⟩, ⟨("_law_one", none), "_law_one", "_law_one", defArgs s_law_one, defBody s_law_one, defScope s_law_one, [], []⟩, ⟨("_law_refused", none), "_law_refused", "_law_refused", defArgs s_law_refused, defBody s_law_refused, defScope s_law_refused, [], []⟩, ⟨("_law_thing", none), "_law_thing", "_law_thing", defArgs s_law_thing, defBody s_law_thing, defScope s_law_thing, [], []⟩, ⟨("_law_bent_contents", none), "_law_bent_contents", "_law_bent_contents", defArgs s_law_bent_contents, defBody s_law_bent_contents, defScope s_law_bent_contents, [], []⟩, ⟨("_law_bent_folded", none), "_law_bent_folded", "_law_bent_folded", defArgs s_law_bent_folded, defBody s_law_bent_folded, defScope s_law_bent_folded, [], []⟩, ⟨("_law_bent_total", none), "_law_bent_total", "_law_bent_total", defArgs s_law_bent_total, defBody s_law_bent_total, defScope s_law_bent_total, [], []⟩, ⟨("_law_bent_covers", none), "_law_bent_covers", "_law_bent_covers", defArgs s_law_bent_covers, defBody s_law_bent_covers, defScope s_law_bent_covers, [], []⟩, ⟨("law", none), "law", "law", defArgs s_law, defBody s_law, defScope s_law, [], []⟩, ⟨("Formula", some "__mul__"), "__mul__", "Formula.__mul__", defArgs s_Formula_mul_, defBody s_Formula_mul_, defScope s_Formula_mul_, [], []⟩]
def fa : List He.Fa := [.free "int", .free "len", .free "abs", .free "list", .free "isinstance", .free "bool", .free "range", .free "repr", .free "sum", .free "tuple", .free "all", .free "str", .free "sorted", .free "dict", .free "enumerate", .int "TIGHTEST" 5, .int "MOST_LETTERS" 6, .int "MOST_NUMBER" 15, .int "MOST_TIMES_OF" 9, .int "MOST_RING_CHECKS" 3, .int "MOST_RING_NAMES" 5, .int "MOST_TIMES_ADDED" 9, .cls "Formula", .glo "Formula", .keep "Formula", .noat "Formula" "steps", .noat "Formula" "size", .noat "Formula" "written", .noat "Formula" "level", .noat "Formula" "_names", .cls "Saying", .glo "Saying", .keep "Saying", .noat "Saying" "steps", .noat "Saying" "size", .noat "Saying" "written", .noat "Saying" "level", .noat "Saying" "_names", .cls "Ring", .glo "Ring", .keep "Ring", .noat "Ring" "contents", .noat "Ring" "covers", .noat "Ring" "checks", .noat "Ring" "summed", .noat "Ring" "_fits", .noat "Ring" "_layers", .glo "ZerosError", .glo "BadName", .noat "BadName" "name", .glo "BadFormula", .noat "BadFormula" "value", .glo "BadSaying", .noat "BadSaying" "value", .glo "TooLarge", .noat "TooLarge" "what", .noat "TooLarge" "most", .glo "NoWord", .noat "NoWord" "name", .glo "BadRing", .noat "BadRing" "part", .noat "BadRing" "at", .exm "BadRing" "ZerosError" true, .glo "is_whole", .glo "is_from", .glo "is_name", .meth "Formula" "__init__", .glo "number", .glo "right_written", .glo "joined_written", .glo "complement_written", .glo "named", .glo "operand_formula", .glo "put_together", .meth "Formula" "__invert__", .glo "product_formula", .meth "Formula" "__add__", .meth "Formula" "__rmul__", .meth "Saying" "__init__", .meth "Formula" "__str__", .glo "joined_sayings", .meth "Saying" "__and__", .glo "simple_saying", .glo "yes", .glo "same", .glo "is_full", .glo "all_of", .glo "is_pair", .glo "is_cover", .meth "BadRing" "__init__", .glo "check_contents", .glo "check_covers", .glo "check_totals", .glo "check_summed", .glo "cover_of", .meth "Ring" "sum_of", .meth "Ring" "wish", .glo "found_layers", .meth "Ring" "__init__", .glo "_law_pen", .glo "_law_draw", .glo "_law_one", .glo "_law_refused", .glo "_law_thing", .glo "_law_bent_contents", .glo "_law_bent_folded", .glo "_law_bent_total", .glo "_law_bent_covers", .glo "law", .meth "Formula" "__mul__"]
def sm : List TzF.SM := [⟨"property", ("Formula", "names"), "Formula.names", s_Formula_names⟩]
def tf : List He.Defn := []
def ex0 (K : PySem.W.Frag) : Bool := aloneB K (He.ga K "Formula")
def ex1 (K : PySem.W.Frag) : Bool := PySem.W.readsIn K (He.ga K "Formula") (.type "type")
def ex2 (K : PySem.W.Frag) : Bool := eqV (PySem.W.specialIn K (.ref (He.ga K "Formula")) "__getattribute__") (some (some (.builtin "type.__getattribute__")))
def ex3 (K : PySem.W.Frag) : Bool := PySem.W.makesIn K (He.ga K "Formula")
def ex4 (K : PySem.W.Frag) : Bool := aloneB K (He.ga K "Saying")
def ex5 (K : PySem.W.Frag) : Bool := PySem.W.readsIn K (He.ga K "Saying") (.type "type")
def ex6 (K : PySem.W.Frag) : Bool := eqV (PySem.W.specialIn K (.ref (He.ga K "Saying")) "__getattribute__") (some (some (.builtin "type.__getattribute__")))
def ex7 (K : PySem.W.Frag) : Bool := PySem.W.makesIn K (He.ga K "Saying")
def ex8 (K : PySem.W.Frag) : Bool := aloneB K (He.ga K "Ring")
def ex9 (K : PySem.W.Frag) : Bool := PySem.W.readsIn K (He.ga K "Ring") (.type "type")
def ex10 (K : PySem.W.Frag) : Bool := eqV (PySem.W.specialIn K (.ref (He.ga K "Ring")) "__getattribute__") (some (some (.builtin "type.__getattribute__")))
def ex11 (K : PySem.W.Frag) : Bool := PySem.W.makesIn K (He.ga K "Ring")
def ex12 (K : PySem.W.Frag) : Bool := errB K (He.ga K "ZerosError")
def ex13 (K : PySem.W.Frag) : Bool := errB K (He.ga K "BadName")
def ex14 (K : PySem.W.Frag) : Bool := errB K (He.ga K "BadFormula")
def ex15 (K : PySem.W.Frag) : Bool := errB K (He.ga K "BadSaying")
def ex16 (K : PySem.W.Frag) : Bool := errB K (He.ga K "TooLarge")
def ex17 (K : PySem.W.Frag) : Bool := errB K (He.ga K "NoWord")
def ex18 (K : PySem.W.Frag) : Bool := errB K (He.ga K "BadRing")
def ex19 (K : PySem.W.Frag) : Bool := excB K (He.ga K "BadRing")
def ex20 (K : PySem.W.Frag) : Bool := He.Fa.ok K (.str "LETTERS" "abcdefghijklmnopqrstuvwxyz")
def ex21 (K : PySem.W.Frag) : Bool := He.tupB K "NO_NAMES" [.str "full", .str "same", .str "like", .str "isempty", .str "isfull", .str "yes", .str "no"] && He.Fa.ok K (.glo "NO_NAMES")
def ex22 (K : PySem.W.Frag) : Bool := He.valsB K (He.ga K "LEVELS") (([("~", 4), ("*", 3), ("&", 3), ("+", 2), ("-", 2), ("^", 2), ("<<", 1), (">>", 1), ("|", 1)] : List (Str × Int)).map fun p => (p.1, He.Dv.int p.2)) && He.Fa.ok K (.glo "LEVELS")
def ex23 (K : PySem.W.Frag) : Bool := cvalB K (He.ga K "Formula") "MOST_SIZE" 60
def ex24 (K : PySem.W.Frag) : Bool := cvalB K (He.ga K "Saying") "MOST_SIZE" 150
def ex25 (K : PySem.W.Frag) : Bool := PySem.W.selfFirst K (He.ga K "Formula")
def ex26 (K : PySem.W.Frag) : Bool := eqV (PySem.W.specialIn K (.builtin "object.__class__") "__get__") (some (some (.builtin "getset_descriptor.__get__")))
def ex27 (K : PySem.W.Frag) : Bool := decide (PySem.W.takesIn K (.builtin "object.__class__") = some true)
def ex28 (K : PySem.W.Frag) : Bool := eqV (PySem.W.findIn K (.ref (He.ga K "Formula")) "names") (some (some (.ref (recA K ("Formula", "names")))))
def ex29 (K : PySem.W.Frag) : Bool := eqV (PySem.W.specialIn K (.ref (recA K ("Formula", "names"))) "__get__") (some (some (.builtin "property.__get__")))
def ex30 (K : PySem.W.Frag) : Bool := decide (PySem.W.takesIn K (.ref (recA K ("Formula", "names"))) = some true)
def ex (K : PySem.W.Frag) : Bool := [ex0, ex1, ex2, ex3, ex4, ex5, ex6, ex7, ex8, ex9, ex10, ex11, ex12, ex13, ex14, ex15, ex16, ex17, ex18, ex19, ex20, ex21, ex22, ex23, ex24, ex25, ex26, ex27, ex28, ex29, ex30].all fun f => f K
abbrev R : PySem.W.OpenRow := PySem.W.OpenLaw.row PySem.Challenge.rw_twozeros_k80_what_rings_refuse
def as : List Addr := [PySem.cStatics, 3, 6, 4, 21, 31, 51, 70, 89, 108, 127, 146, 155, 162, 163, 170, 177, 184, 191, 198, 205, 212, 219, 226, 233, 234, 358, 369, 376, 383, 388, 395, 402, 409, 416, 423, 430, 437, 444, 547, 558, 565, 572, 579, 584, 591, 598, 605, 612, 617, 669, 680, 687, 694, 701, 708, 713, 720, 725, 732, 739, 746, 753, 760, 767, 774, 781, 788, 795, 0, 20, 30, 50, 69, 88, 107, 126, 145, 154, 161, 169, 176, 183, 190, 197, 204, 211, 218, 225, 232, 357, 368, 375, 382, 387, 394, 401, 408, 415, 422, 429, 436, 443, 546, 557, 564, 571, 578, 583, 590, 597, 604, 611, 616, 668, 679, 686, 693, 700, 707, 712, 719, 724, 731, 738, 745, 752, 759, 766, 773, 780, 787, 794, 15, 16, 17, 18, 19, 29, 32, 48, 49, 67, 68, 86, 87, 105, 106, 124, 125, 143, 144, 149, 150, 151, 152, 153, 156, 157, 158, 159, 160, 164, 165, 166, 167, 168, 171, 172, 173, 174, 175, 178, 179, 180, 181, 182, 185, 186, 187, 188, 189, 192, 193, 194, 195, 196, 199, 200, 201, 202, 203, 206, 207, 208, 209, 210, 213, 214, 215, 216, 217, 220, 221, 222, 223, 224, 227, 228, 229, 230, 231, 246, 255, 264, 271, 278, 285, 292, 299, 306, 313, 320, 327, 334, 341, 348, 355, 356, 359, 360, 363, 364, 365, 366, 367, 370, 371, 372, 373, 374, 377, 378, 379, 380, 381, 384, 385, 386, 389, 390, 391, 392, 393, 396, 397, 398, 399, 400, 403, 404, 405, 406, 407, 410, 411, 412, 413, 414, 417, 418, 419, 420, 421, 424, 425, 426, 427, 428, 431, 432, 433, 434, 435, 438, 439, 440, 441, 442, 456, 465, 474, 481, 488, 495, 502, 509, 516, 523, 530, 537, 544, 545, 548, 549, 552, 553, 554, 555, 556, 559, 560, 561, 562, 563, 566, 567, 568, 569, 570, 573, 574, 575, 576, 577, 580, 581, 582, 585, 586, 587, 588, 589, 592, 593, 594, 595, 596, 599, 600, 601, 602, 603, 606, 607, 608, 609, 610, 613, 614, 615, 631, 639, 647, 652, 659, 666, 667, 670, 671, 674, 675, 676, 677, 678, 681, 682, 683, 684, 685, 688, 689, 690, 691, 692, 695, 696, 697, 698, 699, 702, 703, 704, 705, 706, 709, 710, 711, 714, 715, 716, 717, 718, 721, 722, 723, 726, 727, 728, 729, 730, 733, 734, 735, 736, 737, 740, 741, 742, 743, 744, 747, 748, 749, 750, 751, 754, 755, 756, 757, 758, 761, 762, 763, 764, 765, 768, 769, 770, 771, 772, 775, 776, 777, 778, 779, 782, 783, 784, 785, 786, 789, 790, 791, 792, 793, 47, 66, 85, 104, 123, 142, 245, 253, 254, 263, 270, 277, 284, 291, 298, 305, 312, 319, 326, 333, 340, 347, 354, 455, 463, 464, 473, 480, 487, 494, 501, 508, 515, 522, 529, 536, 543, 630, 626, 638, 646, 651, 658, 665, 42, 43, 44, 45, 46, 61, 62, 63, 64, 65, 80, 81, 82, 83, 84, 99, 100, 101, 102, 103, 118, 119, 120, 121, 122, 137, 138, 139, 140, 141, 242, 243, 244, 252, 256, 262, 265, 266, 267, 268, 269, 272, 273, 274, 275, 276, 279, 280, 281, 282, 283, 286, 287, 288, 289, 290, 293, 294, 295, 296, 297, 300, 301, 302, 303, 304, 307, 308, 309, 310, 311, 314, 315, 316, 317, 318, 321, 322, 323, 324, 325, 328, 329, 330, 331, 332, 335, 336, 337, 338, 339, 342, 343, 344, 345, 346, 349, 350, 351, 352, 353, 452, 453, 454, 462, 466, 472, 475, 476, 477, 478, 479, 482, 483, 484, 485, 486, 489, 490, 491, 492, 493, 496, 497, 498, 499, 500, 503, 504, 505, 506, 507, 510, 511, 512, 513, 514, 517, 518, 519, 520, 521, 524, 525, 526, 527, 528, 531, 532, 533, 534, 535, 538, 539, 540, 541, 542, 627, 628, 629, 625, 637, 645, 648, 649, 650, 653, 654, 655, 656, 657, 660, 661, 662, 663, 664, 247, 248, 249, 250, 251, 257, 258, 259, 260, 261, 457, 458, 459, 460, 461, 467, 468, 469, 470, 471, 632, 633, 634, 635, 636, 640, 641, 642, 643, 644]
def ts : List He.Tab := [(fun K => He.ga K "LEVELS", ["~", "*", "&", "+", "-", "^", "<<", ">>", "|"])]
abbrev hk : PySem.W.Hook := TzF.hookL as fa fn sm tf ex ts
def ob (s : PySem.W.SharedT) : TzF.AlW := TzF.obsL as fa fn sm tf ex ts (HandSHeadRun.getT s)
theorem ob_eq (s : PySem.W.SharedT) : ob s = hk.obs s.abs := TzF.obsL_eq (HandSHeadRun.getT_eq s)
def loose : List Str := (["_wall", "ZerosError", "BadName", "BadFormula", "BadSaying", "TooLarge", "NoWord", "BadRing", "is_whole", "is_from", "LEVELS", "TIGHTEST", "LETTERS", "DIGITS", "joined_written", "right_written", "complement_written", "split_tokens", "token_end", "run_end", "closing_end", "arranged", "built", "many_operands", "MOST_LETTERS", "MOST_NUMBER", "MOST_TIMES_OF", "MOST_TURN", "NO_NAMES", "Formula"] : List Str) ++ (["named", "number", "full", "is_name", "operand_formula", "put_together", "product_formula", "turned_formula", "found_formula", "token_formula", "leaf_formula", "told_number", "Saying", "same", "is_full", "yes", "all_of", "simple_saying", "joined_sayings", "step_saying", "found_saying", "token_saying", "leaf_saying", "MOST_RING_CHECKS", "MOST_RING_NAMES", "MOST_TIMES_ADDED", "Ring", "check_contents", "check_covers", "check_totals"] : List Str) ++ (["check_summed", "is_pair", "is_cover", "cover_of", "found_layers", "_law_pen", "_law_draw", "_law_one", "_law_refused", "_law_thing", "_law_bent_contents", "_law_bent_covers", "_law_bent_total", "_law_bent_folded"] : List Str)
theorem both {a b c d : Type} {x : Option a} {f : a → b} {g : a → c} {h : a → d} {p : b} {q : c} {r : d} (H : x.map (fun s => (f s, g s)) = some (p, q)) (K : x.map h = some r) : x.map (fun s => (f s, g s, h s)) = some (p, q, r) := by
  cases x with
  | none => cases H
  | some y =>
    injection H with e
    injection K with k
    injection e with e1 e2
    show some (f y, g y, h y) = _
    rw [e1, e2, k]
theorem run_b_f (w : World) (os : PySem.OsState) : (HandSHeadRun.endF (HandSHeadRun.stepQ (HandSHeadRun.denQ HandSHeadRun.tabQ) R.prog (w.withFollow "special-get-raises" false)) 8000 R.prog (w.withFollow "special-get-raises" false) os).map ob = some (hk.val (w.withFollow "special-get-raises" false)) := by
  kernel_rfl
theorem run_a_f (w : World) (os : PySem.OsState) : (HandSHeadRun.endF (HandSHeadRun.stepQ (HandSHeadRun.denQ HandSHeadRun.tabQ) R.prog (w.withFollow "special-get-raises" false)) 8000 R.prog (w.withFollow "special-get-raises" false) os).map (fun s => (HandSHeadRun.looksF R.prog (PySem.W.boot_heap (w.withFollow "special-get-raises" false).params) s.abs, HandSHeadRun.seenQ (PySem.W.view R.prog [81]) loose (importedModules R.prog.main.body) (fun s => PySem.W.xlAt (PySem.W.view R.prog [81]) [] s && PySem.W.recOk R.toRowW.records s) s.abs)) = some (true, PySem.W.openGood (PySem.W.view R.prog [81]) loose) := by
  kernel_rfl
theorem run_f (w : World) : HandSHeadRun.RunEq R (PySem.W.view R.prog [81]) hk ob 8000 loose (w.withFollow "special-get-raises" false) := by
  intro os
  exact both (run_a_f w os) (run_b_f w os)
theorem run_b_t (w : World) (os : PySem.OsState) : (HandSHeadRun.endF (HandSHeadRun.stepQ (HandSHeadRun.denQ HandSHeadRun.tabQ) R.prog (w.withFollow "special-get-raises" true)) 8000 R.prog (w.withFollow "special-get-raises" true) os).map ob = some (hk.val (w.withFollow "special-get-raises" true)) := by
  kernel_rfl
theorem run_a_t (w : World) (os : PySem.OsState) : (HandSHeadRun.endF (HandSHeadRun.stepQ (HandSHeadRun.denQ HandSHeadRun.tabQ) R.prog (w.withFollow "special-get-raises" true)) 8000 R.prog (w.withFollow "special-get-raises" true) os).map (fun s => (HandSHeadRun.looksF R.prog (PySem.W.boot_heap (w.withFollow "special-get-raises" true).params) s.abs, HandSHeadRun.seenQ (PySem.W.view R.prog [81]) loose (importedModules R.prog.main.body) (fun s => PySem.W.xlAt (PySem.W.view R.prog [81]) [] s && PySem.W.recOk R.toRowW.records s) s.abs)) = some (true, PySem.W.openGood (PySem.W.view R.prog [81]) loose) := by
  kernel_rfl
theorem run_t (w : World) : HandSHeadRun.RunEq R (PySem.W.view R.prog [81]) hk ob 8000 loose (w.withFollow "special-get-raises" true) := by
  intro os
  exact both (run_a_t w os) (run_b_t w os)
theorem run (w : World) : HandSHeadRun.RunEq R (PySem.W.view R.prog [81]) hk ob 8000 loose w := PySem.W.byRow2 "special-get-raises" (P := fun w => HandSHeadRun.RunEq R (PySem.W.view R.prog [81]) hk ob 8000 loose w) run_f run_t w
theorem facts {w : World} {K : PySem.W.Frag} {h : Heap} {mg : Str → Option Value} {f : Addr} (KX : K.In h) (G : h.Ns mainGlobals mg) (hfa : mg ("law" : Str) = some (.ref f)) (cw : TzF.SaysW fa fn sm tf ex ts w h K) : LawQ PySem.Challenge.rw_twozeros_k80_what_rings_refuse w K 12 63 "_law_script" mg f h := by
  have c := cw.y
  have x_0 : ex0 K = true := List.all_eq_true.mp c.more ex0 (by simp)
  have x_1 : ex1 K = true := List.all_eq_true.mp c.more ex1 (by simp)
  have x_2 : ex2 K = true := List.all_eq_true.mp c.more ex2 (by simp)
  have x_3 : ex3 K = true := List.all_eq_true.mp c.more ex3 (by simp)
  have x_4 : ex4 K = true := List.all_eq_true.mp c.more ex4 (by simp)
  have x_5 : ex5 K = true := List.all_eq_true.mp c.more ex5 (by simp)
  have x_6 : ex6 K = true := List.all_eq_true.mp c.more ex6 (by simp)
  have x_7 : ex7 K = true := List.all_eq_true.mp c.more ex7 (by simp)
  have x_8 : ex8 K = true := List.all_eq_true.mp c.more ex8 (by simp)
  have x_9 : ex9 K = true := List.all_eq_true.mp c.more ex9 (by simp)
  have x_10 : ex10 K = true := List.all_eq_true.mp c.more ex10 (by simp)
  have x_11 : ex11 K = true := List.all_eq_true.mp c.more ex11 (by simp)
  have x_12 : ex12 K = true := List.all_eq_true.mp c.more ex12 (by simp)
  have x_13 : ex13 K = true := List.all_eq_true.mp c.more ex13 (by simp)
  have x_14 : ex14 K = true := List.all_eq_true.mp c.more ex14 (by simp)
  have x_15 : ex15 K = true := List.all_eq_true.mp c.more ex15 (by simp)
  have x_16 : ex16 K = true := List.all_eq_true.mp c.more ex16 (by simp)
  have x_17 : ex17 K = true := List.all_eq_true.mp c.more ex17 (by simp)
  have x_18 : ex18 K = true := List.all_eq_true.mp c.more ex18 (by simp)
  have x_19 : ex19 K = true := List.all_eq_true.mp c.more ex19 (by simp)
  have x_20 : ex20 K = true := List.all_eq_true.mp c.more ex20 (by simp)
  have x_21 : ex21 K = true := List.all_eq_true.mp c.more ex21 (by simp)
  have x_22 : ex22 K = true := List.all_eq_true.mp c.more ex22 (by simp)
  have x_23 : ex23 K = true := List.all_eq_true.mp c.more ex23 (by simp)
  have x_24 : ex24 K = true := List.all_eq_true.mp c.more ex24 (by simp)
  have x_25 : ex25 K = true := List.all_eq_true.mp c.more ex25 (by simp)
  have x_26 : ex26 K = true := List.all_eq_true.mp c.more ex26 (by simp)
  have x_27 : ex27 K = true := List.all_eq_true.mp c.more ex27 (by simp)
  have x_28 : ex28 K = true := List.all_eq_true.mp c.more ex28 (by simp)
  have x_29 : ex29 K = true := List.all_eq_true.mp c.more ex29 (by simp)
  have x_30 : ex30 K = true := List.all_eq_true.mp c.more ex30 (by simp)
  obtain ⟨t_TIGHTEST, h_TIGHTEST⟩ := He.int_ok KX G (c.d.fact 15 rfl)
  obtain ⟨t_MOST_LETTERS, h_MOST_LETTERS⟩ := He.int_ok KX G (c.d.fact 16 rfl)
  obtain ⟨t_MOST_NUMBER, h_MOST_NUMBER⟩ := He.int_ok KX G (c.d.fact 17 rfl)
  obtain ⟨t_MOST_TIMES_OF, h_MOST_TIMES_OF⟩ := He.int_ok KX G (c.d.fact 18 rfl)
  obtain ⟨t_MOST_RING_CHECKS, h_MOST_RING_CHECKS⟩ := He.int_ok KX G (c.d.fact 19 rfl)
  obtain ⟨t_MOST_RING_NAMES, h_MOST_RING_NAMES⟩ := He.int_ok KX G (c.d.fact 20 rfl)
  obtain ⟨t_MOST_TIMES_ADDED, h_MOST_TIMES_ADDED⟩ := He.int_ok KX G (c.d.fact 21 rfl)
  obtain ⟨fd_is_whole, D_is_whole⟩ := c.d.def_ 0 (d := ⟨("is_whole", none), "is_whole", "is_whole", defArgs s_is_whole, defBody s_is_whole, defScope s_is_whole, [], []⟩) rfl
  obtain ⟨fd_is_from, D_is_from⟩ := c.d.def_ 1 (d := ⟨("is_from", none), "is_from", "is_from", defArgs s_is_from, defBody s_is_from, defScope s_is_from, [], []⟩) rfl
  obtain ⟨fd_is_name, D_is_name⟩ := c.d.def_ 2 (d := ⟨("is_name", none), "is_name", "is_name", defArgs s_is_name, defBody s_is_name, defScope s_is_name, [], []⟩) rfl
  obtain ⟨fd_Formula_init_, D_Formula_init_⟩ := c.d.def_ 3 (d := ⟨("Formula", some "__init__"), "__init__", "Formula.__init__", defArgs s_Formula_init_, defBody s_Formula_init_, defScope s_Formula_init_, [], []⟩) rfl
  obtain ⟨fd_number, D_number⟩ := c.d.def_ 4 (d := ⟨("number", none), "number", "number", defArgs s_number, defBody s_number, defScope s_number, [], []⟩) rfl
  obtain ⟨fd_right_written, D_right_written⟩ := c.d.def_ 5 (d := ⟨("right_written", none), "right_written", "right_written", defArgs s_right_written, defBody s_right_written, defScope s_right_written, [], []⟩) rfl
  obtain ⟨fd_joined_written, D_joined_written⟩ := c.d.def_ 6 (d := ⟨("joined_written", none), "joined_written", "joined_written", defArgs s_joined_written, defBody s_joined_written, defScope s_joined_written, [], []⟩) rfl
  obtain ⟨fd_complement_written, D_complement_written⟩ := c.d.def_ 7 (d := ⟨("complement_written", none), "complement_written", "complement_written", defArgs s_complement_written, defBody s_complement_written, defScope s_complement_written, [], []⟩) rfl
  obtain ⟨⟨fd_Formula_names, F_Formula_names⟩, r_Formula_names⟩ := c.sm 0 (d := ⟨"property", ("Formula", "names"), "Formula.names", s_Formula_names⟩) rfl
  obtain ⟨r1_Formula_names, r2_Formula_names, r3_Formula_names⟩ := recB_ok r_Formula_names
  obtain ⟨fd_named, D_named⟩ := c.d.def_ 8 (d := ⟨("named", none), "named", "named", defArgs s_named, defBody s_named, defScope s_named, [], []⟩) rfl
  obtain ⟨fd_operand_formula, D_operand_formula⟩ := c.d.def_ 9 (d := ⟨("operand_formula", none), "operand_formula", "operand_formula", defArgs s_operand_formula, defBody s_operand_formula, defScope s_operand_formula, [], []⟩) rfl
  obtain ⟨fd_put_together, D_put_together⟩ := c.d.def_ 10 (d := ⟨("put_together", none), "put_together", "put_together", defArgs s_put_together, defBody s_put_together, defScope s_put_together, [], []⟩) rfl
  obtain ⟨fd_Formula_invert_, D_Formula_invert_⟩ := c.d.def_ 11 (d := ⟨("Formula", some "__invert__"), "__invert__", "Formula.__invert__", defArgs s_Formula_invert_, defBody s_Formula_invert_, defScope s_Formula_invert_, [], []⟩) rfl
  obtain ⟨fd_product_formula, D_product_formula⟩ := c.d.def_ 12 (d := ⟨("product_formula", none), "product_formula", "product_formula", defArgs s_product_formula, defBody s_product_formula, defScope s_product_formula, [], []⟩) rfl
  obtain ⟨fd_Formula_add_, D_Formula_add_⟩ := c.d.def_ 13 (d := ⟨("Formula", some "__add__"), "__add__", "Formula.__add__", defArgs s_Formula_add_, defBody s_Formula_add_, defScope s_Formula_add_, [], []⟩) rfl
  obtain ⟨fd_Formula_rmul_, D_Formula_rmul_⟩ := c.d.def_ 14 (d := ⟨("Formula", some "__rmul__"), "__rmul__", "Formula.__rmul__", defArgs s_Formula_rmul_, defBody s_Formula_rmul_, defScope s_Formula_rmul_, [], []⟩) rfl
  obtain ⟨fd_Saying_init_, D_Saying_init_⟩ := c.d.def_ 15 (d := ⟨("Saying", some "__init__"), "__init__", "Saying.__init__", defArgs s_Saying_init_, defBody s_Saying_init_, defScope s_Saying_init_, [], []⟩) rfl
  obtain ⟨fd_Formula_str_, D_Formula_str_⟩ := c.d.def_ 16 (d := ⟨("Formula", some "__str__"), "__str__", "Formula.__str__", defArgs s_Formula_str_, defBody s_Formula_str_, defScope s_Formula_str_, [], []⟩) rfl
  obtain ⟨fd_joined_sayings, D_joined_sayings⟩ := c.d.def_ 17 (d := ⟨("joined_sayings", none), "joined_sayings", "joined_sayings", defArgs s_joined_sayings, defBody s_joined_sayings, defScope s_joined_sayings, [], []⟩) rfl
  obtain ⟨fd_Saying_and_, D_Saying_and_⟩ := c.d.def_ 18 (d := ⟨("Saying", some "__and__"), "__and__", "Saying.__and__", defArgs s_Saying_and_, defBody s_Saying_and_, defScope s_Saying_and_, [], []⟩) rfl
  obtain ⟨fd_simple_saying, D_simple_saying⟩ := c.d.def_ 19 (d := ⟨("simple_saying", none), "simple_saying", "simple_saying", defArgs s_simple_saying, defBody s_simple_saying, defScope s_simple_saying, [], []⟩) rfl
  obtain ⟨fd_yes, D_yes⟩ := c.d.def_ 20 (d := ⟨("yes", none), "yes", "yes", defArgs s_yes, defBody s_yes, defScope s_yes, [], []⟩) rfl
  obtain ⟨fd_same, D_same⟩ := c.d.def_ 21 (d := ⟨("same", none), "same", "same", defArgs s_same, defBody s_same, defScope s_same, [], []⟩) rfl
  obtain ⟨fd_is_full, D_is_full⟩ := c.d.def_ 22 (d := ⟨("is_full", none), "is_full", "is_full", defArgs s_is_full, defBody s_is_full, defScope s_is_full, [], []⟩) rfl
  obtain ⟨fd_all_of, D_all_of⟩ := c.d.def_ 23 (d := ⟨("all_of", none), "all_of", "all_of", defArgs s_all_of, defBody s_all_of, defScope s_all_of, [], []⟩) rfl
  obtain ⟨fd_is_pair, D_is_pair⟩ := c.d.def_ 24 (d := ⟨("is_pair", none), "is_pair", "is_pair", defArgs s_is_pair, defBody s_is_pair, defScope s_is_pair, [], []⟩) rfl
  obtain ⟨fd_is_cover, D_is_cover⟩ := c.d.def_ 25 (d := ⟨("is_cover", none), "is_cover", "is_cover", defArgs s_is_cover, defBody s_is_cover, defScope s_is_cover, [], []⟩) rfl
  obtain ⟨fd_BadRing_init_, D_BadRing_init_⟩ := c.d.def_ 26 (d := ⟨("BadRing", some "__init__"), "__init__", "BadRing.__init__", defArgs s_BadRing_init_, defBody s_BadRing_init_, defScope s_BadRing_init_, [], []⟩) rfl
  obtain ⟨fd_check_contents, D_check_contents⟩ := c.d.def_ 27 (d := ⟨("check_contents", none), "check_contents", "check_contents", defArgs s_check_contents, defBody s_check_contents, defScope s_check_contents, [], []⟩) rfl
  obtain ⟨fd_check_covers, D_check_covers⟩ := c.d.def_ 28 (d := ⟨("check_covers", none), "check_covers", "check_covers", defArgs s_check_covers, defBody s_check_covers, defScope s_check_covers, [], []⟩) rfl
  obtain ⟨fd_check_totals, D_check_totals⟩ := c.d.def_ 29 (d := ⟨("check_totals", none), "check_totals", "check_totals", defArgs s_check_totals, defBody s_check_totals, defScope s_check_totals, [], []⟩) rfl
  obtain ⟨fd_check_summed, D_check_summed⟩ := c.d.def_ 30 (d := ⟨("check_summed", none), "check_summed", "check_summed", defArgs s_check_summed, defBody s_check_summed, defScope s_check_summed, [], []⟩) rfl
  obtain ⟨fd_cover_of, D_cover_of⟩ := c.d.def_ 31 (d := ⟨("cover_of", none), "cover_of", "cover_of", defArgs s_cover_of, defBody s_cover_of, defScope s_cover_of, [], []⟩) rfl
  obtain ⟨fd_Ring_sum_of, D_Ring_sum_of⟩ := c.d.def_ 32 (d := ⟨("Ring", some "sum_of"), "sum_of", "Ring.sum_of", defArgs s_Ring_sum_of, defBody s_Ring_sum_of, defScope s_Ring_sum_of, [], []⟩) rfl
  obtain ⟨fd_Ring_wish, D_Ring_wish⟩ := c.d.def_ 33 (d := ⟨("Ring", some "wish"), "wish", "Ring.wish", defArgs s_Ring_wish, defBody s_Ring_wish, defScope s_Ring_wish, [], []⟩) rfl
  obtain ⟨fd_found_layers, D_found_layers⟩ := c.d.def_ 34 (d := ⟨("found_layers", none), "found_layers", "found_layers", defArgs s_found_layers, defBody s_found_layers, defScope s_found_layers, [], []⟩) rfl
  obtain ⟨fd_Ring_init_, D_Ring_init_⟩ := c.d.def_ 35 (d := ⟨("Ring", some "__init__"), "__init__", "Ring.__init__", defArgs s_Ring_init_, defBody s_Ring_init_, defScope s_Ring_init_, [], []⟩) rfl
  obtain ⟨fd_law_pen, D_law_pen⟩ := c.d.def_ 36 (d := ⟨("_law_pen", none), "_law_pen", "_law_pen", defArgs s_law_pen, defBody s_law_pen, defScope s_law_pen, [], []⟩) rfl
  obtain ⟨fd_law_draw, D_law_draw⟩ := c.d.def_ 37 (d := ⟨("_law_draw", none), "_law_draw", "_law_draw", defArgs s_law_draw, defBody s_law_draw, defScope s_law_draw, [], []⟩) rfl
  obtain ⟨fd_law_one, D_law_one⟩ := c.d.def_ 38 (d := ⟨("_law_one", none), "_law_one", "_law_one", defArgs s_law_one, defBody s_law_one, defScope s_law_one, [], []⟩) rfl
  obtain ⟨fd_law_refused, D_law_refused⟩ := c.d.def_ 39 (d := ⟨("_law_refused", none), "_law_refused", "_law_refused", defArgs s_law_refused, defBody s_law_refused, defScope s_law_refused, [], []⟩) rfl
  obtain ⟨fd_law_thing, D_law_thing⟩ := c.d.def_ 40 (d := ⟨("_law_thing", none), "_law_thing", "_law_thing", defArgs s_law_thing, defBody s_law_thing, defScope s_law_thing, [], []⟩) rfl
  obtain ⟨fd_law_bent_contents, D_law_bent_contents⟩ := c.d.def_ 41 (d := ⟨("_law_bent_contents", none), "_law_bent_contents", "_law_bent_contents", defArgs s_law_bent_contents, defBody s_law_bent_contents, defScope s_law_bent_contents, [], []⟩) rfl
  obtain ⟨fd_law_bent_folded, D_law_bent_folded⟩ := c.d.def_ 42 (d := ⟨("_law_bent_folded", none), "_law_bent_folded", "_law_bent_folded", defArgs s_law_bent_folded, defBody s_law_bent_folded, defScope s_law_bent_folded, [], []⟩) rfl
  obtain ⟨fd_law_bent_total, D_law_bent_total⟩ := c.d.def_ 43 (d := ⟨("_law_bent_total", none), "_law_bent_total", "_law_bent_total", defArgs s_law_bent_total, defBody s_law_bent_total, defScope s_law_bent_total, [], []⟩) rfl
  obtain ⟨fd_law_bent_covers, D_law_bent_covers⟩ := c.d.def_ 44 (d := ⟨("_law_bent_covers", none), "_law_bent_covers", "_law_bent_covers", defArgs s_law_bent_covers, defBody s_law_bent_covers, defScope s_law_bent_covers, [], []⟩) rfl
  obtain ⟨fd_law, D_law⟩ := c.d.def_ 45 (d := ⟨("law", none), "law", "law", defArgs s_law, defBody s_law, defScope s_law, [], []⟩) rfl
  obtain ⟨fd_Formula_mul_, D_Formula_mul_⟩ := c.d.def_ 46 (d := ⟨("Formula", some "__mul__"), "__mul__", "Formula.__mul__", defArgs s_Formula_mul_, defBody s_Formula_mul_, defScope s_Formula_mul_, [], []⟩) rfl
  have e := hfa.symm.trans (He.glo_ok KX G (c.d.fact 108 rfl))
  cases e
  let T : Tx K mg w := {
    b_int := He.free_ok KX G (c.d.fact 0 rfl),
    b_len := He.free_ok KX G (c.d.fact 1 rfl),
    b_abs := He.free_ok KX G (c.d.fact 2 rfl),
    b_list := He.free_ok KX G (c.d.fact 3 rfl),
    b_isinstance := He.free_ok KX G (c.d.fact 4 rfl),
    b_bool := He.free_ok KX G (c.d.fact 5 rfl),
    b_range := He.free_ok KX G (c.d.fact 6 rfl),
    b_repr := He.free_ok KX G (c.d.fact 7 rfl),
    b_sum := He.free_ok KX G (c.d.fact 8 rfl),
    b_tuple := He.free_ok KX G (c.d.fact 9 rfl),
    b_all := He.free_ok KX G (c.d.fact 10 rfl),
    b_str := He.free_ok KX G (c.d.fact 11 rfl),
    b_sorted := He.free_ok KX G (c.d.fact 12 rfl),
    b_dict := He.free_ok KX G (c.d.fact 13 rfl),
    b_enumerate := He.free_ok KX G (c.d.fact 14 rfl),
    c_TIGHTEST := ⟨t_TIGHTEST, h_TIGHTEST⟩,
    c_MOST_LETTERS := ⟨t_MOST_LETTERS, h_MOST_LETTERS⟩,
    c_MOST_NUMBER := ⟨t_MOST_NUMBER, h_MOST_NUMBER⟩,
    c_MOST_TIMES_OF := ⟨t_MOST_TIMES_OF, h_MOST_TIMES_OF⟩,
    c_MOST_RING_CHECKS := ⟨t_MOST_RING_CHECKS, h_MOST_RING_CHECKS⟩,
    c_MOST_RING_NAMES := ⟨t_MOST_RING_NAMES, h_MOST_RING_NAMES⟩,
    c_MOST_TIMES_ADDED := ⟨t_MOST_TIMES_ADDED, h_MOST_TIMES_ADDED⟩,
    k_Formula := ⟨He.ga K "Formula", He.cls_ok (c.d.fact 22 rfl), He.glo_ok KX G (c.d.fact 23 rfl), He.keep_ok (c.d.fact 24 rfl), alone_ok x_0, ⟨x_1, of_decide_eq_true x_2⟩⟩,
    mk_Formula_ := x_3,
    n_Formula_steps := He.noat_ok (c.d.fact 25 rfl),
    n_Formula_size := He.noat_ok (c.d.fact 26 rfl),
    n_Formula_written := He.noat_ok (c.d.fact 27 rfl),
    n_Formula_level := He.noat_ok (c.d.fact 28 rfl),
    n_Formula__names := He.noat_ok (c.d.fact 29 rfl),
    k_Saying := ⟨He.ga K "Saying", He.cls_ok (c.d.fact 30 rfl), He.glo_ok KX G (c.d.fact 31 rfl), He.keep_ok (c.d.fact 32 rfl), alone_ok x_4, ⟨x_5, of_decide_eq_true x_6⟩⟩,
    mk_Saying_ := x_7,
    n_Saying_steps := He.noat_ok (c.d.fact 33 rfl),
    n_Saying_size := He.noat_ok (c.d.fact 34 rfl),
    n_Saying_written := He.noat_ok (c.d.fact 35 rfl),
    n_Saying_level := He.noat_ok (c.d.fact 36 rfl),
    n_Saying__names := He.noat_ok (c.d.fact 37 rfl),
    k_Ring := ⟨He.ga K "Ring", He.cls_ok (c.d.fact 38 rfl), He.glo_ok KX G (c.d.fact 39 rfl), He.keep_ok (c.d.fact 40 rfl), alone_ok x_8, ⟨x_9, of_decide_eq_true x_10⟩⟩,
    mk_Ring_ := x_11,
    n_Ring_contents := He.noat_ok (c.d.fact 41 rfl),
    n_Ring_covers := He.noat_ok (c.d.fact 42 rfl),
    n_Ring_checks := He.noat_ok (c.d.fact 43 rfl),
    n_Ring_summed := He.noat_ok (c.d.fact 44 rfl),
    n_Ring__fits := He.noat_ok (c.d.fact 45 rfl),
    n_Ring__layers := He.noat_ok (c.d.fact 46 rfl),
    e_ZerosError := ⟨He.ga K "ZerosError", He.glo_ok KX G (c.d.fact 47 rfl), err_ok x_12⟩,
    e_BadName := ⟨He.ga K "BadName", He.glo_ok KX G (c.d.fact 48 rfl), err_ok x_13⟩,
    n_BadName_name := He.noat_ok (c.d.fact 49 rfl),
    e_BadFormula := ⟨He.ga K "BadFormula", He.glo_ok KX G (c.d.fact 50 rfl), err_ok x_14⟩,
    n_BadFormula_value := He.noat_ok (c.d.fact 51 rfl),
    e_BadSaying := ⟨He.ga K "BadSaying", He.glo_ok KX G (c.d.fact 52 rfl), err_ok x_15⟩,
    n_BadSaying_value := He.noat_ok (c.d.fact 53 rfl),
    e_TooLarge := ⟨He.ga K "TooLarge", He.glo_ok KX G (c.d.fact 54 rfl), err_ok x_16⟩,
    n_TooLarge_what := He.noat_ok (c.d.fact 55 rfl),
    n_TooLarge_most := He.noat_ok (c.d.fact 56 rfl),
    e_NoWord := ⟨He.ga K "NoWord", He.glo_ok KX G (c.d.fact 57 rfl), err_ok x_17⟩,
    n_NoWord_name := He.noat_ok (c.d.fact 58 rfl),
    e_BadRing := ⟨He.ga K "BadRing", He.glo_ok KX G (c.d.fact 59 rfl), err_ok x_18⟩,
    n_BadRing_part := He.noat_ok (c.d.fact 60 rfl),
    n_BadRing_at := He.noat_ok (c.d.fact 61 rfl),
    x_BadRing := excK_ok x_19,
    c_LETTERS := ⟨_, (He.str_ok KX G x_20).choose_spec⟩,
    g_NO_NAMES := (have q := x_21; ⟨He.ga K "NO_NAMES", He.glo_ok KX G (TzF.two q).2, fun H => He.tupB_ok (TzF.two q).1 H⟩),
    g_LEVELS := (have q := x_22; ⟨He.ga K "LEVELS", He.glo_ok KX G (TzF.two q).2, Tz.gdct_of (cw.tab 0) (TzF.two q).1⟩),
    cc_Formula_MOST_SIZE := ⟨_, (cval_ok x_23).choose_spec⟩,
    cc_Saying_MOST_SIZE := ⟨_, (cval_ok x_24).choose_spec⟩,
    sf_Formula := x_25,
    s_get := of_decide_eq_true x_26,
    s_takes := of_decide_eq_true x_27,
    xm_BadRing_ZerosError := He.exm_ok (c.d.fact 62 rfl),
    f_is_whole := ⟨_, fd_is_whole, fun_of_D D_is_whole, He.glo_ok KX G (c.d.fact 63 rfl)⟩,
    f_is_from := ⟨_, fd_is_from, fun_of_D D_is_from, He.glo_ok KX G (c.d.fact 64 rfl)⟩,
    f_is_name := ⟨_, fd_is_name, fun_of_D D_is_name, He.glo_ok KX G (c.d.fact 65 rfl)⟩,
    f_Formula_init_ := ⟨_, fd_Formula_init_, fun_of_D D_Formula_init_, He.meth_ok (c.d.fact 66 rfl)⟩,
    f_number := ⟨_, fd_number, fun_of_D D_number, He.glo_ok KX G (c.d.fact 67 rfl)⟩,
    f_right_written := ⟨_, fd_right_written, fun_of_D D_right_written, He.glo_ok KX G (c.d.fact 68 rfl)⟩,
    f_joined_written := ⟨_, fd_joined_written, fun_of_D D_joined_written, He.glo_ok KX G (c.d.fact 69 rfl)⟩,
    f_complement_written := ⟨_, fd_complement_written, fun_of_D D_complement_written, He.glo_ok KX G (c.d.fact 70 rfl)⟩,
    f_Formula_names := ⟨_, fd_Formula_names, F_Formula_names, recA K ("Formula", "names"), ⟨of_decide_eq_true x_28, of_decide_eq_true x_29, of_decide_eq_true x_30, r2_Formula_names⟩⟩,
    f_named := ⟨_, fd_named, fun_of_D D_named, He.glo_ok KX G (c.d.fact 71 rfl)⟩,
    f_operand_formula := ⟨_, fd_operand_formula, fun_of_D D_operand_formula, He.glo_ok KX G (c.d.fact 72 rfl)⟩,
    f_put_together := ⟨_, fd_put_together, fun_of_D D_put_together, He.glo_ok KX G (c.d.fact 73 rfl)⟩,
    f_Formula_invert_ := ⟨_, fd_Formula_invert_, fun_of_D D_Formula_invert_, He.meth_ok (c.d.fact 74 rfl)⟩,
    f_product_formula := ⟨_, fd_product_formula, fun_of_D D_product_formula, He.glo_ok KX G (c.d.fact 75 rfl)⟩,
    f_Formula_add_ := ⟨_, fd_Formula_add_, fun_of_D D_Formula_add_, He.meth_ok (c.d.fact 76 rfl)⟩,
    f_Formula_rmul_ := ⟨_, fd_Formula_rmul_, fun_of_D D_Formula_rmul_, He.meth_ok (c.d.fact 77 rfl)⟩,
    f_Saying_init_ := ⟨_, fd_Saying_init_, fun_of_D D_Saying_init_, He.meth_ok (c.d.fact 78 rfl)⟩,
    f_Formula_str_ := ⟨_, fd_Formula_str_, fun_of_D D_Formula_str_, He.meth_ok (c.d.fact 79 rfl)⟩,
    f_joined_sayings := ⟨_, fd_joined_sayings, fun_of_D D_joined_sayings, He.glo_ok KX G (c.d.fact 80 rfl)⟩,
    f_Saying_and_ := ⟨_, fd_Saying_and_, fun_of_D D_Saying_and_, He.meth_ok (c.d.fact 81 rfl)⟩,
    f_simple_saying := ⟨_, fd_simple_saying, fun_of_D D_simple_saying, He.glo_ok KX G (c.d.fact 82 rfl)⟩,
    f_yes := ⟨_, fd_yes, fun_of_D D_yes, He.glo_ok KX G (c.d.fact 83 rfl)⟩,
    f_same := ⟨_, fd_same, fun_of_D D_same, He.glo_ok KX G (c.d.fact 84 rfl)⟩,
    f_is_full := ⟨_, fd_is_full, fun_of_D D_is_full, He.glo_ok KX G (c.d.fact 85 rfl)⟩,
    f_all_of := ⟨_, fd_all_of, fun_of_D D_all_of, He.glo_ok KX G (c.d.fact 86 rfl)⟩,
    f_is_pair := ⟨_, fd_is_pair, fun_of_D D_is_pair, He.glo_ok KX G (c.d.fact 87 rfl)⟩,
    f_is_cover := ⟨_, fd_is_cover, fun_of_D D_is_cover, He.glo_ok KX G (c.d.fact 88 rfl)⟩,
    f_BadRing_init_ := ⟨_, fd_BadRing_init_, fun_of_D D_BadRing_init_, He.meth_ok (c.d.fact 89 rfl)⟩,
    f_check_contents := ⟨_, fd_check_contents, fun_of_D D_check_contents, He.glo_ok KX G (c.d.fact 90 rfl)⟩,
    f_check_covers := ⟨_, fd_check_covers, fun_of_D D_check_covers, He.glo_ok KX G (c.d.fact 91 rfl)⟩,
    f_check_totals := ⟨_, fd_check_totals, fun_of_D D_check_totals, He.glo_ok KX G (c.d.fact 92 rfl)⟩,
    f_check_summed := ⟨_, fd_check_summed, fun_of_D D_check_summed, He.glo_ok KX G (c.d.fact 93 rfl)⟩,
    f_cover_of := ⟨_, fd_cover_of, fun_of_D D_cover_of, He.glo_ok KX G (c.d.fact 94 rfl)⟩,
    f_Ring_sum_of := ⟨_, fd_Ring_sum_of, fun_of_D D_Ring_sum_of, He.meth_ok (c.d.fact 95 rfl)⟩,
    f_Ring_wish := ⟨_, fd_Ring_wish, fun_of_D D_Ring_wish, He.meth_ok (c.d.fact 96 rfl)⟩,
    f_found_layers := ⟨_, fd_found_layers, fun_of_D D_found_layers, He.glo_ok KX G (c.d.fact 97 rfl)⟩,
    f_Ring_init_ := ⟨_, fd_Ring_init_, fun_of_D D_Ring_init_, He.meth_ok (c.d.fact 98 rfl)⟩,
    f_law_pen := ⟨_, fd_law_pen, fun_of_D D_law_pen, He.glo_ok KX G (c.d.fact 99 rfl)⟩,
    f_law_draw := ⟨_, fd_law_draw, fun_of_D D_law_draw, He.glo_ok KX G (c.d.fact 100 rfl)⟩,
    f_law_one := ⟨_, fd_law_one, fun_of_D D_law_one, He.glo_ok KX G (c.d.fact 101 rfl)⟩,
    f_law_refused := ⟨_, fd_law_refused, fun_of_D D_law_refused, He.glo_ok KX G (c.d.fact 102 rfl)⟩,
    f_law_thing := ⟨_, fd_law_thing, fun_of_D D_law_thing, He.glo_ok KX G (c.d.fact 103 rfl)⟩,
    f_law_bent_contents := ⟨_, fd_law_bent_contents, fun_of_D D_law_bent_contents, He.glo_ok KX G (c.d.fact 104 rfl)⟩,
    f_law_bent_folded := ⟨_, fd_law_bent_folded, fun_of_D D_law_bent_folded, He.glo_ok KX G (c.d.fact 105 rfl)⟩,
    f_law_bent_total := ⟨_, fd_law_bent_total, fun_of_D D_law_bent_total, He.glo_ok KX G (c.d.fact 106 rfl)⟩,
    f_law_bent_covers := ⟨_, fd_law_bent_covers, fun_of_D D_law_bent_covers, He.glo_ok KX G (c.d.fact 107 rfl)⟩,
    f_law := ⟨_, fd_law, fun_of_D D_law, He.glo_ok KX G (c.d.fact 108 rfl)⟩,
    f_Formula_mul_ := ⟨_, fd_Formula_mul_, fun_of_D D_Formula_mul_, He.meth_ok (c.d.fact 109 rfl)⟩ }
  refine ⟨T.f_law.fd, tf.map (He.cT K), spLaw K, fun q hq => ?_, fun q hq => ?_, fun q hq => ?_, fun s v => FunD.bindsA (ps := ["_law_script"]) D_law (fun _ _ _ _ _ _ us hl => match us, hl with | [_], _ => rfl) s [v] rfl, ?_, fun base _ _ B => ?_⟩
  · obtain ⟨d, hd, rfl⟩ := List.mem_map.mp hq
    exact c.empty d hd
  · obtain ⟨d, hd, rfl⟩ := List.mem_map.mp hq
    exact c.out d hd
  · obtain ⟨d, hd, rfl⟩ := List.mem_map.mp hq
    exact PySem.W.codeHd_of_K KX (c.hd d hd)
  · intro H a ns hl tb hS
    exact ⟨a, ns, rfl, hS, hl, fun _ => rfl⟩
  · exact ok_law T 
end TzH
open PySem PySem.W PyProof.Rows
set_option maxRecDepth 100000 in
set_option maxHeartbeats 0 in
theorem PySem.Challenge.cw_twozeros_k80_what_rings_refuse_holds : PySem.Challenge.rw_twozeros_k80_what_rings_refuse.Holds := by
  w_on; o_law
  refine HandSHeadRun.head_any (r := TzH.R) (q := view TzH.R.prog [81]) (H := TzH.hk) (ob := TzH.ob) (M := 8000) (loose := TzH.loose) (d := HandSHeadRun.topDef TzH.R.prog 81) (kwd := []) TzH.ob_eq
    (by kernel_rfl) (fun s => by kernel_rfl) TzH.run (by kernel_rfl) (by kernel_rfl) (by kernel_rfl) (by rfl) (by first | assumption | decide +kernel) (by decide +kernel) ⟨rfl, rfl, rfl, rfl, rfl, by decide +kernel⟩ ?hw ?hc
  case hw => w_witness2
  case hc =>
    refine Tz.walk_qt (l := PySem.Challenge.rw_twozeros_k80_what_rings_refuse) (n := 63) (k := 12) (x := "_law_script") rfl (by decide) (by kernel_rfl) ⟨rfl, by decide, by decide⟩ ?F
    intro w mg fa h Y G hmg0
    obtain ⟨K, KX, c⟩ := Y
    have hmg : mg ("law" : PySem.Str) = some (.ref fa) := by
      have e : (HandSHeadRun.topDef TzH.R.prog 81).name = ("law" : PySem.Str) := by kernel_rfl
      rw [← e]
      exact hmg0
    exact ⟨K, KX, TzH.facts KX G hmg c⟩

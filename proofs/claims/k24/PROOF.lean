import PyProof.Rows.All
import Wide.All
import OpenK.AllK
import Wide.FinOn
import HandS.ForMost
import HandS.IsInst
import HandS.TupAny
import HandS.Deep
import HandS.DeepEq
import KE.GoesEnum
import HandS.Walk
import HandS.Star
import PyProof.P3In
import PyProof.ZipIter
import PyProof.CallType
import PyProof.Walk
import PyProof.WalkLemmas
import PyProof.RulesTry
import PyProof.TupleOfSeq
import HandS.Iter
import HandS.Nested
import KE.DataMinKey
import HandS.Style
import PySem.Challenge.RW_granary_k24_whole_indexes_give_plans_mor
import HandS.More
import PyProof.P3Eq
import HandS.NoneIn
import HandS.TupSets
import HandS.SetTxt0
import HandS.Strs
import HandS.EndTab
import HandS.EndBits
set_option Elab.async false
namespace RK
open PySem L2
section
variable {X : Cx} {K : PySem.W.Frag}
theorem ixL (h : X.K = K := by rfl) : IxR X (rIxL K) := by subst h; exact ix_list
theorem ixT (h : X.K = K := by rfl) : IxR X (rIxT K) := by subst h; exact ix_tup
theorem ixQ (h : X.K = K := by rfl) : IxR X (rIx K) := by subst h; exact ix_seq
theorem eqD (hu : X.A.units + 64 < cLine) (h : X.K = K := by rfl) : OpR X (compareOp .Eq) (rEqD K) := by subst h; exact op_eqD hu
theorem neD (hu : X.A.units + 64 < cLine) (h : X.K = K := by rfl) : OpR X (compareOp .NotEq) (rNeD K) := by subst h; exact op_neD hu
theorem inQ (h : X.K = K := by rfl) : OpR X (compareOp .In) (rIn K false) := by subst h; exact op_in_seq
theorem notInQ (h : X.K = K := by rfl) : OpR X (compareOp .NotIn) (rIn K true) := by subst h; exact op_notIn_seq
def rLenQ (K : PySem.W.Frag) : List V → Hp → VK → Prop := fun xs H Q => ∃ p ys, xs = [.ref p] ∧ (SqL K H p ys ∨ SqT K H p ys) ∧ Q (.int ys.length) H
theorem lenQ (h : X.K = K := by rfl) : CallR X (.builtin "len") (rLenQ K) := by subst h; exact call_len_seq
def rListQ (K : PySem.W.Frag) : List V → Hp → VK → Prop := fun xs H Q => ∃ p ys, xs = [.ref p] ∧ (SqL K H p ys ∨ SqT K H p ys) ∧ ∀ l, H l = none → Q (.ref l) (upd H l (.lst ys))
theorem listQ (h : X.K = K := by rfl) : CallR X (.type "list") (rListQ K) := by subst h; exact call_list_of
def rTupQ (K : PySem.W.Frag) : List V → Hp → VK → Prop := fun xs H Q => ∃ p ys, xs = [.ref p] ∧ ((SqL K H p ys ∧ ∀ l, H l = none → Q (.ref l) (upd H l (.tup ys))) ∨ (SqT K H p ys ∧ Q (.ref p) H))
theorem tupQ (h : X.K = K := by rfl) : CallR X (.type "tuple") (rTupQ K) := by subst h; exact call_tuple_of
theorem slL (h : X.K = K := by rfl) : SlR X (rSlL K) := by subst h; exact sl_list
theorem slT (h : X.K = K := by rfl) : SlR X (rSlA K) := by subst h; exact sl_tupA
theorem catT (h : X.K = K := by rfl) : OpR X (binaryOp .Add) (rCatA K) := by subst h; exact op_catA
theorem isi (h : X.K = K := by rfl) : CallR X (.builtin "isinstance") (rIsi K) := by subst h; exact call_isi
theorem isiT (h : X.K = K := by rfl) : CallR X (.builtin "isinstance") (rIsiT K) := by subst h; exact call_isiT
theorem piL {tg l : Expr} {tl : TE} (hl : PE X l tl) (h : X.K = K := by rfl) : PI X tg l (iList K tl) := by subst h; exact pi_list hl
theorem piT {tg l : Expr} {tl : TE} (hl : PE X l tl) (h : X.K = K := by rfl) : PI X tg l (iTup K tl) := by subst h; exact pi_tup hl
def rAllQ (K : PySem.W.Frag) : List V → Hp → VK → Prop := fun xs H Q => ∃ (a : Addr) (bs : List Bool), xs = [.ref a] ∧ SqL K H a (bs.map V.bl) ∧ Q (.bl (bs.all id)) H
def rAnyQ (K : PySem.W.Frag) : List V → Hp → VK → Prop := fun xs H Q => ∃ (a : Addr) (bs : List Bool), xs = [.ref a] ∧ SqL K H a (bs.map V.bl) ∧ Q (.bl (bs.any id)) H
theorem allQ (hc : X.calm = true) (h : X.K = K := by rfl) : CallR X (.builtin "all") (rAllQ K) := by subst h; exact cr_all hc
theorem anyQ (hc : X.calm = true) (h : X.K = K := by rfl) : CallR X (.builtin "any") (rAnyQ K) := by subst h; exact cr_any hc
theorem pgTup {es : List Expr} {kk n : Nat} {pos : Pos} {t : TGs} (hc : X.calm = true) (ht : PGs X es t) (h : X.K = K := by rfl) (hn : (assignEach es X.env).length = n := by rfl) (hst : (assignEach es X.env).findIdx? (·.1) = none := by rfl) :
    PG X (.Tuple es kk pos) (gTup K n t) := by subst h; exact pg_tup hc ht hn hst
end
end RK

set_option Elab.async false
namespace RK
open PySem L2
section
variable {X : Cx} {K : PySem.W.Frag} {o e : Expr} {es : List Expr} {to : TE} {t : TA} {name : Str} {apos cpos : Pos} {T id : String} {r : V → List V → Hp → VK → Prop}
/-- a method of a list, in a comprehension too -/
theorem bm (pa : PlainAttrs T) (slot : Slot T name id) (ty : typeOf (.builtin id) = pure (.type "method_descriptor")) (mt : MtR X id r) (ho : PE X o to) (ha : PA X (e :: es) t) (hK : X.K = K := by rfl)
    (h1 : attributeBase o name X.env (eval o X.env) = eval o X.env := by rfl)
    (h2 : ((backTo cpos (starEach (e :: es) X.env)).all (fun y => !y.1) && (backToKw cpos (keywordEach [] X.env)).all (fun y => y.1.isSome)
      && decide ((e :: es).length + ([] : List Keyword).length + (if ([] : List Keyword).isEmpty then 0 else 1) < 30)) = true := by rfl)
    (h3 : (apos.endLine == cpos.line) = true := by rfl) (h4 : starEach (e :: es) X.env = (false, eval e X.env) :: starEach es X.env := by rfl) (h5 : (backTo cpos (starEach es X.env)).any (·.1) = false := by rfl) :
    PE X (.Call (.Attribute o name apos) (e :: es) [] cpos) (tBM K T r to t) := by subst hK; exact pe_bm pa slot ty mt ho ha h1 h2 h3 h4 h5
theorem bm0 (pa : PlainAttrs T) (slot : Slot T name id) (ty : typeOf (.builtin id) = pure (.type "method_descriptor")) (mt : MtR X id r) (ho : PE X o to) (hK : X.K = K := by rfl)
    (h1 : attributeBase o name X.env (eval o X.env) = eval o X.env := by rfl) (h2 : (apos.endLine == cpos.line) = true := by rfl) : PE X (.Call (.Attribute o name apos) [] [] cpos) (tBM0 K T r to) := by subst hK; exact pe_bm0 pa slot ty mt ho h1 h2
def rDictQ (K : PySem.W.Frag) : List V → Hp → VK → Prop := fun xs H Q => ∃ (a : Addr) (ps : List Addr) (kvs : List (Key × V)), xs = [.ref a] ∧ SqL K H a (ps.map V.ref) ∧ Paired (fun q kv => SqT K H q [kV kv.1, kv.2]) ps kvs ∧ ∀ q, H q = none → Q (.ref q) (upd H q (.dK (mergeK [] kvs)))
theorem dictQ (hc : X.calm = true) (h : X.K = K := by rfl) : CallR X (.type "dict") (rDictQ K) := by subst h; exact call_dictP hc
theorem minQ (hc : X.calm = true) (h : X.K = K := by rfl) : CallR X (.builtin "min") (rMin K) := by subst h; exact cr_min hc
theorem indexQ (h : X.K = K := by rfl) : MtR X "list.index" (rIndex K) := by subst h; exact mt_index
theorem inD (hu : X.A.units + 65 < cLine) (h : X.K = K := by rfl) : OpR X (compareOp .In) (rInD K) := by subst h; exact op_inD hu
end
end RK

set_option Elab.async false
set_option maxRecDepth 100000
set_option maxHeartbeats 4000000
/-! a pair the other way about: t[::-1] -/
namespace RV
open PySem PySem.Spec PyProof.Rows L2
section
variable {prog : Program} {w : World} {A : Around} {E : Value → Shared → Prop} {s : Shared}
theorem back2 {sl : Addr} {vl vu vs : Value} {Q : Int × Int × Nat → Shared → Prop} (hs : s.heap.IsSliceOf sl vl vu vs) (pl : IsPart vl none) (pu : IsPart vu none) (ps : IsPart vs (some (-1)))
    (q : Q (1, -1, 2) s) : wpAny (model prog w) A (Builtin.Slice.sliceApplied (.ref sl) (pure 2)) Q E s := by
  obtain ⟨o, e1, e2, e3⟩ := id hs
  (unfold Builtin.Slice.sliceApplied; unfold Builtin.Slice.sliceFields)
  refine wpAny_bind (wpAny_bind (wpAny_field e1 e3 (x := vl) rfl (wpAny_bind (wpAny_field e1 e3 (x := vu) rfl (wpAny_bind (wpAny_field e1 e3 (x := vs) rfl (wpAny_pure (wpAny_bind (HT.slicePart_ ps ?_)))))))))
  show wpAny _ _ (if ((-1 : Int) == 0) = true then _ else _) _ _ s
  rw [if_neg (show ¬ ((-1 : Int) == 0) = true by decide)]
  refine wpAny_bind (HT.slicePart_ pl (wpAny_bind (HT.slicePart_ pu (wpAny_bind (wpAny_pure ?_)))))
  exact wpAny_pure q
theorem turned2 {t sl : Addr} {x y vl vu vs : Value} {Q : Value → Shared → Prop} (ht : IsTup s.heap t #[x, y]) (hs : s.heap.IsSliceOf sl vl vu vs) (pl : IsPart vl none) (pu : IsPart vu none) (ps : IsPart vs (some (-1)))
    (q : Q (.ref s.heap.objs.size) { s with heap := s.heap.push { cls := .type "tuple", data := .seq #[y, x] } }) : wpAny (model prog w) A (getItem (.ref t) (.ref sl)) Q E s := by
  have two : sizeOk (.seq #[y, x]) := by
    show (#[y, x] : Array Value).size ≤ sizeLine
    exact (by decide : 2 ≤ sizeLine)
  obtain ⟨o, e1, e2, e3⟩ := id hs
  have isSl : s.TypeIs (.ref sl) "slice" := ⟨o, e1, e2⟩
  (unfold getItem; try (with_reducible refine wpAny_holding ?_)); (first | refine wpAny_bind (wpAny_pure ?_) | skip)
  refine wpAny_bind (wpAny_sequenceKey ht.typeIs (by decide) (wpAny_bind (wpAny_callSpecial?_slot (name := Str.ofString "__getitem__") ht.typeIs PyProof.Rows.slot_tuple_getitem (wpAny_call_entry PyProof.Rows.slot_tuple_getitem ht.typeIs entry_tuple_getitem ?_ (args_tuple_getitem _ _)))))
  refine wpAny_bind (m := Builtin.Tuple.tupleItemsOf (.ref t)) (tupleItemsOf_ ht (wpAny_bind (wpAny_typeOf isSl ?_)))
  rw [if_pos (show (Value.type "slice" == Value.type "slice") = true by decide)]
  refine wpAny_bind (back2 hs pl pu ps ?_)
  show wpAny _ _ (if ((1 : Int) == 0 && (-1 : Int) == 1 && (2 : Nat) == 2) = true then _ else _) _ _ s
  rw [if_neg (show ¬ ((1 : Int) == 0 && (-1 : Int) == 1 && (2 : Nat) == 2) = true by decide)]
  show wpAny _ _ (Builtin.Tuple.tupleExact #[y, x] >>= _) _ _ s
  first
    | exact wpAny_bind (wpAny_newObj_type (wpAny_pure ⟨_, rfl, wpAny_pure q⟩) two)
    | exact wpAny_bind (wpAny_newObj_type (wpAny_bind (wpAny_pure (wpAny_pure ⟨_, rfl, wpAny_pure q⟩))) two)
end
end RV
namespace L2
open PySem PySem.Spec PyProof.Rows
section
variable {X : Cx}
/-- t[::-1], t a pair -/
def tRevP (K : PySem.W.Frag) (te : TE) : TE := fun σ H Q => te σ H fun x H1 => ∃ a u v, x = .ref a ∧ SqT K H1 a [u, v] ∧ ∀ p, H1 p = none → Q (.ref p) (upd H1 p (.tup [v, u]))
theorem pe_revP {K : PySem.W.Frag} {e : Expr} {te : TE} {k : Nat} {p1 p2 p3 pos : Pos} (he : PE X e te) (hK : X.K = K := by rfl) :
    PE X (.Subscript e (.Slice none none (some (.UnaryOp .USub (.Constant (.int 1) k p1) p2)) p3) pos) (tRevP K te) := by
  subst hK
  refine ⟨fun pins s σ H Q I h => Subscript_ (thn (he.run pins s σ H _ I h) fun v0 s1 ⟨x, H1, I1, r1, z⟩ => ?_)⟩
  obtain ⟨a, u, v, ex, hx, q⟩ := z
  subst ex
  cases r1
  have hm : PO X (some (.UnaryOp .USub (.Constant (.int 1) k p1) p2)) (tPart (tUn (rU fun i => .int (-i)) (tC (.int 1)))) := po_some (pe_un un_neg pe_int)
  refine wpAny_Slice (thn (po_none.run pins s1 σ H1 (fun o H2 => o = none ∧ H2 = H1) I1 ⟨rfl, rfl⟩) fun vl s2 ⟨l, H2, I2, pl, ea, eb⟩ => ?_)
  subst ea eb
  refine thn (po_none.run pins s2 σ H2 (fun o H3 => o = none ∧ H3 = H2) I2 ⟨rfl, rfl⟩) fun vu s3 ⟨o3, H3, I3, pu, ea, eb⟩ => ?_
  subst ea eb
  refine thn (hm.run pins s3 σ H3 (fun o H4 => o = some (-1) ∧ H4 = H3) I3 ⟨1, rfl, -1, rfl, rfl, rfl⟩) fun vs s4 ⟨o, H4, I4, ps, ea, eb⟩ => ?_
  subst ea eb
  have J : Inv X pins σ H4 { s4 with heap := s4.heap.push { cls := .type "slice", data := .fields #[vl, vu, vs] } } := I4.kept (t' := s4.toks) fun b ob c => Heap.get?_push_of_some _ c
  obtain ⟨its, r, ht, hz⟩ := J.tuple hx
  obtain ⟨u1, v1, rfl, ru, rv⟩ := vals2 r
  show wpAny _ X.A (subscriptTail e (.Slice none none (some (.UnaryOp .USub (.Constant (.int 1) k p1) p2)) p3) (.ref a) (.ref s4.heap.objs.size)) _ X.xe _
  refine tail_any (ops := [.ref a, .ref s4.heap.objs.size]) ht.typeIs PyProof.Rows.slot_tuple_getitem.lookup ?_ (by with_unfolding_all rfl)
  refine RV.turned2 ht (Heap.IsSliceOf.new _ vl vu vs) pl pu ps ?_
  exact ⟨.ref _, _, J.laid (t' := s4.toks) (o := .tup [v, u]) (fun b ob c => Heap.get?_push_of_some _ c) (Nat.le_refl _) ⟨(by decide : 2 ≤ sizeLine), [v1, u1], .cons rv (.cons ru .nil), IsTup.new _ _⟩, rfl, q _ (J.hok.fresh (Nat.le_refl _))⟩
end
end L2

set_option Elab.async false
set_option maxRecDepth 100000
set_option maxHeartbeats 4000000
/-! a != b, two dicts that are equal, or None twice -/
namespace L2
open PySem PySem.Spec PyProof.Rows
def AlikeV (K : PySem.W.Frag) (H : Hp) (x u : V) : Prop := ∃ d e, Dp K H x d ∧ Dp K H u e ∧ SeqAt.shaped d = true ∧ SeqAt.shaped e = true ∧ PyData.eqv d e = true
def rNeSame (K : PySem.W.Frag) : R2 := fun x y H Q => (x = .non ∧ y = .non ∧ Q (.bl false) H) ∨
  ∃ a b ks ls, x = .ref a ∧ y = .ref b ∧ H a = some (.dK ks) ∧ H b = some (.dK ls) ∧ ks.length = ls.length ∧ (∀ p ∈ ks, ∃ u, valV ls p.1 = some u ∧ AlikeV K H p.2 u) ∧ Q (.bl false) H
section
variable {X : Cx} {pins : List (Addr × Obj)} {σ : St} {H : Hp} {s : Shared}
theorem same_hits (I : Inv X pins σ H s) {A : Around} (hu : A.in1.units + 64 < cLine) {ls : List (Key × V)} {vb : List (Key × Value)} (rb : KV ls vb) {ks : List (Key × V)} {va : List (Key × Value)} (ra : KV ks va) :
    (∀ p ∈ ks, ∃ u, valV ls p.1 = some u ∧ AlikeV X.K H p.2 u) → PySem.W.KeqHits A.in1 s vb va true := by
  unfold KV at ra
  induction ra with
  | nil => exact fun _ => .nil
  | @cons p q ps qs h t ih =>
    intro all
    obtain ⟨u, e1, d, e, d1, d2, sd, se, ev⟩ := all p List.mem_cons_self
    have rr : RelO (some u) (valueAt vb p.1) := by rw [← e1]; exact rb.val p.1
    obtain ⟨y, hy, ry⟩ := rr.some_of
    obtain ⟨key, v⟩ := q
    obtain ⟨k1, k2⟩ := h
    have k1 : p.1 = key := k1
    rw [k1] at hy
    obtain ⟨as, r1⟩ := Dp.reads I d _ _ d1 k2
    obtain ⟨bs, r2⟩ := Dp.reads I e _ _ d2 ry
    have at1 := PySem.W.keq_at (A := A) r1 r2 sd se hu
    rw [ev] at at1
    exact .hit (b := true) hy at1 (ih fun p' m => all p' (List.mem_cons_of_mem _ m))
theorem op_neSame {K : PySem.W.Frag} (hu : X.A.units + 66 < cLine) (hK : X.K = K := by rfl) : OpR X (compareOp .NotEq) (rNeSame K) := by
  subst hK
  intro pins s σ H x y v u Q I rx ry h
  rcases h with ⟨rfl, rfl, q⟩ | ⟨a, b, ks, ls, rfl, rfl, ha, hb, hl, all, q⟩
  · exact op_ne pins s σ H .non .non v u Q I rx ry ⟨rfl, q⟩
  · obtain rfl : v = Value.ref a := rx
    obtain rfl : u = Value.ref b := ry
    obtain ⟨_, ya, va, ra, da⟩ := (show ObjOk X.prog X.w H s.heap a (.dK ks) from I.hok a _ ha)
    obtain ⟨_, yb, vb, rb, db⟩ := (show ObjOk X.prog X.w H s.heap b (.dK ls) from I.hok b _ hb)
    refine PySem.W.keq_ne (knd := mixKind X.prog X.w) (r := true) ya yb da db (by omega) (fun _ => same_hits I (A := X.A) (by show X.A.units + 1 + 64 < cLine; omega) rb ra all) ?_
    have e : va.length = vb.length := by rw [← ra.length, ← rb.length]; exact hl
    rw [show (!(va.length == vb.length && true)) = false by rw [e]; simp]
    exact ⟨.bl false, H, I, rfl, q⟩
end
end L2

set_option Elab.async false
set_option maxRecDepth 100000
set_option maxHeartbeats 4000000
namespace EN
open PySem PySem.Spec PyProof.Rows L2
open Sem (wp)
/-- enumerate(v) of anything whose iter is told -/
theorem enum_new1 {v : Value} {ob : Obj} {G : Heap → Prop} (B : Begins v ob G) :
    Meets (Builtin.«enumerate.__new__» ⟨[.type "enumerate", v], []⟩) (fun _ R s => G s.heap ∧
      R (.ok (.ret (.ref (s.heap.push ob).objs.size))) { s with heap := (s.heap.push ob).push ⟨.type "enumerate", none, .fields #[.none, .bool false, .ref s.heap.objs.size, rawInt 0, .none, .none], #[]⟩ }) :=
  .of_wp fun prog w A R sh hh => by
    obtain ⟨hp, gg, dd, tt, oo⟩ := sh; obtain ⟨g1, hh⟩ := hh
    have hsub := sub_enumerate
    have qi : ∀ {A' : Around} {E Q : Value → Shared → Prop}, Q (.ref hp.objs.size) ⟨hp.push ob, gg, dd, tt, oo⟩ → wpAny (model prog w) A' (pyIter v) Q E ⟨hp, gg, dd, tt, oo⟩ :=
      fun q => B.iter prog w _ _ ⟨hp, gg, dd, tt, oo⟩ _ g1 q
    wp_walk using qi
    refine wpAny_stack_any fun stk => wpAny_pure ?_
    split
    · rename_i cc _ _ _ _ _
      cases (cc == Value.type "enumerate")
      · wp_walk using qi
        exact ⟨_, rfl, hh⟩
      · wp_walk using qi
        exact ⟨_, rfl, hh⟩
    · wp_walk using qi
      exact ⟨_, rfl, hh⟩
theorem enum_call1 {prog : Program} {w : World} {A : Around} {E Q : Value → Shared → Prop} {s : Shared} {v : Value} {ob : Obj} {G : Heap → Prop} (B : Begins v ob G) (g1 : G s.heap)
    (k : ∀ h2, IsEnum h2 (s.heap.objs.size + 1) s.heap.objs.size 0 .none → h2.get? s.heap.objs.size = some ob → h2.objs.size = s.heap.objs.size + 2 →
      (∀ b o, s.heap.get? b = some o → h2.get? b = some o) → Q (.ref (s.heap.objs.size + 1)) { s with heap := h2 }) :
    wpAny (model prog w) A (call (.type "enumerate") [v]) Q E s := by
  refine callType_new F.called_enumerate (by decide) (F.typeCall_enumerate_1 _) (F.newCall_enumerate_1 _) (fun oj => F.args_object_init_2 oj _) F.entry_enumerate_new (enum_new1 B) ⟨g1, ?_⟩
  have hz : (s.heap.push ob).objs.size = s.heap.objs.size + 1 := Heap.size_push ..
  show _ ∧ _
  rw [hz]
  have he : IsEnum ((s.heap.push ob).push ⟨.type "enumerate", none, .fields #[.none, .bool false, .ref s.heap.objs.size, rawInt 0, .none, .none], #[]⟩) (s.heap.objs.size + 1) s.heap.objs.size 0 .none := by
    have q := Heap.get?_push_size (s.heap.push ob) (o := ⟨.type "enumerate", none, .fields #[.none, .bool false, .ref s.heap.objs.size, rawInt 0, .none, .none], #[]⟩) rfl
    rw [hz] at q
    exact q
  exact ⟨⟨_, he, rfl⟩, k _ he (Heap.get?_push_of_some _ (Heap.get?_push_size _ B.free)) (by rw [Heap.size_push, hz]) fun b o x => Heap.get?_push_of_some _ (Heap.get?_push_of_some _ x)⟩
/-- a tuple at a, each item in a new pair -/
def IteT (K : PySem.W.Frag) (a : Addr) : It :=
  ⟨fun i H => ∃ (xs : List V) (x : V), SqT K H a xs ∧ xs[i]? = some x, fun i H v H' => ∃ T x, v = .ref T ∧ H T = none ∧ H' = upd H T (.tup [.int (i : Nat), x]) ∧ ∀ xs, SqT K H a xs → xs[i]? = some x,
    fun i H => ∃ xs : List V, SqT K H a xs ∧ xs.length ≤ i⟩
theorem turn_enumT {P : Program} {w : World} {K : PySem.W.Frag} {elts : List Expr} {kk : Nat} {tpos : Pos} (a e it : Addr) :
    Turn P w K (.Tuple elts kk tpos) (IteT K a) [e, it] e (fun i h => (∃ old, IsEnum h e it ((i : Nat) : Int) old) ∧ h.IsTupleIter it a i ∧ e ≠ it ∧ e ≠ a ∧ a ≠ it) where
  mem := by simp
  obj := fun i h st b hb => by
    obtain ⟨⟨old, he⟩, ⟨o, ho, hc, hd⟩, _⟩ := st
    have e' : b = e ∨ b = it := by simpa using hb
    rcases e' with z | z
    · rw [z]; exact ⟨_, he, fun v q => nomatch q⟩
    · rw [z]; exact ⟨o, ho, fun v q => by rw [hd] at q; cases q⟩
  keep := fun i h h' st k => let ⟨⟨old, he⟩, hi, hne⟩ := st; ⟨⟨old, k e (by simp) _ he⟩, hi.at fun o q => k it (by simp) o q, hne⟩
  item := by
    intro X hP hw hK hc i pins s σ H E I hf st hg
    subst hP hw hK
    obtain ⟨⟨old, he⟩, hit, hne, hea, hai⟩ := st
    obtain ⟨xs, x, hq, hx⟩ := hg
    obtain ⟨its, rv, p, hz⟩ := I.tuple hq
    obtain ⟨u, hu, ru⟩ := rv.get hx
    have hel : e < s.heap.objs.size := Heap.lt_size he
    have hil : it < s.heap.objs.size := by obtain ⟨_, q, _⟩ := hit; exact Heap.lt_size q
    have pt : s.heap.IsTuple a its.toArray := p
    have hlt : i < its.toArray.size := by
      have q := (List.getElem?_eq_some_iff.mp hu).1
      simpa using q
    refine wpAny_pyNext_enum_itemD (Draws.tuple (A := X.A.in1) (show X.A.in1.handled = none from I.ok.hd hc) it a hai its.toArray) he ⟨hit, pt⟩ hlt hne (by simp [hne, hea]) fun y h' tk hy ho hit' hT hsz hk => ?_
    obtain rfl : y = u := by
      have q : its.toArray[i]? = some u := by simpa using hu
      rw [hy] at q
      exact Option.some.inj q
    refine ⟨_, rfl, wpAny_letOwnedTupleGo_enum (s := { s with heap := h', toks := tk + 1 }) ho fun h'' he' sb => ?_⟩
    have hT2 : h''.get? s.heap.objs.size = some { cls := .type "tuple", data := .seq #[.int i tk, y] } := (sb.2 _ (Nat.ne_of_gt hel)).trans hT
    have new : ObjOk X.prog X.w (upd H s.heap.objs.size (.tup [.int (i : Nat), x])) h'' s.heap.objs.size (.tup [.int (i : Nat), x]) :=
      ⟨by show 2 ≤ sizeLine; decide, [.int i tk, y], .cons ⟨_, rfl⟩ (.cons ru .nil), ⟨_, hT2, rfl, _, rfl⟩⟩
    have I1 : Inv X pins σ (upd H s.heap.objs.size (.tup [.int (i : Nat), x])) { s with heap := h'', toks := tk + 1 } :=
      I.turnedNew (ch := [e, it]) (fun b ob hb q => (sb.2 b (fun z => hb (by simp [z]))).trans (hk b ob (fun z => hb (by simp [z])) (fun z => hb (by simp [z])) q)) hf (Nat.le_refl _) new
    refine ⟨.ref s.heap.objs.size, _, I1, rfl, ⟨_, x, rfl, I.hok.fresh (Nat.le_refl _), rfl, fun ys hy => by rw [I.tuple_inj hy hq]; exact hx⟩, ⟨⟨y, ?_⟩, hit'.1.at fun o q => (sb.2 it (Ne.symm hne)).trans q, hne, hea, hai⟩, fun b hb => ?_⟩
    · have e1 : ((i + 1 : Nat) : Int) = (i : Int) + 1 := by omega
      rw [e1]; exact he'
    · have hb' : b < s.heap.objs.size := by
        have e' : b = e ∨ b = it := by simpa using hb
        rcases e' with z | z
        · rw [z]; exact hel
        · rw [z]; exact hil
      rw [upd_ne (Nat.ne_of_lt hb')]
      exact (hf b hb).1
  done := by
    intro X hP hw hK hc i pins s σ H E I hf st hg
    subst hP hw hK
    obtain ⟨⟨old, he⟩, hit, hne, hea, hai⟩ := st
    obtain ⟨xs, hq, hx⟩ := hg
    obtain ⟨its, rv, p, hz⟩ := I.tuple hq
    obtain ⟨f0, f1, f2, f3, f4, f5⟩ := hf it (by simp)
    have hl := rv.length
    have pt : s.heap.IsTuple a its.toArray := p
    have hh : X.A.handled = none := I.ok.hd hc
    unfold pyNext
    refine wpAny_bind (wpAny_attempt (wpAny_callSpecial?_slot (name := Str.ofString "__next__") ⟨_, he, rfl⟩ F.slot_enumerate_next (wpAny_call_entry F.slot_enumerate_next ⟨_, he, rfl⟩ F.entry_enumerate_next ?_ (F.args_enumerate_next_1 _))))
    show wpAny _ _ (field (.ref e) 2 >>= _) _ _ _
    refine wpAny_bind (wpAny_field he rfl (x := .ref it) rfl ?_)
    refine wpAny_bind (wpAny_nextOf_tuple_end hh hit pt (by simp; omega) fun h' x he' hx' => ?_)
    obtain ⟨o, ho, hc⟩ := hx'
    exact wpAny_bind (wpAny_isInstance (T := "StopIteration") (b := true) ⟨o, ho, hc⟩ isSubtype_stop (wpAny_pure ⟨rfl, I.turned (t' := s.toks) (fun b o hb q => he' b o hb q) f0 f1 f3 f4 f5⟩))
  self := fun A i s Q E st h => let ⟨⟨_, he⟩, _⟩ := st; wpAny_pyIter_enum he h
def iEnumT (K : PySem.W.Frag) (ta : TA) : TI := fun σ H R => ta σ H fun vs H1 => ∃ a xs, vs = [.ref a] ∧ SqT K H1 a xs ∧ R (IteT K a) H1
theorem pi_enumT {X : Cx} {K : PySem.W.Frag} {e : Expr} {ta : TA} {p pos tpos : Pos} {elts : List Expr} {kk : Nat} (hg : Gl X "enumerate") (hm : X.mg "enumerate" = none) (ha : PA X [e] ta) (hK : X.K = K := by rfl) (hs : starEach [e] X.env = [(false, eval e X.env)] := by rfl) :
    PI X (.Tuple elts kk tpos) (.Call (.Name "enumerate" p) [e] [] pos) (iEnumT K ta) := by
  subst hK
  refine ⟨fun pins s σ H R I h => ?_⟩
  refine Call_ (ld_blt I hg hm boot_enumerate (PyProof.Rows.callWith_type1 (thn (ha.run pos pins s σ H _ I h) fun us s1 ⟨vs, H1, I1, r1, q1⟩ => ?_) hs rfl))
  obtain ⟨a, xs, ex, hq, q⟩ := q1
  subst ex
  cases r1 with
  | cons r rr =>
    cases rr
    cases r
    obtain ⟨its, rv, p', hz⟩ := I1.tuple hq
    have pt : s1.heap.IsTuple a its.toArray := p'
    have hal : a < s1.heap.objs.size := by obtain ⟨_, q, _⟩ := id pt; exact Heap.lt_size q
    refine enum_call1 (begins_tuple a its.toArray) pt fun h' he hit hsz hk => wpAny_pyIter_enum he ?_
    have I2 : Inv X pins σ H1 { s1 with heap := h' } := I1.kept (t' := s1.toks) hk
    refine ⟨s1.heap.objs.size + 1, [s1.heap.objs.size + 1, s1.heap.objs.size], _, _, H1, rfl, I2, turn_enumT a (s1.heap.objs.size + 1) s1.heap.objs.size,
      ⟨⟨.none, he⟩, ⟨_, hit, rfl, rfl⟩, Nat.succ_ne_self _, Nat.ne_of_gt (Nat.lt_succ_of_lt hal), Nat.ne_of_lt hal⟩, fun b hb => ?_, q⟩
    have e' : b = s1.heap.objs.size + 1 ∨ b = s1.heap.objs.size := by simpa using hb
    have hle : s1.heap.objs.size ≤ b := by
      rcases e' with z | z
      · rw [z]; exact Nat.le_add_right _ _
      · rw [z]; exact Nat.le_refl _
    exact I1.fpOk hle (I1.hok.fresh hle)
theorem walk_enumT {K : PySem.W.Frag} {a : Addr} {xs : List V} : Walk (IteT K a) xs.length (fun H => SqT K H a xs) (YPair (fun i => some (.int (i : Nat))) (fun i => xs[i]?)) where
  goes := fun i H hi q => ⟨xs, xs[i], q, List.getElem?_eq_getElem hi⟩
  stops := fun H q => ⟨xs, q, Nat.le_refl _⟩
  yields := fun i H x H' hi q y => let ⟨T, z, e1, e2, e3, e4⟩ := y; ⟨T, _, z, e1, e2, e3, rfl, e4 xs q⟩
end EN

set_option Elab.async false
namespace SX
open PySem PySem.Spec PyProof.Rows L2
variable {X : Cx} {K : PySem.W.Frag} {e : Expr} {es : List Expr} {te : TE} {t : TA} {p : Pos}
/-- *e ahead of more, in a comprehension too -/
theorem star (he : PE X e te) (hr : PA X es t) (hK : X.K = K := by rfl) (hs : starEach (.Starred e p :: es) X.env = (true, eval e X.env) :: starEach es X.env := by rfl) : PA X (.Starred e p :: es) (StX.tStar K te t) := by subst hK; exact StX.pa_star he hr hs
def rInDB (K : PySem.W.Frag) : R2 := fun x y H Q => ∃ d ds, Dp K H x d ∧ (Dp K H y (.list ds) ∨ Dp K H y (.tuple ds)) ∧ SeqAt.shaped d = true ∧ SeqAt.shaped (.list ds) = true ∧ Q (.bl (ds.any fun z => PyData.eqv z d)) H
/-- x in a list or a tuple, of data of any depth -/
theorem inDB (hu : X.A.units + 65 < cLine) (hK : X.K = K := by rfl) : OpR X (compareOp .In) (rInDB K) := by
  subst hK
  intro pins s σ H x y v u Q I rx ry h
  obtain ⟨d, ds, hd, he, sd, se, q⟩ := h
  obtain ⟨as, r1⟩ := Dp.reads I d x v hd rx
  rcases he with he | he
  · obtain ⟨bs, r2⟩ := Dp.reads I (.list ds) y u he ry
    exact SeqAt.in_list_reads r2 r1 (SeqAt.canLay_of_shaped se) (SeqAt.canLay_of_shaped sd) (room_in_shaped sd hu) ⟨.bl _, H, I, rfl, q⟩
  · obtain ⟨bs, r2⟩ := Dp.reads I (.tuple ds) y u he ry
    exact SeqAt.in_tuple_reads r2 r1 (SeqAt.canLay_of_shaped se) (SeqAt.canLay_of_shaped sd) (room_in_shaped sd hu) ⟨.bl _, H, I, rfl, q⟩
end SX

set_option Elab.async false
set_option linter.all false
set_option maxRecDepth 100000
set_option maxHeartbeats 4000000
/-! permutations(t), t a tuple of one to three things -/
namespace PM
open PySem PySem.Spec
open Sem (wp)
theorem pm_mro : mroOf (.type "itertools.permutations") = pure [.type "itertools.permutations", .type "object"] := by rw [mroOf_type]; kernel_rfl
theorem pm_new : typeLookup (.type "itertools.permutations") "__new__" = pure (some (.builtin "itertools.permutations.__new__")) := by rw [typeLookup_type, builtinLookup_eq_fast]; kernel_rfl
theorem pm_init : Slot "itertools.permutations" "__init__" "object.__init__" :=
  .of (owner := "object") (n := "__init__") (by rw [typeLookup_type, builtinLookup_eq_fast]; kernel_rfl) (by decide +kernel) (by decide +kernel) (by decide +kernel)
    (by first | exact .inl (by decide +kernel) | exact .inr (by decide +kernel)) (by rw [isSubtype_type]; kernel_rfl)
theorem pm_sub : isSubtype (.type "itertools.permutations") (.type "itertools.permutations") = pure true := by rw [isSubtype_type]; kernel_rfl
theorem pm_called : TypeCalled "itertools.permutations" "itertools.permutations.__new__" "object.__init__" :=
  ⟨by decide +kernel, by decide +kernel, ⟨_, _, pm_mro⟩, madeBy_type pm_mro pm_new (by decide +kernel), by decide +kernel, pm_sub, pm_init⟩
theorem pm_tcall (a : Value) : checkTypeCall "itertools.permutations" ⟨[a], []⟩ = pure () := by kernel_rfl
theorem pm_ncall (a : Value) : checkBuiltinCall "itertools.permutations.__new__" ⟨[.type "itertools.permutations", a], []⟩ = pure () := by kernel_rfl
theorem pm_enew : entryFor table "itertools.permutations.__new__" = some Builtin.«itertools.permutations.__new__» := entryFor_of_tree (by kernel_rfl)
theorem pm_siter : Slot "itertools.permutations" "__iter__" "itertools.permutations.__iter__" :=
  .of (owner := "itertools.permutations") (n := "__iter__") (by rw [typeLookup_type, builtinLookup_eq_fast]; kernel_rfl) (by decide +kernel) (by decide +kernel) (by decide +kernel)
    (by first | exact .inl (by decide +kernel) | exact .inr (by decide +kernel)) pm_sub
theorem pm_snext : Slot "itertools.permutations" "__next__" "itertools.permutations.__next__" :=
  .of (owner := "itertools.permutations") (n := "__next__") (by rw [typeLookup_type, builtinLookup_eq_fast]; kernel_rfl) (by decide +kernel) (by decide +kernel) (by decide +kernel)
    (by first | exact .inl (by decide +kernel) | exact .inr (by decide +kernel)) pm_sub
theorem pm_eiter : entryFor table "itertools.permutations.__iter__" = some Builtin.«dict_keyiterator.__iter__» :=
  entryFor_alias (id' := "dict_keyiterator.__iter__") (by kernel_rfl) (by first | rfl | decide +kernel | (unfold String.splitOn; simp +decide [String.splitOnAux])) (by decide +kernel) (by kernel_rfl)
theorem pm_enext : entryFor table "itertools.permutations.__next__" = some Builtin.«itertools.permutations.__next__» := entryFor_of_tree (by kernel_rfl)
theorem pm_own : Manifest.owners.lookup (String.ofList ['s', 'n', 'o', 'i', 't', 'a', 't', 'u', 'm', 'r', 'e', 'p', '.', 's', 'l', 'o', 'o', 't', 'r', 'e', 't', 'i'].reverse) = some Manifest.sig_itertools_permutations := by kernel_rfl
theorem pm_aiter (a : Value) : argsOk "itertools.permutations.__iter__" ⟨[a], []⟩ := by
  unfold argsOk; rw [signature?_of (id := "itertools.permutations.__iter__") (n := ['_', '_', 'r', 'e', 't', 'i', '_', '_']) (o := ['s', 'n', 'o', 'i', 't', 'a', 't', 'u', 'm', 'r', 'e', 'p', '.', 's', 'l', 'o', 'o', 't', 'r', 'e', 't', 'i']) (by kernel_rfl) pm_own]; kernel_rfl
theorem pm_anext (a : Value) : argsOk "itertools.permutations.__next__" ⟨[a], []⟩ := by
  unfold argsOk; rw [signature?_of (id := "itertools.permutations.__next__") (n := ['_', '_', 't', 'x', 'e', 'n', '_', '_']) (o := ['s', 'n', 'o', 'i', 't', 'a', 't', 'u', 'm', 'r', 'e', 'p', '.', 's', 'l', 'o', 'o', 't', 'r', 'e', 't', 'i']) (by kernel_rfl) pm_own]; kernel_rfl
theorem pm_nodict : typeHasDict (.type "itertools.permutations") = false := by decide +kernel
end PM

set_option Elab.async false
set_option linter.all false
set_option maxRecDepth 100000
set_option maxHeartbeats 4000000
namespace PM
open PySem PySem.Spec
open Sem (wp)
section
variable {prog : Program} {w : World} {A : Around} {E : Value → Shared → Prop} {s : Shared}
theorem cr_run {xs : List Value} {Q : Value × List Value → Shared → Prop} (q : Q (.type "itertools.permutations", xs) s) : wpAny (model prog w) A (Builtin.Itertools.itClassAndRest "permutations" ⟨.type "itertools.permutations" :: xs, []⟩) Q E s := by
  have hsub := pm_sub
  have hstr2 : ("itertools." ++ "permutations" : String) = "itertools.permutations" := by decide
  unfold Builtin.Itertools.itClassAndRest
  simp only [hstr2]
  repeat (first
    | wp_step
    | simp only [hstr2])
  exact q
theorem bn_run {t : Value} {Q : List (Option Value) → Shared → Prop} (q : Q [some t, none] s) : wpAny (model prog w) A (Builtin.Itertools.itBindNamed "permutations" ["iterable", "r"] 1 2 [t] []) Q E s :=
  wpAny_of_eq (a := [some t, none]) (by rfl) q
end
def pmG (pool : Addr) (n : Nat) : Array Value := (([.ref pool, rawInt 0, rawInt n, .none] ++ (List.range n).map fun (i : Nat) => rawInt i) ++ (List.range n).map fun (i : Nat) => rawInt ((n : Int) - i)).toArray
theorem pm_newN (t : Addr) (xs : List Value) (h3 : xs.length ≤ 3) (o : Obj) (hc : o.cls = .type "tuple") (k : Nat) (hd : o.data = .seq xs.toArray k) :
    Meets (Builtin.«itertools.permutations.__new__» ⟨[.type "itertools.permutations", .ref t], []⟩) (fun _ R s => s.heap.get? t = some o ∧ ∀ h' : Heap, (∀ b o', s.heap.get? b = some o' → h'.get? b = some o') →
      R (.ok (.ret (.ref (h'.push { cls := .type "tuple", data := .seq xs.toArray }).objs.size))) { s with heap := (h'.push { cls := .type "tuple", data := .seq xs.toArray }).push ⟨.type "itertools.permutations", none, .fields (pmG h'.objs.size xs.length), #[]⟩ }) :=
  .of_wp fun prog w A R s h => by
    obtain ⟨hp, g, dd, tk, os⟩ := s
    obtain ⟨ht, h⟩ := h
    refine wpAny_bind (cr_run (xs := [.ref t]) ?_)
    refine wpAny_bind (bn_run ?_)
    refine wpAny_bind (wpAny_collect_seq t (.inr rfl) ht hc hd (fun h' hk => ?_) (by rw [List.size_toArray]; exact Nat.le_trans h3 (by decide)))
    refine wpAny_bind (wpAny_pure ?_)
    have n0 : ¬ ((xs.length : Int) < 0) := Int.not_lt.mpr (Int.natCast_nonneg _)
    have n1 : Builtin.Itertools.itTooMany (xs.length : Int) = false := by
      unfold Builtin.Itertools.itTooMany
      exact decide_eq_false (by omega)
    have el : xs.toArray.toList = xs := List.toList_toArray
    have et : (xs.length : Int).toNat = xs.length := Int.toNat_natCast _
    dsimp only [List.toList_toArray]
    refine wpAny_ite_false (decide_eq_false n0) ?_
    refine wpAny_ite_false (decide_eq_false (by rw [n1]; exact Bool.false_ne_true)) ?_
    simp only [Int.toNat_natCast, gt_iff_lt, Nat.lt_irrefl, if_false]
    refine wpAny_bind (wpAny_newTuple ?_ (Nat.le_trans h3 (by decide)))
    refine wpAny_bind ?_
    unfold Builtin.Itertools.itNewRecord
    rw [pm_nodict]
    show wpAny _ _ (newObj (.type "itertools.permutations") (.fields (pmG h'.objs.size xs.length))) _ _ _
    refine wpAny_newObj_type ?_ (by
      show (pmG h'.objs.size xs.length).size ≤ _
      unfold pmG
      simp only [List.size_toArray, List.length_append, List.length_map, List.length_range, List.length_cons, List.length_nil]
      refine Nat.le_trans (show _ ≤ 10 by omega) (by decide))
    exact wpAny_pure ⟨_, rfl, h _ hk⟩
theorem pm_callN {prog : Program} {w : World} {A : Around} {E Q : Value → Shared → Prop} {s : Shared} {t : Addr} {xs : List Value} (h3 : xs.length ≤ 3) (ht : s.heap.IsTuple t xs.toArray)
    (q : ∀ h' : Heap, (∀ b o', s.heap.get? b = some o' → h'.get? b = some o') → Q (.ref (h'.push { cls := .type "tuple", data := .seq xs.toArray }).objs.size) { s with heap := (h'.push { cls := .type "tuple", data := .seq xs.toArray }).push ⟨.type "itertools.permutations", none, .fields (pmG h'.objs.size xs.length), #[]⟩ }) :
    wpAny (model prog w) A (call (.type "itertools.permutations") [.ref t]) Q E s := by
  obtain ⟨o, ho, hc, k, hd⟩ := ht
  refine callType_new pm_called (by decide +kernel) (pm_tcall _) (pm_ncall _) (fun obj => F.args_object_init_2 obj _) pm_enew (pm_newN t xs h3 o hc k hd) ⟨ho, fun h' hk => ?_⟩
  exact ⟨⟨_, Heap.get?_push_size _ rfl, rfl⟩, q h' hk⟩
end PM

set_option Elab.async false
set_option linter.all false
set_option maxRecDepth 100000
set_option maxHeartbeats 4000000
namespace PM
open PySem PySem.Spec
open Sem (wp)
section
variable {prog : Program} {w : World} {A : Around} {E : Value → Shared → Prop} {s : Shared}
theorem pool_run {a : Addr} {xs : Array Value} {Q : Array Value → Shared → Prop} (h : s.heap.IsTuple a xs) (q : Q xs s) : wpAny (model prog w) A (Builtin.Itertools.itPoolItems (.ref a)) Q E s := by
  obtain ⟨o, ho, hc, k, hd⟩ := h
  unfold Builtin.Itertools.itPoolItems
  refine wpAny_bind (wpAny_seqItems ho hd ?_)
  exact wpAny_pure q
theorem int_run {a : Addr} {o : Obj} {vs : Array Value} {i : Nat} {n : Int} {t : Tok} (ho : s.heap.get? a = some o) (hd : o.data = .fields vs) (hi : vs[i]? = some (.int n t)) {Q : Int → Shared → Prop} (q : Q n s) : wpAny (model prog w) A (Builtin.Itertools.itIntField (.ref a) i) Q E s := by
  unfold Builtin.Itertools.itIntField
  refine wpAny_bind (wpAny_field ho hd hi ?_)
  exact wpAny_pure q
theorem nums_run {a : Addr} {o : Obj} {vs : Array Value} {j : Nat} {l : List Nat} (ho : s.heap.get? a = some o) (hd : o.data = .fields vs) (hl : ((vs.toList.drop j).map fun | .int n _ => n.toNat | _ => 0) = l) {Q : List Nat → Shared → Prop} (q : Q l s) : wpAny (model prog w) A (Builtin.Itertools.itNumbersFrom (.ref a) j) Q E s := by
  subst hl
  unfold Builtin.Itertools.itNumbersFrom
  refine wpAny_bind (wpAny_load ho ?_)
  rw [hd]
  exact wpAny_pure q
theorem setn_run {a : Addr} {o : Obj} {vs : Array Value} {j : Nat} {l : List Nat} (ho : s.heap.get? a = some o) (hd : o.data = .fields vs) {Q : Unit → Shared → Prop} (q : Q () { s with heap := s.heap.update a (Obj.mapFields fun fs => fs.extract 0 j ++ (l.map fun (n : Nat) => rawInt n).toArray) })
    (hz : (vs.extract 0 j ++ (l.map fun (n : Nat) => rawInt n).toArray).size ≤ sizeLine + 3) : wpAny (model prog w) A (Builtin.Itertools.itSetNumbersFrom (.ref a) j l) Q E s := by
  unfold Builtin.Itertools.itSetNumbersFrom
  exact wpAny_updateFields ho hd q hz
/-- the end's exception -/
def CpRepStop (e : Value) (h : Heap) : Prop := ∃ a o, e = .ref a ∧ h.get? a = some o ∧ o.cls = .type "StopIteration"
theorem stop_run {α : Type} {Q : α → Shared → Prop} (hh : A.handled = none) (q : ∀ e h', CpRepStop e h' → (∀ b o, s.heap.get? b = some o → h'.get? b = some o) → E e { s with heap := h' }) : wpAny (model prog w) A (Builtin.Itertools.itStop : Sem α) Q E s := by
  unfold Builtin.Itertools.itStop
  refine wpAny_bind ?_
  simp only [newExc, newTuple]
  refine wpAny_bind (wpAny_newObj_type ?_ (by size_fits))
  refine wpAny_bind (m := firstArgMember _ _) (wpAny_of_eq (a := Value.none) (by first | rfl | (simp only [firstArgMember]; rfl)) ?_)
  refine wpAny_newObj_type ?_ (by size_fits)
  simp only [raiseNew]
  refine wpAny_bind (wpAny_handled ?_)
  rw [hh]
  refine wpAny_bind (wpAny_pure (wpAny_throw ?_))
  exact q _ _ ⟨_, _, rfl, Heap.get?_push_size _ rfl, rfl⟩ fun b o e => Heap.get?_push_of_some _ (Heap.get?_push_of_some _ e)


theorem pm_item1_0 {it pool : Addr} {x last : Value} {Q : Option Value → Shared → Prop} (hp : s.heap.IsTuple pool #[x]) (ho : s.heap.get? it = some ⟨.type "itertools.permutations", none, .fields #[.ref pool, rawInt 0, rawInt 1, last, rawInt 0, rawInt 1], #[]⟩)
    (hQ : ∀ h', h'.get? it = some ⟨.type "itertools.permutations", none, .fields #[.ref pool, rawInt 1, rawInt 1, .ref s.heap.objs.size, rawInt 0, rawInt 1], #[]⟩ → h'.get? s.heap.objs.size = some { cls := .type "tuple", data := .seq #[x] } → h'.objs.size = s.heap.objs.size + 1 → (∀ b o, b ≠ it → s.heap.get? b = some o → h'.get? b = some o) → Q (some (.ref s.heap.objs.size)) { s with heap := h' }) :
    wpAny (model prog w) A (callSpecial? (.ref it) "__next__") Q E s := by
  have hT : s.TypeIs (.ref it) "itertools.permutations" := ⟨_, ho, rfl⟩
  refine wpAny_callSpecial?_slot (name := Str.ofString "__next__") hT pm_snext (wpAny_call_entry pm_snext hT pm_enext ?_ (pm_anext _))
  show wpAny _ _ (field (.ref it) 0 >>= _) _ _ s
  refine wpAny_bind (wpAny_field ho rfl (x := .ref pool) rfl ?_)
  refine wpAny_bind (pool_run hp ?_)
  refine wpAny_bind (int_run ho rfl (i := 2) (n := 1) (t := 0) rfl ?_)
  refine wpAny_bind (nums_run ho rfl (l := [0, 1]) rfl ?_)
  refine wpAny_bind (int_run ho rfl (i := 1) (n := 0) (t := 0) rfl ?_)
  refine wpAny_bind (wpAny_setField ho rfl (by simp) ?_)
  have e1 : (s.heap.update it (Obj.mapFields (·.setIfInBounds 1 (rawInt 1)))).get? it = some ⟨.type "itertools.permutations", none, .fields #[.ref pool, rawInt 1, rawInt 1, last, rawInt 0, rawInt 1], #[]⟩ := Heap.get?_update_self _ ho rfl
  have e2 : (s.heap.update it (Obj.mapFields (·.setIfInBounds 1 (rawInt 1)))).objs.size = s.heap.objs.size := Heap.size_update ..
  have e3 : ∀ b o, b ≠ it → s.heap.get? b = some o → (s.heap.update it (Obj.mapFields (·.setIfInBounds 1 (rawInt 1)))).get? b = some o := fun b o n q => (Heap.get?_update_other _ _ (Ne.symm n)).trans q
  generalize s.heap.update it (Obj.mapFields (·.setIfInBounds 1 (rawInt 1))) = h1 at e1 e2 e3 ⊢
  show wpAny _ _ (newTuple [x] >>= _) _ _ _
  refine wpAny_bind (wpAny_newTuple ?_ (by show 1 ≤ sizeLine; decide))
  have hne : it ≠ h1.objs.size := fun z => by
    have q := Heap.lt_size e1
    rw [z] at q
    exact Nat.lt_irrefl _ q
  have f1 := Heap.get?_push_of_some ({ cls := .type "tuple", data := .seq ([x] : List Value).toArray } : Obj) e1
  refine wpAny_bind (wpAny_field f1 rfl (x := last) rfl ?_)
  refine wpAny_bind (wpAny_setField f1 rfl (by simp) ?_)
  refine wpAny_bind (wpAny_letGo ?_)
  refine wpAny_pure ⟨_, rfl, ?_⟩
  rw [e2] at hne ⊢
  refine hQ _ (Heap.get?_update_self _ f1 rfl) ((Heap.get?_update_other _ _ hne).trans ?_) (by rw [Heap.size_update, Heap.size_push, e2]) fun b o n q => (Heap.get?_update_other _ _ (Ne.symm n)).trans (Heap.get?_push_of_some _ (e3 b o n q))
  rw [← e2]
  exact Heap.get?_push_size _ rfl

theorem pm_end1 {it pool : Addr} {x last : Value} {Q : Option Value → Shared → Prop} (hh : A.handled = none) (hp : s.heap.IsTuple pool #[x]) (ho : s.heap.get? it = some ⟨.type "itertools.permutations", none, .fields #[.ref pool, rawInt 1, rawInt 1, last, rawInt 0, rawInt 1], #[]⟩)
    (hQ : ∀ h', (∀ b o, b ≠ it → s.heap.get? b = some o → h'.get? b = some o) → Q none { s with heap := h' }) : wpAny (model prog w) A (pyNext (.ref it)) Q E s := by
  have hT : s.TypeIs (.ref it) "itertools.permutations" := ⟨_, ho, rfl⟩
  unfold pyNext
  refine wpAny_bind (wpAny_attempt (wpAny_callSpecial?_slot (name := Str.ofString "__next__") hT pm_snext (wpAny_call_entry pm_snext hT pm_enext ?_ (pm_anext _))))
  show wpAny _ _ (field (.ref it) 0 >>= _) _ _ s
  refine wpAny_bind (wpAny_field ho rfl (x := .ref pool) rfl ?_)
  refine wpAny_bind (pool_run hp ?_)
  refine wpAny_bind (int_run ho rfl (i := 2) (n := 1) (t := 0) rfl ?_)
  refine wpAny_bind (nums_run ho rfl (l := [0, 1]) rfl ?_)
  refine wpAny_bind (int_run ho rfl (i := 1) (n := 1) (t := 0) rfl ?_)
  show wpAny _ _ (setField (.ref it) 1 (rawInt 2) >>= _) _ _ _
  refine wpAny_bind (wpAny_setField ho rfl (by simp) ?_)
  refine stop_run (show A.in1.handled = none from hh) fun e h' ⟨a, o, ea, hx, hc⟩ kp => ?_
  subst ea
  refine wpAny_bind (wpAny_isInstance (T := "StopIteration") (b := true) ⟨o, hx, hc⟩ isSubtype_stop ?_)
  exact wpAny_pure (hQ _ fun b o n q => kp b o ((Heap.get?_update_other _ _ (Ne.symm n)).trans q))

theorem pm_item2_0 {it pool : Addr} {x y last : Value} {Q : Option Value → Shared → Prop} (hp : s.heap.IsTuple pool #[x, y]) (ho : s.heap.get? it = some ⟨.type "itertools.permutations", none, .fields #[.ref pool, rawInt 0, rawInt 2, last, rawInt 0, rawInt 1, rawInt 2, rawInt 1], #[]⟩)
    (hQ : ∀ h', h'.get? it = some ⟨.type "itertools.permutations", none, .fields #[.ref pool, rawInt 1, rawInt 2, .ref s.heap.objs.size, rawInt 0, rawInt 1, rawInt 2, rawInt 1], #[]⟩ → h'.get? s.heap.objs.size = some { cls := .type "tuple", data := .seq #[x, y] } → h'.objs.size = s.heap.objs.size + 1 → (∀ b o, b ≠ it → s.heap.get? b = some o → h'.get? b = some o) → Q (some (.ref s.heap.objs.size)) { s with heap := h' }) :
    wpAny (model prog w) A (callSpecial? (.ref it) "__next__") Q E s := by
  have hT : s.TypeIs (.ref it) "itertools.permutations" := ⟨_, ho, rfl⟩
  refine wpAny_callSpecial?_slot (name := Str.ofString "__next__") hT pm_snext (wpAny_call_entry pm_snext hT pm_enext ?_ (pm_anext _))
  show wpAny _ _ (field (.ref it) 0 >>= _) _ _ s
  refine wpAny_bind (wpAny_field ho rfl (x := .ref pool) rfl ?_)
  refine wpAny_bind (pool_run hp ?_)
  refine wpAny_bind (int_run ho rfl (i := 2) (n := 2) (t := 0) rfl ?_)
  refine wpAny_bind (nums_run ho rfl (l := [0, 1, 2, 1]) rfl ?_)
  refine wpAny_bind (int_run ho rfl (i := 1) (n := 0) (t := 0) rfl ?_)
  refine wpAny_bind (wpAny_setField ho rfl (by simp) ?_)
  have e1 : (s.heap.update it (Obj.mapFields (·.setIfInBounds 1 (rawInt 1)))).get? it = some ⟨.type "itertools.permutations", none, .fields #[.ref pool, rawInt 1, rawInt 2, last, rawInt 0, rawInt 1, rawInt 2, rawInt 1], #[]⟩ := Heap.get?_update_self _ ho rfl
  have e2 : (s.heap.update it (Obj.mapFields (·.setIfInBounds 1 (rawInt 1)))).objs.size = s.heap.objs.size := Heap.size_update ..
  have e3 : ∀ b o, b ≠ it → s.heap.get? b = some o → (s.heap.update it (Obj.mapFields (·.setIfInBounds 1 (rawInt 1)))).get? b = some o := fun b o n q => (Heap.get?_update_other _ _ (Ne.symm n)).trans q
  generalize s.heap.update it (Obj.mapFields (·.setIfInBounds 1 (rawInt 1))) = h1 at e1 e2 e3 ⊢
  show wpAny _ _ (newTuple [x, y] >>= _) _ _ _
  refine wpAny_bind (wpAny_newTuple ?_ (by show 2 ≤ sizeLine; decide))
  have hne : it ≠ h1.objs.size := fun z => by
    have q := Heap.lt_size e1
    rw [z] at q
    exact Nat.lt_irrefl _ q
  have f1 := Heap.get?_push_of_some ({ cls := .type "tuple", data := .seq ([x, y] : List Value).toArray } : Obj) e1
  refine wpAny_bind (wpAny_field f1 rfl (x := last) rfl ?_)
  refine wpAny_bind (wpAny_setField f1 rfl (by simp) ?_)
  refine wpAny_bind (wpAny_letGo ?_)
  refine wpAny_pure ⟨_, rfl, ?_⟩
  rw [e2] at hne ⊢
  refine hQ _ (Heap.get?_update_self _ f1 rfl) ((Heap.get?_update_other _ _ hne).trans ?_) (by rw [Heap.size_update, Heap.size_push, e2]) fun b o n q => (Heap.get?_update_other _ _ (Ne.symm n)).trans (Heap.get?_push_of_some _ (e3 b o n q))
  rw [← e2]
  exact Heap.get?_push_size _ rfl

theorem pm_item2_1 {it pool : Addr} {x y last : Value} {Q : Option Value → Shared → Prop} (hp : s.heap.IsTuple pool #[x, y]) (ho : s.heap.get? it = some ⟨.type "itertools.permutations", none, .fields #[.ref pool, rawInt 1, rawInt 2, last, rawInt 0, rawInt 1, rawInt 2, rawInt 1], #[]⟩)
    (hQ : ∀ h', h'.get? it = some ⟨.type "itertools.permutations", none, .fields #[.ref pool, rawInt 1, rawInt 2, .ref s.heap.objs.size, rawInt 1, rawInt 0, rawInt 1, rawInt 1], #[]⟩ → h'.get? s.heap.objs.size = some { cls := .type "tuple", data := .seq #[y, x] } → h'.objs.size = s.heap.objs.size + 1 → (∀ b o, b ≠ it → s.heap.get? b = some o → h'.get? b = some o) → Q (some (.ref s.heap.objs.size)) { s with heap := h' }) :
    wpAny (model prog w) A (callSpecial? (.ref it) "__next__") Q E s := by
  have hT : s.TypeIs (.ref it) "itertools.permutations" := ⟨_, ho, rfl⟩
  refine wpAny_callSpecial?_slot (name := Str.ofString "__next__") hT pm_snext (wpAny_call_entry pm_snext hT pm_enext ?_ (pm_anext _))
  show wpAny _ _ (field (.ref it) 0 >>= _) _ _ s
  refine wpAny_bind (wpAny_field ho rfl (x := .ref pool) rfl ?_)
  refine wpAny_bind (pool_run hp ?_)
  refine wpAny_bind (int_run ho rfl (i := 2) (n := 2) (t := 0) rfl ?_)
  refine wpAny_bind (nums_run ho rfl (l := [0, 1, 2, 1]) rfl ?_)
  refine wpAny_bind (int_run ho rfl (i := 1) (n := 1) (t := 0) rfl ?_)
  show wpAny _ _ (Builtin.Itertools.itSetNumbersFrom (.ref it) 4 [1, 0, 1, 1] >>= _) _ _ _
  refine wpAny_bind (setn_run ho rfl ?_ (by simp [sizeLine]))
  have e1 : (s.heap.update it (Obj.mapFields fun fs => fs.extract 0 4 ++ (([1, 0, 1, 1] : List Nat).map fun (n : Nat) => rawInt n).toArray)).get? it = some ⟨.type "itertools.permutations", none, .fields #[.ref pool, rawInt 1, rawInt 2, last, rawInt 1, rawInt 0, rawInt 1, rawInt 1], #[]⟩ := Heap.get?_update_self _ ho rfl
  have e2 : (s.heap.update it (Obj.mapFields fun fs => fs.extract 0 4 ++ (([1, 0, 1, 1] : List Nat).map fun (n : Nat) => rawInt n).toArray)).objs.size = s.heap.objs.size := Heap.size_update ..
  have e3 : ∀ b o, b ≠ it → s.heap.get? b = some o → (s.heap.update it (Obj.mapFields fun fs => fs.extract 0 4 ++ (([1, 0, 1, 1] : List Nat).map fun (n : Nat) => rawInt n).toArray)).get? b = some o := fun b o n q => (Heap.get?_update_other _ _ (Ne.symm n)).trans q
  generalize s.heap.update it (Obj.mapFields fun fs => fs.extract 0 4 ++ (([1, 0, 1, 1] : List Nat).map fun (n : Nat) => rawInt n).toArray) = h1 at e1 e2 e3 ⊢
  show wpAny _ _ (newTuple [y, x] >>= _) _ _ _
  refine wpAny_bind (wpAny_newTuple ?_ (by show 2 ≤ sizeLine; decide))
  have hne : it ≠ h1.objs.size := fun z => by
    have q := Heap.lt_size e1
    rw [z] at q
    exact Nat.lt_irrefl _ q
  have f1 := Heap.get?_push_of_some ({ cls := .type "tuple", data := .seq ([y, x] : List Value).toArray } : Obj) e1
  refine wpAny_bind (wpAny_field f1 rfl (x := last) rfl ?_)
  refine wpAny_bind (wpAny_setField f1 rfl (by simp) ?_)
  refine wpAny_bind (wpAny_letGo ?_)
  refine wpAny_pure ⟨_, rfl, ?_⟩
  rw [e2] at hne ⊢
  refine hQ _ (Heap.get?_update_self _ f1 rfl) ((Heap.get?_update_other _ _ hne).trans ?_) (by rw [Heap.size_update, Heap.size_push, e2]) fun b o n q => (Heap.get?_update_other _ _ (Ne.symm n)).trans (Heap.get?_push_of_some _ (e3 b o n q))
  rw [← e2]
  exact Heap.get?_push_size _ rfl

theorem pm_end2 {it pool : Addr} {x y last : Value} {Q : Option Value → Shared → Prop} (hh : A.handled = none) (hp : s.heap.IsTuple pool #[x, y]) (ho : s.heap.get? it = some ⟨.type "itertools.permutations", none, .fields #[.ref pool, rawInt 1, rawInt 2, last, rawInt 1, rawInt 0, rawInt 1, rawInt 1], #[]⟩)
    (hQ : ∀ h', (∀ b o, b ≠ it → s.heap.get? b = some o → h'.get? b = some o) → Q none { s with heap := h' }) : wpAny (model prog w) A (pyNext (.ref it)) Q E s := by
  have hT : s.TypeIs (.ref it) "itertools.permutations" := ⟨_, ho, rfl⟩
  unfold pyNext
  refine wpAny_bind (wpAny_attempt (wpAny_callSpecial?_slot (name := Str.ofString "__next__") hT pm_snext (wpAny_call_entry pm_snext hT pm_enext ?_ (pm_anext _))))
  show wpAny _ _ (field (.ref it) 0 >>= _) _ _ s
  refine wpAny_bind (wpAny_field ho rfl (x := .ref pool) rfl ?_)
  refine wpAny_bind (pool_run hp ?_)
  refine wpAny_bind (int_run ho rfl (i := 2) (n := 2) (t := 0) rfl ?_)
  refine wpAny_bind (nums_run ho rfl (l := [1, 0, 1, 1]) rfl ?_)
  refine wpAny_bind (int_run ho rfl (i := 1) (n := 1) (t := 0) rfl ?_)
  show wpAny _ _ (setField (.ref it) 1 (rawInt 2) >>= _) _ _ _
  refine wpAny_bind (wpAny_setField ho rfl (by simp) ?_)
  refine stop_run (show A.in1.handled = none from hh) fun e h' ⟨a, o, ea, hx, hc⟩ kp => ?_
  subst ea
  refine wpAny_bind (wpAny_isInstance (T := "StopIteration") (b := true) ⟨o, hx, hc⟩ isSubtype_stop ?_)
  exact wpAny_pure (hQ _ fun b o n q => kp b o ((Heap.get?_update_other _ _ (Ne.symm n)).trans q))

theorem pm_item3_0 {it pool : Addr} {x y z last : Value} {Q : Option Value → Shared → Prop} (hp : s.heap.IsTuple pool #[x, y, z]) (ho : s.heap.get? it = some ⟨.type "itertools.permutations", none, .fields #[.ref pool, rawInt 0, rawInt 3, last, rawInt 0, rawInt 1, rawInt 2, rawInt 3, rawInt 2, rawInt 1], #[]⟩)
    (hQ : ∀ h', h'.get? it = some ⟨.type "itertools.permutations", none, .fields #[.ref pool, rawInt 1, rawInt 3, .ref s.heap.objs.size, rawInt 0, rawInt 1, rawInt 2, rawInt 3, rawInt 2, rawInt 1], #[]⟩ → h'.get? s.heap.objs.size = some { cls := .type "tuple", data := .seq #[x, y, z] } → h'.objs.size = s.heap.objs.size + 1 → (∀ b o, b ≠ it → s.heap.get? b = some o → h'.get? b = some o) → Q (some (.ref s.heap.objs.size)) { s with heap := h' }) :
    wpAny (model prog w) A (callSpecial? (.ref it) "__next__") Q E s := by
  have hT : s.TypeIs (.ref it) "itertools.permutations" := ⟨_, ho, rfl⟩
  refine wpAny_callSpecial?_slot (name := Str.ofString "__next__") hT pm_snext (wpAny_call_entry pm_snext hT pm_enext ?_ (pm_anext _))
  show wpAny _ _ (field (.ref it) 0 >>= _) _ _ s
  refine wpAny_bind (wpAny_field ho rfl (x := .ref pool) rfl ?_)
  refine wpAny_bind (pool_run hp ?_)
  refine wpAny_bind (int_run ho rfl (i := 2) (n := 3) (t := 0) rfl ?_)
  refine wpAny_bind (nums_run ho rfl (l := [0, 1, 2, 3, 2, 1]) rfl ?_)
  refine wpAny_bind (int_run ho rfl (i := 1) (n := 0) (t := 0) rfl ?_)
  refine wpAny_bind (wpAny_setField ho rfl (by simp) ?_)
  have e1 : (s.heap.update it (Obj.mapFields (·.setIfInBounds 1 (rawInt 1)))).get? it = some ⟨.type "itertools.permutations", none, .fields #[.ref pool, rawInt 1, rawInt 3, last, rawInt 0, rawInt 1, rawInt 2, rawInt 3, rawInt 2, rawInt 1], #[]⟩ := Heap.get?_update_self _ ho rfl
  have e2 : (s.heap.update it (Obj.mapFields (·.setIfInBounds 1 (rawInt 1)))).objs.size = s.heap.objs.size := Heap.size_update ..
  have e3 : ∀ b o, b ≠ it → s.heap.get? b = some o → (s.heap.update it (Obj.mapFields (·.setIfInBounds 1 (rawInt 1)))).get? b = some o := fun b o n q => (Heap.get?_update_other _ _ (Ne.symm n)).trans q
  generalize s.heap.update it (Obj.mapFields (·.setIfInBounds 1 (rawInt 1))) = h1 at e1 e2 e3 ⊢
  show wpAny _ _ (newTuple [x, y, z] >>= _) _ _ _
  refine wpAny_bind (wpAny_newTuple ?_ (by show 3 ≤ sizeLine; decide))
  have hne : it ≠ h1.objs.size := fun z => by
    have q := Heap.lt_size e1
    rw [z] at q
    exact Nat.lt_irrefl _ q
  have f1 := Heap.get?_push_of_some ({ cls := .type "tuple", data := .seq ([x, y, z] : List Value).toArray } : Obj) e1
  refine wpAny_bind (wpAny_field f1 rfl (x := last) rfl ?_)
  refine wpAny_bind (wpAny_setField f1 rfl (by simp) ?_)
  refine wpAny_bind (wpAny_letGo ?_)
  refine wpAny_pure ⟨_, rfl, ?_⟩
  rw [e2] at hne ⊢
  refine hQ _ (Heap.get?_update_self _ f1 rfl) ((Heap.get?_update_other _ _ hne).trans ?_) (by rw [Heap.size_update, Heap.size_push, e2]) fun b o n q => (Heap.get?_update_other _ _ (Ne.symm n)).trans (Heap.get?_push_of_some _ (e3 b o n q))
  rw [← e2]
  exact Heap.get?_push_size _ rfl

theorem pm_item3_1 {it pool : Addr} {x y z last : Value} {Q : Option Value → Shared → Prop} (hp : s.heap.IsTuple pool #[x, y, z]) (ho : s.heap.get? it = some ⟨.type "itertools.permutations", none, .fields #[.ref pool, rawInt 1, rawInt 3, last, rawInt 0, rawInt 1, rawInt 2, rawInt 3, rawInt 2, rawInt 1], #[]⟩)
    (hQ : ∀ h', h'.get? it = some ⟨.type "itertools.permutations", none, .fields #[.ref pool, rawInt 1, rawInt 3, .ref s.heap.objs.size, rawInt 0, rawInt 2, rawInt 1, rawInt 3, rawInt 1, rawInt 1], #[]⟩ → h'.get? s.heap.objs.size = some { cls := .type "tuple", data := .seq #[x, z, y] } → h'.objs.size = s.heap.objs.size + 1 → (∀ b o, b ≠ it → s.heap.get? b = some o → h'.get? b = some o) → Q (some (.ref s.heap.objs.size)) { s with heap := h' }) :
    wpAny (model prog w) A (callSpecial? (.ref it) "__next__") Q E s := by
  have hT : s.TypeIs (.ref it) "itertools.permutations" := ⟨_, ho, rfl⟩
  refine wpAny_callSpecial?_slot (name := Str.ofString "__next__") hT pm_snext (wpAny_call_entry pm_snext hT pm_enext ?_ (pm_anext _))
  show wpAny _ _ (field (.ref it) 0 >>= _) _ _ s
  refine wpAny_bind (wpAny_field ho rfl (x := .ref pool) rfl ?_)
  refine wpAny_bind (pool_run hp ?_)
  refine wpAny_bind (int_run ho rfl (i := 2) (n := 3) (t := 0) rfl ?_)
  refine wpAny_bind (nums_run ho rfl (l := [0, 1, 2, 3, 2, 1]) rfl ?_)
  refine wpAny_bind (int_run ho rfl (i := 1) (n := 1) (t := 0) rfl ?_)
  show wpAny _ _ (Builtin.Itertools.itSetNumbersFrom (.ref it) 4 [0, 2, 1, 3, 1, 1] >>= _) _ _ _
  refine wpAny_bind (setn_run ho rfl ?_ (by simp [sizeLine]))
  have e1 : (s.heap.update it (Obj.mapFields fun fs => fs.extract 0 4 ++ (([0, 2, 1, 3, 1, 1] : List Nat).map fun (n : Nat) => rawInt n).toArray)).get? it = some ⟨.type "itertools.permutations", none, .fields #[.ref pool, rawInt 1, rawInt 3, last, rawInt 0, rawInt 2, rawInt 1, rawInt 3, rawInt 1, rawInt 1], #[]⟩ := Heap.get?_update_self _ ho rfl
  have e2 : (s.heap.update it (Obj.mapFields fun fs => fs.extract 0 4 ++ (([0, 2, 1, 3, 1, 1] : List Nat).map fun (n : Nat) => rawInt n).toArray)).objs.size = s.heap.objs.size := Heap.size_update ..
  have e3 : ∀ b o, b ≠ it → s.heap.get? b = some o → (s.heap.update it (Obj.mapFields fun fs => fs.extract 0 4 ++ (([0, 2, 1, 3, 1, 1] : List Nat).map fun (n : Nat) => rawInt n).toArray)).get? b = some o := fun b o n q => (Heap.get?_update_other _ _ (Ne.symm n)).trans q
  generalize s.heap.update it (Obj.mapFields fun fs => fs.extract 0 4 ++ (([0, 2, 1, 3, 1, 1] : List Nat).map fun (n : Nat) => rawInt n).toArray) = h1 at e1 e2 e3 ⊢
  show wpAny _ _ (newTuple [x, z, y] >>= _) _ _ _
  refine wpAny_bind (wpAny_newTuple ?_ (by show 3 ≤ sizeLine; decide))
  have hne : it ≠ h1.objs.size := fun z => by
    have q := Heap.lt_size e1
    rw [z] at q
    exact Nat.lt_irrefl _ q
  have f1 := Heap.get?_push_of_some ({ cls := .type "tuple", data := .seq ([x, z, y] : List Value).toArray } : Obj) e1
  refine wpAny_bind (wpAny_field f1 rfl (x := last) rfl ?_)
  refine wpAny_bind (wpAny_setField f1 rfl (by simp) ?_)
  refine wpAny_bind (wpAny_letGo ?_)
  refine wpAny_pure ⟨_, rfl, ?_⟩
  rw [e2] at hne ⊢
  refine hQ _ (Heap.get?_update_self _ f1 rfl) ((Heap.get?_update_other _ _ hne).trans ?_) (by rw [Heap.size_update, Heap.size_push, e2]) fun b o n q => (Heap.get?_update_other _ _ (Ne.symm n)).trans (Heap.get?_push_of_some _ (e3 b o n q))
  rw [← e2]
  exact Heap.get?_push_size _ rfl

theorem pm_item3_2 {it pool : Addr} {x y z last : Value} {Q : Option Value → Shared → Prop} (hp : s.heap.IsTuple pool #[x, y, z]) (ho : s.heap.get? it = some ⟨.type "itertools.permutations", none, .fields #[.ref pool, rawInt 1, rawInt 3, last, rawInt 0, rawInt 2, rawInt 1, rawInt 3, rawInt 1, rawInt 1], #[]⟩)
    (hQ : ∀ h', h'.get? it = some ⟨.type "itertools.permutations", none, .fields #[.ref pool, rawInt 1, rawInt 3, .ref s.heap.objs.size, rawInt 1, rawInt 0, rawInt 2, rawInt 2, rawInt 2, rawInt 1], #[]⟩ → h'.get? s.heap.objs.size = some { cls := .type "tuple", data := .seq #[y, x, z] } → h'.objs.size = s.heap.objs.size + 1 → (∀ b o, b ≠ it → s.heap.get? b = some o → h'.get? b = some o) → Q (some (.ref s.heap.objs.size)) { s with heap := h' }) :
    wpAny (model prog w) A (callSpecial? (.ref it) "__next__") Q E s := by
  have hT : s.TypeIs (.ref it) "itertools.permutations" := ⟨_, ho, rfl⟩
  refine wpAny_callSpecial?_slot (name := Str.ofString "__next__") hT pm_snext (wpAny_call_entry pm_snext hT pm_enext ?_ (pm_anext _))
  show wpAny _ _ (field (.ref it) 0 >>= _) _ _ s
  refine wpAny_bind (wpAny_field ho rfl (x := .ref pool) rfl ?_)
  refine wpAny_bind (pool_run hp ?_)
  refine wpAny_bind (int_run ho rfl (i := 2) (n := 3) (t := 0) rfl ?_)
  refine wpAny_bind (nums_run ho rfl (l := [0, 2, 1, 3, 1, 1]) rfl ?_)
  refine wpAny_bind (int_run ho rfl (i := 1) (n := 1) (t := 0) rfl ?_)
  show wpAny _ _ (Builtin.Itertools.itSetNumbersFrom (.ref it) 4 [1, 0, 2, 2, 2, 1] >>= _) _ _ _
  refine wpAny_bind (setn_run ho rfl ?_ (by simp [sizeLine]))
  have e1 : (s.heap.update it (Obj.mapFields fun fs => fs.extract 0 4 ++ (([1, 0, 2, 2, 2, 1] : List Nat).map fun (n : Nat) => rawInt n).toArray)).get? it = some ⟨.type "itertools.permutations", none, .fields #[.ref pool, rawInt 1, rawInt 3, last, rawInt 1, rawInt 0, rawInt 2, rawInt 2, rawInt 2, rawInt 1], #[]⟩ := Heap.get?_update_self _ ho rfl
  have e2 : (s.heap.update it (Obj.mapFields fun fs => fs.extract 0 4 ++ (([1, 0, 2, 2, 2, 1] : List Nat).map fun (n : Nat) => rawInt n).toArray)).objs.size = s.heap.objs.size := Heap.size_update ..
  have e3 : ∀ b o, b ≠ it → s.heap.get? b = some o → (s.heap.update it (Obj.mapFields fun fs => fs.extract 0 4 ++ (([1, 0, 2, 2, 2, 1] : List Nat).map fun (n : Nat) => rawInt n).toArray)).get? b = some o := fun b o n q => (Heap.get?_update_other _ _ (Ne.symm n)).trans q
  generalize s.heap.update it (Obj.mapFields fun fs => fs.extract 0 4 ++ (([1, 0, 2, 2, 2, 1] : List Nat).map fun (n : Nat) => rawInt n).toArray) = h1 at e1 e2 e3 ⊢
  show wpAny _ _ (newTuple [y, x, z] >>= _) _ _ _
  refine wpAny_bind (wpAny_newTuple ?_ (by show 3 ≤ sizeLine; decide))
  have hne : it ≠ h1.objs.size := fun z => by
    have q := Heap.lt_size e1
    rw [z] at q
    exact Nat.lt_irrefl _ q
  have f1 := Heap.get?_push_of_some ({ cls := .type "tuple", data := .seq ([y, x, z] : List Value).toArray } : Obj) e1
  refine wpAny_bind (wpAny_field f1 rfl (x := last) rfl ?_)
  refine wpAny_bind (wpAny_setField f1 rfl (by simp) ?_)
  refine wpAny_bind (wpAny_letGo ?_)
  refine wpAny_pure ⟨_, rfl, ?_⟩
  rw [e2] at hne ⊢
  refine hQ _ (Heap.get?_update_self _ f1 rfl) ((Heap.get?_update_other _ _ hne).trans ?_) (by rw [Heap.size_update, Heap.size_push, e2]) fun b o n q => (Heap.get?_update_other _ _ (Ne.symm n)).trans (Heap.get?_push_of_some _ (e3 b o n q))
  rw [← e2]
  exact Heap.get?_push_size _ rfl

theorem pm_item3_3 {it pool : Addr} {x y z last : Value} {Q : Option Value → Shared → Prop} (hp : s.heap.IsTuple pool #[x, y, z]) (ho : s.heap.get? it = some ⟨.type "itertools.permutations", none, .fields #[.ref pool, rawInt 1, rawInt 3, last, rawInt 1, rawInt 0, rawInt 2, rawInt 2, rawInt 2, rawInt 1], #[]⟩)
    (hQ : ∀ h', h'.get? it = some ⟨.type "itertools.permutations", none, .fields #[.ref pool, rawInt 1, rawInt 3, .ref s.heap.objs.size, rawInt 1, rawInt 2, rawInt 0, rawInt 2, rawInt 1, rawInt 1], #[]⟩ → h'.get? s.heap.objs.size = some { cls := .type "tuple", data := .seq #[y, z, x] } → h'.objs.size = s.heap.objs.size + 1 → (∀ b o, b ≠ it → s.heap.get? b = some o → h'.get? b = some o) → Q (some (.ref s.heap.objs.size)) { s with heap := h' }) :
    wpAny (model prog w) A (callSpecial? (.ref it) "__next__") Q E s := by
  have hT : s.TypeIs (.ref it) "itertools.permutations" := ⟨_, ho, rfl⟩
  refine wpAny_callSpecial?_slot (name := Str.ofString "__next__") hT pm_snext (wpAny_call_entry pm_snext hT pm_enext ?_ (pm_anext _))
  show wpAny _ _ (field (.ref it) 0 >>= _) _ _ s
  refine wpAny_bind (wpAny_field ho rfl (x := .ref pool) rfl ?_)
  refine wpAny_bind (pool_run hp ?_)
  refine wpAny_bind (int_run ho rfl (i := 2) (n := 3) (t := 0) rfl ?_)
  refine wpAny_bind (nums_run ho rfl (l := [1, 0, 2, 2, 2, 1]) rfl ?_)
  refine wpAny_bind (int_run ho rfl (i := 1) (n := 1) (t := 0) rfl ?_)
  show wpAny _ _ (Builtin.Itertools.itSetNumbersFrom (.ref it) 4 [1, 2, 0, 2, 1, 1] >>= _) _ _ _
  refine wpAny_bind (setn_run ho rfl ?_ (by simp [sizeLine]))
  have e1 : (s.heap.update it (Obj.mapFields fun fs => fs.extract 0 4 ++ (([1, 2, 0, 2, 1, 1] : List Nat).map fun (n : Nat) => rawInt n).toArray)).get? it = some ⟨.type "itertools.permutations", none, .fields #[.ref pool, rawInt 1, rawInt 3, last, rawInt 1, rawInt 2, rawInt 0, rawInt 2, rawInt 1, rawInt 1], #[]⟩ := Heap.get?_update_self _ ho rfl
  have e2 : (s.heap.update it (Obj.mapFields fun fs => fs.extract 0 4 ++ (([1, 2, 0, 2, 1, 1] : List Nat).map fun (n : Nat) => rawInt n).toArray)).objs.size = s.heap.objs.size := Heap.size_update ..
  have e3 : ∀ b o, b ≠ it → s.heap.get? b = some o → (s.heap.update it (Obj.mapFields fun fs => fs.extract 0 4 ++ (([1, 2, 0, 2, 1, 1] : List Nat).map fun (n : Nat) => rawInt n).toArray)).get? b = some o := fun b o n q => (Heap.get?_update_other _ _ (Ne.symm n)).trans q
  generalize s.heap.update it (Obj.mapFields fun fs => fs.extract 0 4 ++ (([1, 2, 0, 2, 1, 1] : List Nat).map fun (n : Nat) => rawInt n).toArray) = h1 at e1 e2 e3 ⊢
  show wpAny _ _ (newTuple [y, z, x] >>= _) _ _ _
  refine wpAny_bind (wpAny_newTuple ?_ (by show 3 ≤ sizeLine; decide))
  have hne : it ≠ h1.objs.size := fun z => by
    have q := Heap.lt_size e1
    rw [z] at q
    exact Nat.lt_irrefl _ q
  have f1 := Heap.get?_push_of_some ({ cls := .type "tuple", data := .seq ([y, z, x] : List Value).toArray } : Obj) e1
  refine wpAny_bind (wpAny_field f1 rfl (x := last) rfl ?_)
  refine wpAny_bind (wpAny_setField f1 rfl (by simp) ?_)
  refine wpAny_bind (wpAny_letGo ?_)
  refine wpAny_pure ⟨_, rfl, ?_⟩
  rw [e2] at hne ⊢
  refine hQ _ (Heap.get?_update_self _ f1 rfl) ((Heap.get?_update_other _ _ hne).trans ?_) (by rw [Heap.size_update, Heap.size_push, e2]) fun b o n q => (Heap.get?_update_other _ _ (Ne.symm n)).trans (Heap.get?_push_of_some _ (e3 b o n q))
  rw [← e2]
  exact Heap.get?_push_size _ rfl

theorem pm_item3_4 {it pool : Addr} {x y z last : Value} {Q : Option Value → Shared → Prop} (hp : s.heap.IsTuple pool #[x, y, z]) (ho : s.heap.get? it = some ⟨.type "itertools.permutations", none, .fields #[.ref pool, rawInt 1, rawInt 3, last, rawInt 1, rawInt 2, rawInt 0, rawInt 2, rawInt 1, rawInt 1], #[]⟩)
    (hQ : ∀ h', h'.get? it = some ⟨.type "itertools.permutations", none, .fields #[.ref pool, rawInt 1, rawInt 3, .ref s.heap.objs.size, rawInt 2, rawInt 0, rawInt 1, rawInt 1, rawInt 2, rawInt 1], #[]⟩ → h'.get? s.heap.objs.size = some { cls := .type "tuple", data := .seq #[z, x, y] } → h'.objs.size = s.heap.objs.size + 1 → (∀ b o, b ≠ it → s.heap.get? b = some o → h'.get? b = some o) → Q (some (.ref s.heap.objs.size)) { s with heap := h' }) :
    wpAny (model prog w) A (callSpecial? (.ref it) "__next__") Q E s := by
  have hT : s.TypeIs (.ref it) "itertools.permutations" := ⟨_, ho, rfl⟩
  refine wpAny_callSpecial?_slot (name := Str.ofString "__next__") hT pm_snext (wpAny_call_entry pm_snext hT pm_enext ?_ (pm_anext _))
  show wpAny _ _ (field (.ref it) 0 >>= _) _ _ s
  refine wpAny_bind (wpAny_field ho rfl (x := .ref pool) rfl ?_)
  refine wpAny_bind (pool_run hp ?_)
  refine wpAny_bind (int_run ho rfl (i := 2) (n := 3) (t := 0) rfl ?_)
  refine wpAny_bind (nums_run ho rfl (l := [1, 2, 0, 2, 1, 1]) rfl ?_)
  refine wpAny_bind (int_run ho rfl (i := 1) (n := 1) (t := 0) rfl ?_)
  show wpAny _ _ (Builtin.Itertools.itSetNumbersFrom (.ref it) 4 [2, 0, 1, 1, 2, 1] >>= _) _ _ _
  refine wpAny_bind (setn_run ho rfl ?_ (by simp [sizeLine]))
  have e1 : (s.heap.update it (Obj.mapFields fun fs => fs.extract 0 4 ++ (([2, 0, 1, 1, 2, 1] : List Nat).map fun (n : Nat) => rawInt n).toArray)).get? it = some ⟨.type "itertools.permutations", none, .fields #[.ref pool, rawInt 1, rawInt 3, last, rawInt 2, rawInt 0, rawInt 1, rawInt 1, rawInt 2, rawInt 1], #[]⟩ := Heap.get?_update_self _ ho rfl
  have e2 : (s.heap.update it (Obj.mapFields fun fs => fs.extract 0 4 ++ (([2, 0, 1, 1, 2, 1] : List Nat).map fun (n : Nat) => rawInt n).toArray)).objs.size = s.heap.objs.size := Heap.size_update ..
  have e3 : ∀ b o, b ≠ it → s.heap.get? b = some o → (s.heap.update it (Obj.mapFields fun fs => fs.extract 0 4 ++ (([2, 0, 1, 1, 2, 1] : List Nat).map fun (n : Nat) => rawInt n).toArray)).get? b = some o := fun b o n q => (Heap.get?_update_other _ _ (Ne.symm n)).trans q
  generalize s.heap.update it (Obj.mapFields fun fs => fs.extract 0 4 ++ (([2, 0, 1, 1, 2, 1] : List Nat).map fun (n : Nat) => rawInt n).toArray) = h1 at e1 e2 e3 ⊢
  show wpAny _ _ (newTuple [z, x, y] >>= _) _ _ _
  refine wpAny_bind (wpAny_newTuple ?_ (by show 3 ≤ sizeLine; decide))
  have hne : it ≠ h1.objs.size := fun z => by
    have q := Heap.lt_size e1
    rw [z] at q
    exact Nat.lt_irrefl _ q
  have f1 := Heap.get?_push_of_some ({ cls := .type "tuple", data := .seq ([z, x, y] : List Value).toArray } : Obj) e1
  refine wpAny_bind (wpAny_field f1 rfl (x := last) rfl ?_)
  refine wpAny_bind (wpAny_setField f1 rfl (by simp) ?_)
  refine wpAny_bind (wpAny_letGo ?_)
  refine wpAny_pure ⟨_, rfl, ?_⟩
  rw [e2] at hne ⊢
  refine hQ _ (Heap.get?_update_self _ f1 rfl) ((Heap.get?_update_other _ _ hne).trans ?_) (by rw [Heap.size_update, Heap.size_push, e2]) fun b o n q => (Heap.get?_update_other _ _ (Ne.symm n)).trans (Heap.get?_push_of_some _ (e3 b o n q))
  rw [← e2]
  exact Heap.get?_push_size _ rfl

theorem pm_item3_5 {it pool : Addr} {x y z last : Value} {Q : Option Value → Shared → Prop} (hp : s.heap.IsTuple pool #[x, y, z]) (ho : s.heap.get? it = some ⟨.type "itertools.permutations", none, .fields #[.ref pool, rawInt 1, rawInt 3, last, rawInt 2, rawInt 0, rawInt 1, rawInt 1, rawInt 2, rawInt 1], #[]⟩)
    (hQ : ∀ h', h'.get? it = some ⟨.type "itertools.permutations", none, .fields #[.ref pool, rawInt 1, rawInt 3, .ref s.heap.objs.size, rawInt 2, rawInt 1, rawInt 0, rawInt 1, rawInt 1, rawInt 1], #[]⟩ → h'.get? s.heap.objs.size = some { cls := .type "tuple", data := .seq #[z, y, x] } → h'.objs.size = s.heap.objs.size + 1 → (∀ b o, b ≠ it → s.heap.get? b = some o → h'.get? b = some o) → Q (some (.ref s.heap.objs.size)) { s with heap := h' }) :
    wpAny (model prog w) A (callSpecial? (.ref it) "__next__") Q E s := by
  have hT : s.TypeIs (.ref it) "itertools.permutations" := ⟨_, ho, rfl⟩
  refine wpAny_callSpecial?_slot (name := Str.ofString "__next__") hT pm_snext (wpAny_call_entry pm_snext hT pm_enext ?_ (pm_anext _))
  show wpAny _ _ (field (.ref it) 0 >>= _) _ _ s
  refine wpAny_bind (wpAny_field ho rfl (x := .ref pool) rfl ?_)
  refine wpAny_bind (pool_run hp ?_)
  refine wpAny_bind (int_run ho rfl (i := 2) (n := 3) (t := 0) rfl ?_)
  refine wpAny_bind (nums_run ho rfl (l := [2, 0, 1, 1, 2, 1]) rfl ?_)
  refine wpAny_bind (int_run ho rfl (i := 1) (n := 1) (t := 0) rfl ?_)
  show wpAny _ _ (Builtin.Itertools.itSetNumbersFrom (.ref it) 4 [2, 1, 0, 1, 1, 1] >>= _) _ _ _
  refine wpAny_bind (setn_run ho rfl ?_ (by simp [sizeLine]))
  have e1 : (s.heap.update it (Obj.mapFields fun fs => fs.extract 0 4 ++ (([2, 1, 0, 1, 1, 1] : List Nat).map fun (n : Nat) => rawInt n).toArray)).get? it = some ⟨.type "itertools.permutations", none, .fields #[.ref pool, rawInt 1, rawInt 3, last, rawInt 2, rawInt 1, rawInt 0, rawInt 1, rawInt 1, rawInt 1], #[]⟩ := Heap.get?_update_self _ ho rfl
  have e2 : (s.heap.update it (Obj.mapFields fun fs => fs.extract 0 4 ++ (([2, 1, 0, 1, 1, 1] : List Nat).map fun (n : Nat) => rawInt n).toArray)).objs.size = s.heap.objs.size := Heap.size_update ..
  have e3 : ∀ b o, b ≠ it → s.heap.get? b = some o → (s.heap.update it (Obj.mapFields fun fs => fs.extract 0 4 ++ (([2, 1, 0, 1, 1, 1] : List Nat).map fun (n : Nat) => rawInt n).toArray)).get? b = some o := fun b o n q => (Heap.get?_update_other _ _ (Ne.symm n)).trans q
  generalize s.heap.update it (Obj.mapFields fun fs => fs.extract 0 4 ++ (([2, 1, 0, 1, 1, 1] : List Nat).map fun (n : Nat) => rawInt n).toArray) = h1 at e1 e2 e3 ⊢
  show wpAny _ _ (newTuple [z, y, x] >>= _) _ _ _
  refine wpAny_bind (wpAny_newTuple ?_ (by show 3 ≤ sizeLine; decide))
  have hne : it ≠ h1.objs.size := fun z => by
    have q := Heap.lt_size e1
    rw [z] at q
    exact Nat.lt_irrefl _ q
  have f1 := Heap.get?_push_of_some ({ cls := .type "tuple", data := .seq ([z, y, x] : List Value).toArray } : Obj) e1
  refine wpAny_bind (wpAny_field f1 rfl (x := last) rfl ?_)
  refine wpAny_bind (wpAny_setField f1 rfl (by simp) ?_)
  refine wpAny_bind (wpAny_letGo ?_)
  refine wpAny_pure ⟨_, rfl, ?_⟩
  rw [e2] at hne ⊢
  refine hQ _ (Heap.get?_update_self _ f1 rfl) ((Heap.get?_update_other _ _ hne).trans ?_) (by rw [Heap.size_update, Heap.size_push, e2]) fun b o n q => (Heap.get?_update_other _ _ (Ne.symm n)).trans (Heap.get?_push_of_some _ (e3 b o n q))
  rw [← e2]
  exact Heap.get?_push_size _ rfl

theorem pm_end3 {it pool : Addr} {x y z last : Value} {Q : Option Value → Shared → Prop} (hh : A.handled = none) (hp : s.heap.IsTuple pool #[x, y, z]) (ho : s.heap.get? it = some ⟨.type "itertools.permutations", none, .fields #[.ref pool, rawInt 1, rawInt 3, last, rawInt 2, rawInt 1, rawInt 0, rawInt 1, rawInt 1, rawInt 1], #[]⟩)
    (hQ : ∀ h', (∀ b o, b ≠ it → s.heap.get? b = some o → h'.get? b = some o) → Q none { s with heap := h' }) : wpAny (model prog w) A (pyNext (.ref it)) Q E s := by
  have hT : s.TypeIs (.ref it) "itertools.permutations" := ⟨_, ho, rfl⟩
  unfold pyNext
  refine wpAny_bind (wpAny_attempt (wpAny_callSpecial?_slot (name := Str.ofString "__next__") hT pm_snext (wpAny_call_entry pm_snext hT pm_enext ?_ (pm_anext _))))
  show wpAny _ _ (field (.ref it) 0 >>= _) _ _ s
  refine wpAny_bind (wpAny_field ho rfl (x := .ref pool) rfl ?_)
  refine wpAny_bind (pool_run hp ?_)
  refine wpAny_bind (int_run ho rfl (i := 2) (n := 3) (t := 0) rfl ?_)
  refine wpAny_bind (nums_run ho rfl (l := [2, 1, 0, 1, 1, 1]) rfl ?_)
  refine wpAny_bind (int_run ho rfl (i := 1) (n := 1) (t := 0) rfl ?_)
  show wpAny _ _ (setField (.ref it) 1 (rawInt 2) >>= _) _ _ _
  refine wpAny_bind (wpAny_setField ho rfl (by simp) ?_)
  refine stop_run (show A.in1.handled = none from hh) fun e h' ⟨a, o, ea, hx, hc⟩ kp => ?_
  subst ea
  refine wpAny_bind (wpAny_isInstance (T := "StopIteration") (b := true) ⟨o, hx, hc⟩ isSubtype_stop ?_)
  exact wpAny_pure (hQ _ fun b o n q => kp b o ((Heap.get?_update_other _ _ (Ne.symm n)).trans q))

theorem pm_iter {it : Addr} {vs : Array Value} {Q : Value → Shared → Prop} (ho : s.heap.get? it = some ⟨.type "itertools.permutations", none, .fields vs, #[]⟩) (h : Q (.ref it) s) : wpAny (model prog w) A (pyIter (.ref it)) Q E s := by
  have hT : s.TypeIs (.ref it) "itertools.permutations" := ⟨_, ho, rfl⟩
  refine wpAny_pyIter_slot hT pm_siter (wpAny_call_entry pm_siter hT pm_eiter ?_ (pm_aiter _))
  show wpAny _ _ (ret (.ref it)) _ _ s
  exact wpAny_pure ⟨_, rfl, "itertools.permutations", _, hT, pm_snext.lookup, h⟩
end
end PM

set_option Elab.async false
set_option linter.all false
set_option maxRecDepth 100000
set_option maxHeartbeats 4000000
namespace PM
open PySem PySem.Spec PyProof.Rows L2
open Sem (wp)
/-- all orders, as lists ascend by places -/
def perms {α : Type} : List α → List (List α)
  | [x] => [[x]]
  | [x, y] => [[x, y], [y, x]]
  | [x, y, z] => [[x, y, z], [x, z, y], [y, x, z], [y, z, x], [z, x, y], [z, y, x]]
  | _ => []
def pmF (pool : Addr) (last : Value) : Nat → Nat → Array Value
  | 1, 0 => #[.ref pool, rawInt 0, rawInt 1, last, rawInt 0, rawInt 1]
  | 1, 1 => #[.ref pool, rawInt 1, rawInt 1, last, rawInt 0, rawInt 1]
  | 2, 0 => #[.ref pool, rawInt 0, rawInt 2, last, rawInt 0, rawInt 1, rawInt 2, rawInt 1]
  | 2, 1 => #[.ref pool, rawInt 1, rawInt 2, last, rawInt 0, rawInt 1, rawInt 2, rawInt 1]
  | 2, 2 => #[.ref pool, rawInt 1, rawInt 2, last, rawInt 1, rawInt 0, rawInt 1, rawInt 1]
  | 3, 0 => #[.ref pool, rawInt 0, rawInt 3, last, rawInt 0, rawInt 1, rawInt 2, rawInt 3, rawInt 2, rawInt 1]
  | 3, 1 => #[.ref pool, rawInt 1, rawInt 3, last, rawInt 0, rawInt 1, rawInt 2, rawInt 3, rawInt 2, rawInt 1]
  | 3, 2 => #[.ref pool, rawInt 1, rawInt 3, last, rawInt 0, rawInt 2, rawInt 1, rawInt 3, rawInt 1, rawInt 1]
  | 3, 3 => #[.ref pool, rawInt 1, rawInt 3, last, rawInt 1, rawInt 0, rawInt 2, rawInt 2, rawInt 2, rawInt 1]
  | 3, 4 => #[.ref pool, rawInt 1, rawInt 3, last, rawInt 1, rawInt 2, rawInt 0, rawInt 2, rawInt 1, rawInt 1]
  | 3, 5 => #[.ref pool, rawInt 1, rawInt 3, last, rawInt 2, rawInt 0, rawInt 1, rawInt 1, rawInt 2, rawInt 1]
  | 3, 6 => #[.ref pool, rawInt 1, rawInt 3, last, rawInt 2, rawInt 1, rawInt 0, rawInt 1, rawInt 1, rawInt 1]
  | _, _ => #[]
/-- the object at it is about to tell its i-th order -/
def PmAt (h : Heap) (it pool : Addr) (us : List Value) (i : Nat) : Prop := it ≠ pool ∧ i ≤ (perms us).length ∧ h.IsTuple pool us.toArray ∧ ∃ last, h.get? it = some ⟨.type "itertools.permutations", none, .fields (pmF pool last us.length i), #[]⟩
section
variable {prog : Program} {w : World} {A : Around} {E : Value → Shared → Prop} {s : Shared}
theorem pm_item {it pool : Addr} {us : List Value} {i : Nat} {ys : List Value} {Q : Option Value → Shared → Prop} (st : PmAt s.heap it pool us i) (hy : (perms us)[i]? = some ys)
    (hQ : ∀ h', PmAt h' it pool us (i + 1) → h'.get? s.heap.objs.size = some { cls := .type "tuple", data := .seq ys.toArray } → h'.objs.size = s.heap.objs.size + 1 → (∀ b o, b ≠ it → s.heap.get? b = some o → h'.get? b = some o) → Q (some (.ref s.heap.objs.size)) { s with heap := h' }) :
    wpAny (model prog w) A (callSpecial? (.ref it) "__next__") Q E s :=
  match us, st, hy, hQ with
  | [], _, hy, _ => by cases hy
  | [x], st, hy, hQ => match i, st, hy, hQ with
    | 0, st, hy, hQ => by
      obtain ⟨ne, hle, hp, last, ho⟩ := st
      cases hy
      obtain ⟨o, h1, h2, k, h3⟩ := id hp
      exact pm_item1_0 hp ho fun h' a b c d => hQ h' ⟨ne, by show 1 ≤ 1; decide, ⟨o, d pool o (Ne.symm ne) h1, h2, k, h3⟩, _, a⟩ b c d
    | i + 1, _, hy, _ => by
      have q := (List.getElem?_eq_some_iff.mp hy).1
      exact absurd (show i + 1 < 1 from q) (by omega)
  | [x, y], st, hy, hQ => match i, st, hy, hQ with
    | 0, st, hy, hQ => by
      obtain ⟨ne, hle, hp, last, ho⟩ := st
      cases hy
      obtain ⟨o, h1, h2, k, h3⟩ := id hp
      exact pm_item2_0 hp ho fun h' a b c d => hQ h' ⟨ne, by show 1 ≤ 2; decide, ⟨o, d pool o (Ne.symm ne) h1, h2, k, h3⟩, _, a⟩ b c d
    | 1, st, hy, hQ => by
      obtain ⟨ne, hle, hp, last, ho⟩ := st
      cases hy
      obtain ⟨o, h1, h2, k, h3⟩ := id hp
      exact pm_item2_1 hp ho fun h' a b c d => hQ h' ⟨ne, by show 2 ≤ 2; decide, ⟨o, d pool o (Ne.symm ne) h1, h2, k, h3⟩, _, a⟩ b c d
    | i + 2, _, hy, _ => by
      have q := (List.getElem?_eq_some_iff.mp hy).1
      exact absurd (show i + 2 < 2 from q) (by omega)
  | [x, y, z], st, hy, hQ => match i, st, hy, hQ with
    | 0, st, hy, hQ => by
      obtain ⟨ne, hle, hp, last, ho⟩ := st
      cases hy
      obtain ⟨o, h1, h2, k, h3⟩ := id hp
      exact pm_item3_0 hp ho fun h' a b c d => hQ h' ⟨ne, by show 1 ≤ 6; decide, ⟨o, d pool o (Ne.symm ne) h1, h2, k, h3⟩, _, a⟩ b c d
    | 1, st, hy, hQ => by
      obtain ⟨ne, hle, hp, last, ho⟩ := st
      cases hy
      obtain ⟨o, h1, h2, k, h3⟩ := id hp
      exact pm_item3_1 hp ho fun h' a b c d => hQ h' ⟨ne, by show 2 ≤ 6; decide, ⟨o, d pool o (Ne.symm ne) h1, h2, k, h3⟩, _, a⟩ b c d
    | 2, st, hy, hQ => by
      obtain ⟨ne, hle, hp, last, ho⟩ := st
      cases hy
      obtain ⟨o, h1, h2, k, h3⟩ := id hp
      exact pm_item3_2 hp ho fun h' a b c d => hQ h' ⟨ne, by show 3 ≤ 6; decide, ⟨o, d pool o (Ne.symm ne) h1, h2, k, h3⟩, _, a⟩ b c d
    | 3, st, hy, hQ => by
      obtain ⟨ne, hle, hp, last, ho⟩ := st
      cases hy
      obtain ⟨o, h1, h2, k, h3⟩ := id hp
      exact pm_item3_3 hp ho fun h' a b c d => hQ h' ⟨ne, by show 4 ≤ 6; decide, ⟨o, d pool o (Ne.symm ne) h1, h2, k, h3⟩, _, a⟩ b c d
    | 4, st, hy, hQ => by
      obtain ⟨ne, hle, hp, last, ho⟩ := st
      cases hy
      obtain ⟨o, h1, h2, k, h3⟩ := id hp
      exact pm_item3_4 hp ho fun h' a b c d => hQ h' ⟨ne, by show 5 ≤ 6; decide, ⟨o, d pool o (Ne.symm ne) h1, h2, k, h3⟩, _, a⟩ b c d
    | 5, st, hy, hQ => by
      obtain ⟨ne, hle, hp, last, ho⟩ := st
      cases hy
      obtain ⟨o, h1, h2, k, h3⟩ := id hp
      exact pm_item3_5 hp ho fun h' a b c d => hQ h' ⟨ne, by show 6 ≤ 6; decide, ⟨o, d pool o (Ne.symm ne) h1, h2, k, h3⟩, _, a⟩ b c d
    | i + 6, _, hy, _ => by
      have q := (List.getElem?_eq_some_iff.mp hy).1
      exact absurd (show i + 6 < 6 from q) (by omega)
  | _ :: _ :: _ :: _ :: _, _, hy, _ => by cases hy
theorem pm_end {it pool : Addr} {us : List Value} {i : Nat} {Q : Option Value → Shared → Prop} (hh : A.handled = none) (h0 : us ≠ []) (h3 : us.length ≤ 3) (st : PmAt s.heap it pool us i) (hi : (perms us).length ≤ i)
    (hQ : ∀ h', (∀ b o, b ≠ it → s.heap.get? b = some o → h'.get? b = some o) → Q none { s with heap := h' }) : wpAny (model prog w) A (pyNext (.ref it)) Q E s :=
  match us, h0, h3, st, hi with
  | [], h0, _, _, _ => absurd rfl h0
  | [x], _, _, st, hi => by
      obtain ⟨ne, hle, hp, last, ho⟩ := st
      obtain rfl : i = 1 := Nat.le_antisymm hle hi
      exact pm_end1 hh hp ho hQ
  | [x, y], _, _, st, hi => by
      obtain ⟨ne, hle, hp, last, ho⟩ := st
      obtain rfl : i = 2 := Nat.le_antisymm hle hi
      exact pm_end2 hh hp ho hQ
  | [x, y, z], _, _, st, hi => by
      obtain ⟨ne, hle, hp, last, ho⟩ := st
      obtain rfl : i = 6 := Nat.le_antisymm hle hi
      exact pm_end3 hh hp ho hQ
  | _ :: _ :: _ :: _ :: _, _, h3, _, _ => absurd h3 (by simp only [List.length_cons]; omega)
end
theorem perms_vals {xs : List V} {us : List Value} (r : Vals xs us) {i : Nat} {ys : List V} (h : (perms xs)[i]? = some ys) : ∃ zs, (perms us)[i]? = some zs ∧ Vals ys zs ∧ ys.length = xs.length :=
  match xs, us, r with
  | [], _, _ => by cases h
  | [x], _, .cons r0 (.nil) => match i, h with
    | 0, h => ⟨_, rfl, by cases h; exact .cons r0 (.nil), by cases h; rfl⟩
    | i + 1, h => by
      have q := (List.getElem?_eq_some_iff.mp h).1
      exact absurd (show i + 1 < 1 from q) (by omega)
  | [x, y], _, .cons r0 (.cons r1 (.nil)) => match i, h with
    | 0, h => ⟨_, rfl, by cases h; exact .cons r0 (.cons r1 (.nil)), by cases h; rfl⟩
    | 1, h => ⟨_, rfl, by cases h; exact .cons r1 (.cons r0 (.nil)), by cases h; rfl⟩
    | i + 2, h => by
      have q := (List.getElem?_eq_some_iff.mp h).1
      exact absurd (show i + 2 < 2 from q) (by omega)
  | [x, y, z], _, .cons r0 (.cons r1 (.cons r2 (.nil))) => match i, h with
    | 0, h => ⟨_, rfl, by cases h; exact .cons r0 (.cons r1 (.cons r2 (.nil))), by cases h; rfl⟩
    | 1, h => ⟨_, rfl, by cases h; exact .cons r0 (.cons r2 (.cons r1 (.nil))), by cases h; rfl⟩
    | 2, h => ⟨_, rfl, by cases h; exact .cons r1 (.cons r0 (.cons r2 (.nil))), by cases h; rfl⟩
    | 3, h => ⟨_, rfl, by cases h; exact .cons r1 (.cons r2 (.cons r0 (.nil))), by cases h; rfl⟩
    | 4, h => ⟨_, rfl, by cases h; exact .cons r2 (.cons r0 (.cons r1 (.nil))), by cases h; rfl⟩
    | 5, h => ⟨_, rfl, by cases h; exact .cons r2 (.cons r1 (.cons r0 (.nil))), by cases h; rfl⟩
    | i + 6, h => by
      have q := (List.getElem?_eq_some_iff.mp h).1
      exact absurd (show i + 6 < 6 from q) (by omega)
  | _ :: _ :: _ :: _ :: _, _, _ => by cases h
theorem perms_len {xs : List V} {us : List Value} (r : Vals xs us) : (perms us).length = (perms xs).length :=
  match xs, us, r with
  | [], _, .nil => rfl
  | [_], _, .cons _ .nil => rfl
  | [_, _], _, .cons _ (.cons _ .nil) => rfl
  | [_, _, _], _, .cons _ (.cons _ (.cons _ .nil)) => rfl
  | _ :: _ :: _ :: _ :: _, _, .cons _ (.cons _ (.cons _ (.cons _ _))) => rfl
/-- each order is a new tuple -/
def ItP (xs : List V) : It := ⟨fun i _ => i < (perms xs).length, fun i H v H' => ∃ T ys, v = .ref T ∧ H T = none ∧ (perms xs)[i]? = some ys ∧ H' = upd H T (.tup ys), fun i _ => (perms xs).length ≤ i⟩
theorem turn_perm {P : Program} {w : World} {K : PySem.W.Frag} {tg : Expr} {xs : List V} {us : List Value} (rv : Vals xs us) (h0 : xs ≠ []) (h3 : xs.length ≤ 3) (it pool : Addr) : Turn P w K tg (ItP xs) [it, pool] it (fun i h => PmAt h it pool us i) where
  mem := by simp
  obj := fun i h st b hb => by
    obtain ⟨ne, hle, ⟨o, h1, h2, k, h3⟩, last, ho⟩ := st
    have e : b = it ∨ b = pool := by simpa using hb
    rcases e with z | z
    · rw [z]; exact ⟨_, ho, fun v q => nomatch q⟩
    · rw [z]; exact ⟨o, h1, fun v q => by rw [h3] at q; cases q⟩
  keep := fun i h h' st kp => by
    obtain ⟨ne, hle, ⟨o, h1, h2, k, h3⟩, last, ho⟩ := st
    exact ⟨ne, hle, ⟨o, kp pool (by simp) _ h1, h2, k, h3⟩, last, kp it (by simp) _ ho⟩
  item := by
    intro X hP hw hK hc i pins s σ H E I hf st hg
    subst hP hw hK
    have hg : i < (perms xs).length := hg
    obtain ⟨zs, hz, rz, ly⟩ := perms_vals rv (List.getElem?_eq_getElem hg)
    have hil : it < s.heap.objs.size := by obtain ⟨_, _, _, _, ho⟩ := st; exact Heap.lt_size ho
    have hpl : pool < s.heap.objs.size := by obtain ⟨_, _, ⟨o, h1, _⟩, _⟩ := st; exact Heap.lt_size h1
    unfold pyNext
    refine wpAny_bind (wpAny_attempt (pm_item st hz fun h' st' hT hsz hk => ?_))
    refine wpAny_pure ⟨_, rfl, ?_⟩
    have new : ObjOk X.prog X.w (upd H s.heap.objs.size (.tup (perms xs)[i])) h' s.heap.objs.size (.tup (perms xs)[i]) :=
      ⟨by show (perms xs)[i].length ≤ sizeLine; rw [ly]; exact Nat.le_trans h3 (by decide), zs, rz, ⟨_, hT, rfl, _, rfl⟩⟩
    have I1 : Inv X pins σ (upd H s.heap.objs.size (.tup (perms xs)[i])) { s with heap := h' } :=
      I.turnedNew (t' := s.toks) (ch := [it, pool]) (fun b ob hb q => hk b ob (fun z => hb (by simp [z])) q) hf (Nat.le_refl _) new
    obtain ⟨_, _, _, _, ho⟩ := id st'
    refine go_of (s := { s with heap := h' }) ho rfl rfl (by decide) ⟨.ref s.heap.objs.size, _, I1, rfl, ⟨_, _, rfl, I.hok.fresh (Nat.le_refl _), List.getElem?_eq_getElem hg, rfl⟩, st', fun b hb => ?_⟩
    have hb' : b < s.heap.objs.size := by
      have e' : b = it ∨ b = pool := by simpa using hb
      rcases e' with z | z
      · rw [z]; exact hil
      · rw [z]; exact hpl
    rw [upd_ne (Nat.ne_of_lt hb')]
    exact (hf b hb).1
  done := by
    intro X hP hw hK hc i pins s σ H E I hf st hg
    subst hP hw hK
    obtain ⟨f0, f1, f2, f3, f4, f5⟩ := hf it (by simp)
    have hh : X.A.handled = none := I.ok.hd hc
    have hg : (perms xs).length ≤ i := hg
    refine pm_end hh (fun z => h0 ?_) (by rw [← rv.length]; exact h3) st (by rw [perms_len rv]; exact hg) fun h' hk => ⟨rfl, I.turned (t' := s.toks) (fun b o hb q => hk b o hb q) f0 f1 f3 f4 f5⟩
    subst z
    cases rv
    rfl
  self := fun A i s Q E st h => let ⟨_, _, _, _, ho⟩ := st; pm_iter ho h
theorem pm_call {prog : Program} {w : World} {A : Around} {E Q : Value → Shared → Prop} {s : Shared} {t : Addr} {us : List Value} (h0 : us ≠ []) (h3 : us.length ≤ 3) (ht : s.heap.IsTuple t us.toArray)
    (q : ∀ h' : Heap, (∀ b o', s.heap.get? b = some o' → h'.get? b = some o') → Q (.ref (h'.push { cls := .type "tuple", data := .seq us.toArray }).objs.size) { s with heap := (h'.push { cls := .type "tuple", data := .seq us.toArray }).push ⟨.type "itertools.permutations", none, .fields (pmF h'.objs.size .none us.length 0), #[]⟩ }) :
    wpAny (model prog w) A (call (.type "itertools.permutations") [.ref t]) Q E s := by
  rcases us with _ | ⟨x, _ | ⟨y, _ | ⟨z, _ | ⟨_, _⟩⟩⟩⟩
  · exact absurd rfl h0
  · refine pm_callN h3 ht fun h' hk => ?_
    have e : pmG h'.objs.size [x].length = pmF h'.objs.size .none [x].length 0 := rfl
    rw [e]
    exact q h' hk
  · refine pm_callN h3 ht fun h' hk => ?_
    have e : pmG h'.objs.size [x, y].length = pmF h'.objs.size .none [x, y].length 0 := rfl
    rw [e]
    exact q h' hk
  · refine pm_callN h3 ht fun h' hk => ?_
    have e : pmG h'.objs.size [x, y, z].length = pmF h'.objs.size .none [x, y, z].length 0 := rfl
    rw [e]
    exact q h' hk
  · exact absurd h3 (by simp only [List.length_cons]; omega)
def iPerm (K : PySem.W.Frag) (ta : TA) : TI := fun σ H R => ta σ H fun vs H1 => ∃ a xs, vs = [.ref a] ∧ SqT K H1 a xs ∧ xs ≠ [] ∧ xs.length ≤ 3 ∧ R (ItP xs) H1
theorem pi_perm {X : Cx} {K : PySem.W.Frag} {e tg : Expr} {ta : TA} {p pos : Pos} (hg : Gl X "permutations") (hm : X.mg "permutations" = some (.type "itertools.permutations")) (ha : PA X [e] ta) (hK : X.K = K := by rfl) (hs : starEach [e] X.env = [(false, eval e X.env)] := by rfl) :
    PI X tg (.Call (.Name "permutations" p) [e] [] pos) (iPerm K ta) := by
  subst hK
  refine ⟨fun pins s σ H R I h => ?_⟩
  refine Call_ (ld_glob I hg hm (PyProof.Rows.callWith_type1 (thn (ha.run pos pins s σ H _ I h) fun us s1 ⟨vs, H1, I1, r1, q1⟩ => ?_) hs rfl))
  obtain ⟨a, xs, ex, hq, h0, h3, q⟩ := q1
  subst ex
  cases r1 with
  | cons r rr =>
    cases rr
    cases r
    obtain ⟨its, rv, p', hz⟩ := I1.tuple hq
    have pt : s1.heap.IsTuple a its.toArray := p'
    have e0 : its ≠ [] := fun z => h0 (by subst z; cases rv; rfl)
    refine pm_call e0 (by rw [← rv.length]; exact h3) pt fun h' hk => pm_iter (Heap.get?_push_size _ rfl) ?_
    have hz1 : (h'.push { cls := .type "tuple", data := .seq its.toArray }).objs.size = h'.objs.size + 1 := Heap.size_push ..
    have o1 : (h'.push { cls := .type "tuple", data := .seq its.toArray }).get? h'.objs.size = some { cls := .type "tuple", data := .seq its.toArray } := Heap.get?_push_size _ rfl
    have I0 : Inv X pins σ H1 { s1 with heap := h' } := I1.kept (t' := s1.toks) fun b o x => hk b o x
    have o2 : ((h'.push { cls := .type "tuple", data := .seq its.toArray }).push ⟨.type "itertools.permutations", none, .fields (pmF h'.objs.size .none its.length 0), #[]⟩).get? (h'.push { cls := .type "tuple", data := .seq its.toArray }).objs.size = some ⟨.type "itertools.permutations", none, .fields (pmF h'.objs.size .none its.length 0), #[]⟩ := Heap.get?_push_size _ rfl
    have o3 := Heap.get?_push_of_some (⟨.type "itertools.permutations", none, .fields (pmF h'.objs.size .none its.length 0), #[]⟩ : Obj) o1
    have I2 : Inv X pins σ H1 { s1 with heap := (h'.push { cls := .type "tuple", data := .seq its.toArray }).push ⟨.type "itertools.permutations", none, .fields (pmF h'.objs.size .none its.length 0), #[]⟩ } :=
      I1.kept (t' := s1.toks) fun b o x => Heap.get?_push_of_some _ (Heap.get?_push_of_some _ (hk b o x))
    rw [hz1] at o2 ⊢
    generalize (h'.push { cls := .type "tuple", data := .seq its.toArray }).push ⟨.type "itertools.permutations", none, .fields (pmF h'.objs.size .none its.length 0), #[]⟩ = h2 at o2 o3 I2 ⊢
    refine ⟨_, [h'.objs.size + 1, h'.objs.size], _, _, H1, rfl, I2, turn_perm rv h0 h3 _ h'.objs.size, ⟨Nat.succ_ne_self _, Nat.zero_le _, ⟨_, o3, rfl, _, rfl⟩, .none, o2⟩, fun b hb => ?_, q⟩
    have e' : b = h'.objs.size + 1 ∨ b = h'.objs.size := by simpa using hb
    have hbl : h'.objs.size ≤ b := by
      rcases e' with z | z
      · rw [z]; exact Nat.le_succ _
      · rw [z]; exact Nat.le_refl _
    exact I0.fpOk hbl (I0.hok.fresh hbl)
theorem walk_perm {xs : List V} : Walk (ItP xs) (perms xs).length (fun _ => True) (fun i H v H' => ∃ T ys, v = .ref T ∧ H T = none ∧ (perms xs)[i]? = some ys ∧ H' = upd H T (.tup ys)) where
  goes := fun i H hi _ => hi
  stops := fun H _ => Nat.le_refl _
  yields := fun i H x H' hi _ y => y
end PM

set_option Elab.async false
set_option linter.all false
set_option maxRecDepth 100000
set_option maxHeartbeats 1000000
/-! min(l, key=lambda x: ..), l a list of made things, the key an int -/
namespace ML
open PySem PySem.Spec PyProof.Rows L2 LamX NdefX
open Sem (wp)
abbrev lmF (qual : Str) (params : Arguments) (scope : Scope) (cl : List (Str × Addr)) (c : Addr) : NF := ⟨"<lambda>", qual, params, [], scope, cl, c⟩
/-- a lambda is called -/
theorem lam_run {CX : CXT} {P : Program} {w : World} {K : PySem.W.Frag} {mg : Str → Option Value} {base : Heap} {N ps fr : List Str} {k : Nat} {qual : Str} {params : Arguments} {body : Expr} {scope : Scope} {cl : List (Str × Addr)} {c f : Addr} {pm ctv : Value} {A : Around} {outer : List Env} {s : Shared} {H : Hp} {us : List Value} {vs : List V}
    {ws : List (Option V)} {Q : VK} {E : XK} (S : NScope N ps fr scope) (hb : bindArgs (PySem.W.kla_fn "<lambda>" qual params body scope cl pm (.ref c) ctv) ⟨us, []⟩ = pure (ps.zip us)) (hr : Room (k + 1) A) (e0 : Env0 P w K mg base A outer s H)
    (ho : s.heap.get? f = some (PySem.W.kla_obj "<lambda>" qual params body scope cl pm c ctv)) (hc : H c = some (CodeO c qual)) (C : CellsAt cl fr ws s.heap H) (r : Vals vs us) (hl : vs.length = ps.length)
    (hbody : Room k (A.deeper (envF (lmF qual params scope cl c) f s.heap.objs.size)) → ∃ tb : TE, PE (ncx CX P w K mg base N (lmF qual params scope cl c) f A outer s H E) body tb ∧ tb (startF N vs ws) H Q) :
    codeAny (model P w) A (.call (.ref f) ⟨us, []⟩) (CR CX outer P w H s Q E) s := by
  have lim : s.heap.NoLimit := e0.mod.nolimit.keeps fun b o e => (e0.bs b o e).1
  refine PySem.W.kla_callFunE hr.depth ho rfl S.co S.gen rfl (codeO_at e0.hok hc) ?_
  rw [hb]
  refine wpAny_pure (wpAny_newFunctionEnv S.nocell (fun ⟨n, _⟩ hy => S.par n (List.of_mem_zip hy).1) (fun h₁ hns hsb => ⟨lim.fresh _ hsb, ?_⟩) S.kind)
  show codeAny _ _ (.expr body (envF (lmF qual params scope cl c) f s.heap.objs.size)) _ _
  have kp : ∀ b o, s.heap.get? b = some o → h₁.get? b = some o := fun b o e => hsb.extBut b o (Nat.ne_of_lt (Heap.lt_size e)) (Heap.get?_push_of_some _ e)
  obtain ⟨tb, hb', hq⟩ := hbody (hr.deeper _)
  have I : Inv (ncx CX P w K mg base N (lmF qual params scope cl c) f A outer s H E) [] (startF N vs ws) H { s with heap := h₁, toks := s.toks + (ps.zip us).length } := inv_startN (F := lmF qual params scope cl c) S hr.hd e0 hl r C hns kp
  refine PySem.W.kla_codeExpr (wpAny_mono (hb'.run [] _ _ H Q I hq) (fun v s' hq => ?_) fun e s' hq => hq)
  obtain ⟨w', H', J', rv, q⟩ := hq
  exact ⟨w', H', J'.os, J'.bare, J'.base, J'.hok, rv, q⟩
/-- the list's walk -/
theorem walks_refs {prog : Program} {w : World} {A : Around} (hh : A.handled = none) {it a : Addr} (hne : it ≠ a) {items : List Value} : WalksS prog w A it [it, a] [it] (fun x y => y = x) items.length (fun i v => items[i]? = some v) (fun i s => s.heap.IsListIter it a i ∧ s.heap.IsList a items.toArray) where
  sub := fun b hb => by simp only [List.mem_singleton] at hb; simp [hb]
  grefl := fun _ => rfl
  gtrans := fun a b c h1 h2 => h2.trans h1
  frame := fun i s h' tk ⟨h1, o, ho, hc, n, hd⟩ _ kp => ⟨h1.at fun o e => kp it (by simp) o e, o, kp a (by simp) o ho, hc, n, hd⟩
  item := fun i s Q E hi ⟨h1, h2⟩ hQ => by
    refine wpAny_pyNext_list_item h1 h2 (x := items[i]) (by simp [hi]) fun h' st' sb => ?_
    obtain ⟨o, ho, hc, n, hd⟩ := id h2
    exact hQ _ _ (List.getElem?_eq_getElem hi) ⟨st', o, (sb.2 a (Ne.symm hne)).trans ho, hc, n, hd⟩ ⟨fun b o hb e => (sb.2 b (fun z => hb (by simp [z]))).trans e, rfl, rfl, rfl, Nat.le_refl _⟩
  done := fun s Q E ⟨h1, h2⟩ hQ => by
    refine wpAny_pyNext_list_end hh h1 h2 (by simp) fun h' eb => ?_
    exact hQ _ ⟨fun b o hb e => eb b o (fun z => hb (by simp [z])) e, rfl, rfl, rfl, Nat.le_refl _⟩
  self := fun i s Q E ⟨h1, _⟩ hQ => wpAny_pyIter_listiter h1 hQ
theorem vals_refs {as : List Addr} : ∀ {its : List Value}, Vals (as.map V.ref) its → its = as.map Value.ref := by
  induction as with
  | nil => intro its r; cases r; rfl
  | cons a r ih =>
    intro its h
    cases h with
    | cons h1 h2 =>
      have h1 : _ = Value.ref a := h1
      rw [h1, ih h2]
      rfl
/-- which one is the first of the least -/
theorem argBest_is (cs : Nat → Int) : ∀ n : Nat, argBest (fun i j => decide (cs i < cs j)) n ≤ n ∧ (∀ j, j ≤ n → cs (argBest (fun i j => decide (cs i < cs j)) n) ≤ cs j) ∧ ∀ j, j < argBest (fun i j => decide (cs i < cs j)) n → cs (argBest (fun i j => decide (cs i < cs j)) n) < cs j
  | 0 => by
    refine ⟨Nat.le_refl _, fun j hj => ?_, fun j hj => absurd hj (Nat.not_lt_zero _)⟩
    obtain rfl : j = 0 := Nat.le_zero.mp hj
    exact Int.le_refl _
  | n + 1 => by
    obtain ⟨h1, h2, h3⟩ := argBest_is cs n
    have e : argBest (fun i j => decide (cs i < cs j)) (n + 1) = if decide (cs (n + 1) < cs (argBest (fun i j => decide (cs i < cs j)) n)) then n + 1 else argBest (fun i j => decide (cs i < cs j)) n := rfl
    rw [e]
    generalize argBest (fun i j => decide (cs i < cs j)) n = m at h1 h2 h3
    by_cases c : cs (n + 1) < cs m
    · rw [if_pos (decide_eq_true c)]
      refine ⟨Nat.le_refl _, fun j hj => ?_, fun j hj => ?_⟩
      · by_cases z : j = n + 1
        · subst z; exact Int.le_refl _
        · have := h2 j (by omega)
          omega
      · have := h2 j (by omega)
        omega
    · rw [if_neg (by simpa using c)]
      refine ⟨Nat.le_succ_of_le h1, fun j hj => ?_, h3⟩
      by_cases z : j = n + 1
      · subst z; omega
      · exact h2 j (by omega)
section
variable {X : Cx} {pins : List (Addr × Obj)} {σ : L2.St} {H : Hp} {s : Shared}
/-- min(l, key=f), f a function object that isn't tracked -/
theorem min_run {a f : Addr} {fo : Obj} {as : List Addr} {cs : Nat → Int} {R : Hp → Prop} {Q : VK} (hcx : X.calm = true) (I : Inv X pins σ H s) (ne : as ≠ []) (hf : s.heap.get? f = some fo) (fn : H f = none) (ffr : f ∉ frs X.stack) (hR : R H) (hRl : ∀ H', R H' → SqL X.K H' a (as.map V.ref))
    (step : ∀ (i : Nat) (p : Addr) (s' : Shared) (H' : Hp), as[i]? = some p → R H' → Inv X pins σ H' s' → s'.heap.get? f = some fo → H' f = none →
      codeAny (model X.prog X.w) X.A.in1 (.call (.ref f) ⟨[.ref p], []⟩) (CR C8.CX0 X.stack X.prog X.w H' s' (fun v H3 => v = .int (cs i) ∧ R H3) C8.E0) s')
    (fin : ∀ (i : Nat) (p : Addr) (H' : Hp), as[i]? = some p → (∀ j, j < as.length → cs i ≤ cs j) → (∀ j, j < i → cs i < cs j) → R H' → Q (.ref p) H') :
    wpAny (model X.prog X.w) X.A (call (.builtin "min") [.ref a] [(Str.ofString "key", .ref f)]) (EP X pins σ Q) X.xe s := by
  have hh : X.A.handled = none := I.ok.hd hcx
  obtain ⟨its, rv, p0, hz⟩ := I.list (hRl H hR)
  obtain rfl := vals_refs rv
  have hil : f < s.heap.objs.size := Heap.lt_size hf
  have hal : a < s.heap.objs.size := by obtain ⟨o, ho, _⟩ := p0.isList; exact Heap.lt_size ho
  refine call_min_walkK (wpAny_pyIter_list p0.isList ?_)
  have I1 : Inv X pins σ H { s with heap := s.heap.push { cls := .type "list_iterator", data := .fields #[.ref a, .int 0 0] } } := I.kept (t' := s.toks) fun b o e => Heap.get?_push_of_some _ e
  have hsz : (s.heap.push { cls := .type "list_iterator", data := .fields #[.ref a, .int 0 0] }).objs.size = s.heap.objs.size + 1 := Heap.size_push ..
  have fpI : FpOk X pins H s.heap.objs.size := I.fpOk (Nat.le_refl _) (I.hok.fresh (Nat.le_refl _))
  have fpS : FpOk X pins H (s.heap.objs.size + 1) := I.fpOk (Nat.le_succ _) (I.hok.fresh (Nat.le_succ _))
  have nfr : ∀ b, FpOk X pins H b → b ∉ frs X.stack := fun b h z => by
    rcases List.mem_cons.mp (I.stkSub _ z) with e | e
    · exact h.2.1 e
    · exact h.2.2.1 e
  have nI := nfr _ fpI
  have nS := nfr _ fpS
  refine ⟨s.heap.objs.size, [s.heap.objs.size, a], [s.heap.objs.size], fun x y => y = x, (as.map Value.ref).length, fun i v => (as.map Value.ref)[i]? = some v, fun i s₁ => s₁.heap.IsListIter s.heap.objs.size a i ∧ s₁.heap.IsList a (as.map Value.ref).toArray, fun s' => ∃ H', Inv X pins σ H' s' ∧ R H' ∧ s'.heap.get? f = some fo ∧ H' f = none ∧ H' s.heap.objs.size = none ∧ H' (s.heap.objs.size + 1) = none,
    fun i k _ => ∃ t, k = .int (cs i) t, fun i j => decide (cs i < cs j), rfl, ?_, ?_, ?_, ?_, ?_, ?_, ?_⟩
  · exact walks_refs (items := as.map Value.ref) (show X.A.in1.handled = none from hh) (Nat.ne_of_gt hal)
  · obtain ⟨o, ho, hc, n, hd⟩ := p0.isList
    refine ⟨⟨{ cls := .type "list_iterator", data := .fields #[.ref a, .int 0 0] }, Heap.get?_push_size _ rfl, rfl, rfl⟩, o, Heap.get?_push_of_some _ ho, hc, n, hd⟩
  · intro b hb
    have e : b = s.heap.objs.size ∨ b = a := by simpa using hb
    rw [hsz]
    rcases e with z | z
    · rw [z]; exact Nat.lt_succ_self _
    · rw [z]; exact Nat.lt_succ_of_lt hal
  · rw [List.length_map]
    exact List.length_pos_iff.mpr ne
  · rw [hsz]
    refine ⟨fun s1 s2 ⟨H', J, r, h1, h2, h3, h4⟩ mv => ?_, fun i k s1 s2 v _ => v, fun i v s1 o Q' E' hi hP ⟨H', J, r, h1, h2, h3, h4⟩ ⟨st1, st2⟩ hS q => ?_, fun i j ki kj s1 Q' E' _ ⟨t, e1⟩ ⟨u, e2⟩ q => ?_⟩
    · obtain ⟨mh, mg', md, mo, mt⟩ := mv
      have fI : FpOk X pins H' s.heap.objs.size := ⟨h3, fpI.2⟩
      have fS : FpOk X pins H' (s.heap.objs.size + 1) := ⟨h4, fpS.2⟩
      have J2 : Inv X pins σ H' { s1 with heap := s2.heap, toks := s2.toks } := J.turnedL (ch := [s.heap.objs.size + 1, s.heap.objs.size]) mh fun b hb => by
        have e : b = s.heap.objs.size + 1 ∨ b = s.heap.objs.size := by simpa using hb
        rcases e with z | z
        · rw [z]; exact fS
        · rw [z]; exact fI
      have e : ({ s1 with heap := s2.heap, toks := s2.toks } : Shared) = s2 := by
        obtain ⟨a1, a2, a3, a4, a5⟩ := s1
        obtain ⟨b1, b2, b3, b4, b5⟩ := s2
        dsimp only at mg' md mo ⊢
        subst mg' md mo
        rfl
      rw [e] at J2
      refine ⟨H', J2, r, mh f fo ?_ h1, h2, h3, h4⟩
      intro z
      have e' : f = s.heap.objs.size + 1 ∨ f = s.heap.objs.size := by simpa using z
      rcases e' with z | z
      · rw [z] at hil; exact absurd hil (Nat.not_lt.mpr (Nat.le_succ _))
      · rw [z] at hil; exact absurd hil (Nat.lt_irrefl _)
    · rw [List.getElem?_map] at hP
      cases e : as[i]? with
      | none => rw [e] at hP; cases hP
      | some p =>
        rw [e] at hP
        obtain rfl : Value.ref p = v := Option.some.inj hP
        refine wpAny_call (codeAny_mono (step i p s1 H' e r J h1 h2) fun rr s2 hq => ?_)
        cases rr with
        | error e => exact False.elim hq
        | ok fl =>
          cases fl with
          | ret u =>
            obtain ⟨v', H3, os', bare', un, hok, rv', ev, r3⟩ := hq
            have hq2 : CE X.stack X.prog X.w H' s1 (fun v H4 => v = v' ∧ H4 = H3) u s2 := ⟨v', H3, os', bare', un, hok, rv', rfl, rfl⟩
            obtain ⟨v2, H4, J4, rv2, e1, e2⟩ := J.after hq2
            subst e1 e2
            subst ev
            obtain ⟨t, rfl⟩ := rv2
            obtain ⟨oi, hoi, hci, hdi⟩ := st1
            refine q _ s2 ⟨H4, J4, r3, un.keep f fo h1 h2 ffr (by simp), un.free f fo h1 h2 (by simp), un.free _ _ hoi h3 (by simp), un.free _ _ hS h4 (by simp)⟩ ⟨⟨oi, un.keep _ oi hoi h3 nI (by simp), hci, hdi⟩, ?_⟩ (un.keep _ o hS h4 nS (by simp)) ⟨t, rfl⟩ fun j k' hv => hv
            obtain ⟨its4, rv4, p4, hz4⟩ := J4.list (hRl H4 r3)
            obtain rfl := vals_refs rv4
            exact p4.isList
          | next => exact False.elim hq
          | brk => exact False.elim hq
          | cont => exact False.elim hq
    · rw [e1, e2]
      exact lt_int q
  · exact ⟨H, I1, hR, Heap.get?_push_of_some _ hf, fn, I.hok.fresh (Nat.le_refl _), I.hok.fresh (Nat.le_succ _)⟩
  · rintro v s' hP ⟨H', J, r, h1, h2, h3, h4⟩
    rw [List.length_map] at hP
    obtain ⟨b1, b2, b3⟩ := argBest_is cs (as.length - 1)
    rw [List.getElem?_map] at hP
    cases e : as[argBest (fun i j => decide (cs i < cs j)) (as.length - 1)]? with
    | none => rw [e] at hP; cases hP
    | some p =>
      rw [e] at hP
      obtain rfl : Value.ref p = v := Option.some.inj hP
      exact ⟨.ref p, H', J, rfl, fin _ p H' e (fun j hj => b2 j (by omega)) b3 r⟩
end
/-- min(e, key=lambda x: ..): te the list, tb the key of an item, from the lambda's names (the item, then what it captured) -/
def tMinLam (K : PySem.W.Frag) (T : List (Addr × Str)) (N : List Str) (js : List Nat) (te tb : TE) : TE := fun σ H Q => te σ H fun x H1 => ∃ (l : Addr) (as : List Addr) (cs : Nat → Int) (R : Hp → Prop), x = .ref l ∧ as ≠ [] ∧ Tabs T H1 ∧
  (∀ H2, ExtN H1 H2 → Tabs T H2 → R H2) ∧ (∀ H', R H' → SqL K H' l (as.map V.ref)) ∧
  (∀ (i : Nat) (p : Addr) (H' : Hp), as[i]? = some p → R H' → tb (startF N [.ref p] (js.map (slotAt σ))) H' fun v H3 => v = .int (cs i) ∧ R H3 ∧ ExtN H' H3) ∧
  ∀ (i : Nat) (p : Addr) (H' : Hp), as[i]? = some p → (∀ j, j < as.length → cs i ≤ cs j) → (∀ j, j < i → cs i < cs j) → R H' → Q (.ref p) H'
section
variable {X : Cx}
theorem pe_minLam {K : PySem.W.Frag} {T : List (Addr × Str)} {c P : Addr} {k : Nat} {N fr : List Str} {js : List Nat} {a : Str} {e body : Expr} {te tb : TE} {params : Arguments} {scope : Scope} {p lpos kpos pos : Pos} (hcx : X.calm = true) (hg : Gl X "min") (hm : X.mg "min" = none) (he : PE X e te)
    (TB : TabB X.base X.mg c P) (hcode : X.env.code = .ref c) (hmT : (P, X.env.qual ++ "<lambda>") ∈ T) (hu : ∀ q ∈ T, q.1 = P → q.2 = X.env.qual ++ "<lambda>") (S : NScope N [a] fr scope)
    (hfree : ∀ y ∈ scope.names, y.2 = .free → X.env.scope.names.lookup y.1 = some .cell ∨ X.env.scope.names.lookup y.1 = some .free) (hfr : ∀ y ∈ fr, (y, NameKind.free) ∈ scope.names) (hjs : js.map (fun j => X.N[j]?) = fr.map some)
    (hdef : defaultsOf params X.env = ([], [])) (hbind : ∀ (q : Str) (cl : List (Str × Addr)) (pm cv ctv u : Value), bindArgs (PySem.W.kla_fn "<lambda>" q params body scope cl pm cv ctv) ⟨[u], []⟩ = pure [(a, u)]) (hr : Room (k + 2) X.A)
    (hbody : ∀ (c' f : Addr) (A : Around) (outer : List Env) (s : Shared) (H : Hp), Room k (A.deeper (envF (lmF (X.env.qual ++ "<lambda>") params scope (cloFrom X.env.cells scope.names []) c') f s.heap.objs.size)) →
      PE (ncx C8.CX0 X.prog X.w X.K X.mg X.base N (lmF (X.env.qual ++ "<lambda>") params scope (cloFrom X.env.cells scope.names []) c') f A outer s H C8.E0) body tb) (hK : X.K = K := by rfl)
    (he1 : backTo pos (starEach [e] X.env) = (false, eval e X.env) :: backTo pos (starEach [] X.env) := by rfl) (hpl : (backTo pos (starEach [e] X.env)).any (·.1) = false := by rfl) (hs : starEach [e] X.env = (false, eval e X.env) :: starEach [] X.env := by rfl) :
    PE X (.Call (.Name "min" p) [e] [⟨some "key", .Lambda params body scope lpos, kpos⟩] pos) (tMinLam K T N js te tb) := by
  subst hK
  refine ⟨fun pins s σ H Q I h => ?_⟩
  refine wpAny_Call_Name_kw (ld_blt I hg hm boot_min ?_)
  refine PyProof.Rows.callWith_kw (thn ((pa_cons he pa_nil hs).run pos pins s σ H (fun vs H1 => match vs with
      | [x] => ∃ (l : Addr) (as : List Addr) (cs : Nat → Int) (R : Hp → Prop), x = .ref l ∧ as ≠ [] ∧ Tabs T H1 ∧
        (∀ H2, ExtN H1 H2 → Tabs T H2 → R H2) ∧ (∀ H', R H' → SqL X.K H' l (as.map V.ref)) ∧
        (∀ (i : Nat) (p : Addr) (H' : Hp), as[i]? = some p → R H' → tb (startF N [.ref p] (js.map (slotAt σ))) H' fun v H3 => v = .int (cs i) ∧ R H3 ∧ ExtN H' H3) ∧
        ∀ (i : Nat) (p : Addr) (H' : Hp), as[i]? = some p → (∀ j, j < as.length → cs i ≤ cs j) → (∀ j, j < i → cs i < cs j) → R H' → Q (.ref p) H'
      | _ => False) I h) fun us s1 ⟨vs, H1, I1, r1, q1⟩ => ?_) he1 hpl (by rfl) (by rfl)
  cases r1 with
  | nil => exact False.elim q1
  | cons rx rr =>
    cases rr with
    | cons _ _ => exact False.elim q1
    | nil =>
      obtain ⟨l, as, cs, R, rfl, ne, hT, hR, hRl, hstep, hfin⟩ := q1
      cases rx
      show wpAny _ _ (evalAll [do let v ← eval (.Lambda params body scope lpos) X.env; standAt pos; pure v]) _ _ _
      have hfr' : ∀ y ∈ scope.names, y.2 = .free → ∃ c, X.env.cells.lookup y.1 = some c := fun y hy e => (hfree y hy e).elim (fun z => I.ok.has _ (.inl z)) fun z => I.ok.has _ (.inr z)
      refine wpAny_evalAll_cons (wpAny_bind (lam_make2 I1 TB hcode hmT hu hT hdef hfr' fun f c' pm ctv H2 s2 I2 eN T2 hf hfn hfr2 hco => wpAny_bind (wpAny_standAt (wpAny_pure ?_))))
      refine wpAny_evalAll_nil ?_
      show wpAny _ _ (call (.builtin "min") [.ref l] [(Str.ofString "key", .ref f)]) _ _ _
      have cp : Caps X (cloFrom X.env.cells scope.names []) fr js := Caps.made I.ok hfree hfr hjs
      refine min_run (R := fun H' => R H' ∧ H' c' = some (CodeO c' (X.env.qual ++ "<lambda>"))) (cs := cs) hcx I2 ne hf hfn hfr2 ⟨hR H2 eN T2, hco⟩ (fun H' r => hRl H' r.1) (fun i q s' H' hi r J ho hn => ?_) fun i q H' hi hle hlt r => hfin i q H' hi hle hlt r.1
      refine codeAny_mono (lam_run (k := k) (N := N) (ps := [a]) (fr := fr) (us := [.ref q]) (vs := [.ref q]) (Q := fun v H3 => v = .int (cs i) ∧ R H3 ∧ ExtN H' H3) (E := C8.E0) S (hbind _ _ _ _ _ _) hr.in1 J.env0.in1 ho r.2 (cells_of J cp) (.cons rfl .nil) rfl fun hr2 => ⟨_, hbody c' f X.A.in1 X.stack s' H' hr2, hstep i q H' hi r.1⟩) fun rr s'' hq => ?_
      cases rr with
      | error e => exact False.elim hq
      | ok fl =>
        cases fl with
        | ret u =>
          obtain ⟨v', H3, os', bare', un, hok, rv', ev, r3, e3⟩ := hq
          exact ⟨v', H3, os', bare', un, hok, rv', ev, r3, e3 _ _ r.2 codeO_ne⟩
        | next => exact False.elim hq
        | brk => exact False.elim hq
        | cont => exact False.elim hq
end
end ML

set_option Elab.async false
set_option maxRecDepth 100000
set_option maxHeartbeats 4000000
namespace K06
open PySem L2
def top (i : Nat) : Stmt := PySem.Challenge.pw_granary_k24_whole_indexes_give_plans_mor.main.body.getD i (.Pass ⟨0, 0, 0, 0⟩)
abbrev sisso : Stmt := top 4
abbrev sbounds : Stmt := top 7
abbrev smusts : Stmt := top 8
abbrev sisof : Stmt := top 9
abbrev sends : Stmt := top 10
abbrev snarrow : Stmt := top 11
abbrev sgreater : Stmt := top 12
abbrev slesser : Stmt := top 13
abbrev siscrossed : Stmt := top 14
abbrev sallplans : Stmt := top 16
abbrev splansinorder : Stmt := top 17
abbrev swaysof : Stmt := top 18
abbrev sisway : Stmt := top 19
abbrev swayof : Stmt := top 20
abbrev stablesin : Stmt := top 21
abbrev scost : Stmt := top 22
abbrev srowsexpected : Stmt := top 23
abbrev srowsbetween : Stmt := top 24
abbrev sbest : Stmt := top 25
abbrev sLmix : Stmt := top 27
abbrev sLnext : Stmt := top 28
abbrev sLalike : Stmt := top 29
abbrev sLshapes : Stmt := top 30
abbrev sLnumber : Stmt := top 31
abbrev sLterm : Stmt := top 32
abbrev sLcond : Stmt := top 33
abbrev sLsome : Stmt := top 34
abbrev sLask : Stmt := top 35
abbrev sLstatement : Stmt := top 36
abbrev sLlinked : Stmt := top 37
abbrev sLindexes : Stmt := top 38
abbrev slaw : Stmt := top 39

/-- what is drawn from: a number, the cells, a place -/
def HAt (H : Hp) (a b : Addr) : Prop := ∃ (z p : Int) (cs : List Int), H a = some (.lst [.int z, .ref b, .int p]) ∧ H b = some (.lst (cs.map V.int)) ∧ cs.length ≤ 63
def Keep (a b : Addr) (H H' : Hp) : Prop := ∀ x o, x ≠ a → x ≠ b → H x = some o → H' x = some o
theorem Keep.refl (a b : Addr) (H : Hp) : Keep a b H H := fun _ _ _ _ h => h
theorem Keep.trans {a b : Addr} {H H1 H2 : Hp} (p : Keep a b H H1) (q : Keep a b H1 H2) : Keep a b H H2 := fun x o h1 h2 h => q x o h1 h2 (p x o h1 h2 h)
theorem Keep.at1 {a b : Addr} {H : Hp} {o : HO} : Keep a b H (upd H a o) := fun x u h1 _ h => by rw [upd_ne h1]; exact h
theorem Keep.at2 {a b : Addr} {H : Hp} {o : HO} : Keep a b H (upd H b o) := fun x u _ h2 h => by rw [upd_ne h2]; exact h
theorem Keep.same {a b : Addr} {H H' : Hp} (s : Same H H') : Keep a b H H' := fun x o _ _ h => s x o h
theorem Same.new {H : Hp} {p : Addr} {o : HO} (hp : H p = none) : Same H (upd H p o) := fun b u e => by rw [upd_ne (ne_of_none e hp)]; exact e
theorem HAt.same {H H' : Hp} {a b : Addr} (B : HAt H a b) (s : Same H H') : HAt H' a b := by
  obtain ⟨z, p, cs, h1, h2, h3⟩ := B
  exact ⟨z, p, cs, s _ _ h1, s _ _ h2, h3⟩
theorem HAt.ne {H : Hp} {a b : Addr} (B : HAt H a b) {D : Addr} (hD : H D = none) : D ≠ a ∧ D ≠ b := by
  obtain ⟨z, p, cs, ha, hb, _⟩ := B
  exact ⟨fun e => (by rw [e, ha] at hD; cases hD), fun e => (by rw [e, hb] at hD; cases hD)⟩
theorem HAt.upd {H : Hp} {a b D : Addr} {o : HO} (B : HAt H a b) (n : D ≠ a ∧ D ≠ b) : HAt (upd H D o) a b := by
  obtain ⟨z, p, cs, ha, hb, hc⟩ := B
  exact ⟨z, p, cs, by rw [upd_ne n.1.symm]; exact ha, by rw [upd_ne n.2.symm]; exact hb, hc⟩
/-- all that is no list stays -/
def KeepN (H H' : Hp) : Prop := ∀ x o, (∀ ys, o ≠ .lst ys) → H x = some o → H' x = some o
theorem Keep.n {a b : Addr} {H H' : Hp} (B : HAt H a b) (k : Keep a b H H') : KeepN H H' := fun x o no h => by
  obtain ⟨z, p, cs, ha, hb, _⟩ := B
  exact k x o (fun e => by rw [e, ha] at h; cases h; exact no _ rfl) (fun e => by rw [e, hb] at h; cases h; exact no _ rfl) h
theorem KeepN.of {H H' : Hp} (s : Same H H') : KeepN H H' := fun x o _ h => s x o h
theorem KeepN.trans {H H1 H2 : Hp} (p : KeepN H H1) (q : KeepN H1 H2) : KeepN H H2 := fun x o no h => q x o no (p x o no h)
/-- what is no list stays where a list is changed -/
theorem KeepN.lst {H : Hp} {D : Addr} {xs ys : List V} (h : H D = some (.lst xs)) : KeepN H (upd H D (.lst ys)) := fun x o no e => by
  rw [upd_ne (ne_of e h (no _))]
  exact e
theorem sqT_mono {K : PySem.W.Frag} {H H' : Hp} {a : Addr} {xs : List V} (k : ∀ o, (∀ ys, o ≠ .lst ys) → H a = some o → H' a = some o) (h : SqT K H a xs) : SqT K H' a xs := by
  rcases h with (h | ⟨o, h⟩) | h
  · exact .inl (.inl (k _ (fun _ e => nomatch e) h))
  · exact .inl (.inr ⟨o, k _ (fun _ e => nomatch e) h⟩)
  · exact .inr h
theorem KeepN.t {K : PySem.W.Frag} {H H' : Hp} (k : KeepN H H') {a : Addr} {xs : List V} (h : SqT K H a xs) : SqT K H' a xs := sqT_mono (k a) h
theorem getI {ns : List Int} {i : Nat} {y : V} (h : (ns.map V.int)[i]? = some y) : ∃ z, ns[i]? = some z ∧ y = V.int z := by
  rw [List.getElem?_map] at h
  cases e : ns[i]? with
  | none => rw [e] at h; cases h
  | some u => rw [e] at h; exact ⟨u, rfl, (Option.some.inj h).symm⟩
theorem fmod_lt {x n : Int} (h : 0 < n) : 0 ≤ x.fmod n ∧ x.fmod n < n := ⟨Int.fmod_nonneg_of_pos x h, Int.fmod_lt_of_pos x h⟩
theorem ixN_of {n : Nat} {i : Int} (h0 : 0 ≤ i) (h1 : i < n) : ixN n i = some i.toNat := by
  unfold ixN
  rw [if_pos h0, if_pos h1]
theorem atI_of {α : Type} {xs : List α} {i : Int} {v : α} (h0 : 0 ≤ i) (h : xs[i.toNat]? = some v) : atI xs i = some v := by
  have e : ((i.toNat : Nat) : Int) = i := Int.toNat_of_nonneg h0
  rw [← e]
  exact atI_nat h
structure Txt (mg : Str → Option Value) : Prop where
  len : mg "len" = none
  range : mg "range" = none
  list : mg "list" = none
  tuple : mg "tuple" = none
  max : mg "max" = none
structure Cal (P : Program) (w : World) (K : PySem.W.Frag) (mg : Str → Option Value) (base : Heap) (k : Nat) (x : Str) (ps : List Str) (sp : Sp) (f : Addr) (fd : FuncData) : Prop where
  g : mg x = some (.ref f)
  kp : PySem.W.keepIn K (.ref f) = true
  b : Binds K fd ps []
  G : FnOk P w K mg base CX0 k f fd ps sp
def spMix (K : PySem.W.Frag) : Sp := fun vs H Q _ => ∃ (l : Addr) (ns : List Int) (sd : Int), vs = [.ref l, .int sd] ∧ SqL K H l (ns.map V.int) ∧ ns.length ≤ 63 ∧ ∀ (a b : Addr) (H' : Hp), H a = none → H b = none → HAt H' a b → Same H H' → Q (.ref a) H'
def spNext : Sp := fun vs H Q _ => ∃ (a b : Addr) (n : Int), vs = [.ref a, .int n] ∧ 0 < n ∧ n < 1000000 ∧ HAt H a b ∧ ∀ (r : Int) (H' : Hp), 0 ≤ r → r < n → HAt H' a b → Keep a b H H' → Q (.int r) H'
section
variable {P : Program} {w : World} {K : PySem.W.Frag} {mg : Str → Option Value} {base : Heap}
theorem scMix : FnScope ["_law_script", "_law_seed", "_law_mixed", "_law_cell"] ["_law_script", "_law_seed"] (defScope sLmix) := ⟨rfl, rfl, rfl, by decide +kernel, rfl, by decide +kernel, by decide +kernel⟩
theorem ok_mix {f : Addr} {fd : FuncData} (F : Fun K "_law_mix" "_law_mix" sLmix f fd) (T : Txt mg) : FnOk P w K mg base CX0 1 f fd ["_law_script", "_law_seed"] (spMix K) := by
  refine F.ok scMix (fun vs H Q E h => ?_) (fun cdv A outer s H vs Q E hr h => ?_)
  · obtain ⟨l, ns, sd, rfl, _⟩ := h
    rfl
  · obtain ⟨l, ns, sd, rfl, hS, hl, k⟩ := h
    refine ⟨_, (pss_cons (ps_set (i := 2) scMix.nd rfl (Or.inl rfl) (pv 1))
      (pss_cons (ps_for PassesOwn.never rfl (RK.piL (K := K) (pv 0)) (pg_name (i := 3) scMix.nd rfl (Or.inl rfl))
        (pss_one (ps_set (i := 2) scMix.nd rfl (Or.inl rfl) (pe_op op_mod (pe_op op_add (pe_op op_add (pe_op op_mul (pv 2) pe_int) (pe_op op_mod (pv 3) pe_int)) pe_int) pe_int))))
      (pss_one (ps_ret (pe_lst (pa_cons (pv 2) (pa_cons (pe_callTy (RK.listQ (K := K)) (by rfl) T.list (by decide +kernel) (pa_cons (pv 0) pa_nil)) (pa_cons pe_int pa_nil)))))))), ?_⟩
    refine ⟨_, rfl, _, rfl, l, rfl, ⟨_, hS⟩, for_list (K := K) (a := l) (xs := ns.map V.int) (fun i σ H' => ∃ (z : Int) (v : Option V), σ = [some (.ref l), some (.int sd), some (.int z), v] ∧ H' = H) ⟨sd, none, rfl, rfl⟩ (fun i σ H' _ ⟨_, _, _, e⟩ => by rw [e]; exact hS) ?_ ?_⟩
    · rintro i y σ H' hi ⟨z, v, rfl, rfl⟩
      obtain ⟨u, _, rfl⟩ := getI hi
      refine ⟨_, rfl, _, _, rfl, rfl, .inr ⟨by decide, by decide⟩, _, rfl, _, _, rfl, rfl, (by show (0 : Int) < 2147483629; decide), _, _, rfl, rfl, _, _, rfl, rfl, _, _, rfl, rfl, (by show (0 : Int) < 2147483647; decide), _, _, rfl, rfl⟩
    · rintro σ H' ⟨z, v, rfl, rfl⟩
      refine ⟨_, rfl, _, rfl, l, _, rfl, .inl hS, fun p hp => ⟨(by show 3 ≤ sizeLine; decide), fun q hq => ?_⟩⟩
      have npq : p ≠ q := fun e => by rw [← e, upd_same] at hq; cases hq
      have hq0 : H' q = none := by rw [upd_ne npq.symm] at hq; exact hq
      refine k q p _ hq0 hp ⟨_, 0, ns, upd_same, (by rw [upd_ne npq, upd_same]), hl⟩ ((Same.new hp).trans (Same.new hq))
theorem scNext : FnScope ["_law_h", "_law_many", "_law_cell"] ["_law_h", "_law_many"] (defScope sLnext) := ⟨rfl, rfl, rfl, by decide +kernel, rfl, by decide +kernel, by decide +kernel⟩
theorem ok_next {f : Addr} {fd : FuncData} (F : Fun K "_law_next" "_law_next" sLnext f fd) (T : Txt mg) : FnOk P w K mg base CX0 1 f fd ["_law_h", "_law_many"] spNext := by
  refine F.ok scNext (fun vs H Q E h => ?_) (fun cdv A outer s H vs Q E hr h => ?_)
  · obtain ⟨a, b, n, rfl, _⟩ := h
    rfl
  · obtain ⟨a, b, n, rfl, n0, n1, ⟨z, p, cs, ha, hb, hc⟩, k⟩ := h
    refine ⟨_, (pss_cons (ps_set (i := 2) scNext.nd rfl (Or.inl rfl) (pe_ix (RK.ixL (K := K)) (pe_op op_cat (pe_ix (RK.ixL (K := K)) (pv 0) pe_int (fun _ _ => rfl)) (pe_lst (pa_cons pe_int pa_nil))) (pe_op op_modN (pe_ix (RK.ixL (K := K)) (pv 0) pe_int (fun _ _ => rfl)) (pe_callB (call_max2 rfl) (by rfl) T.max (by decide +kernel) (pa_cons pe_int (pa_cons (pe_callB (RK.lenQ (K := K)) (by rfl) T.len PySem.boot_len (pa_cons (pe_ix (RK.ixL (K := K)) (pv 0) pe_int (fun _ _ => rfl)) pa_nil)) pa_nil)))) (fun _ _ => rfl)))
      (pss_cons (ps_if (pt_cmpR op_ge (pv 2) (pe_op op_pow pe_int pe_int) (nomark _)) (pss_cons (ps_asg (pe_op op_fdivN (pv 2) (pv 1)) (pg_sub (pe_ix (RK.ixL (K := K)) (pv 0) pe_int (fun _ _ => rfl)) (pe_op op_modN (pe_ix (RK.ixL (K := K)) (pv 0) pe_int (fun _ _ => rfl)) (pe_callB (RK.lenQ (K := K)) (by rfl) T.len PySem.boot_len (pa_cons (pe_ix (RK.ixL (K := K)) (pv 0) pe_int (fun _ _ => rfl)) pa_nil))) set_list))
        (pss_one (ps_ret (pe_op op_modN (pv 2) (pv 1))))) pss_nil)
      (pss_cons (ps_asg (pe_op op_mod (pe_op op_add (pe_op op_add (pe_op op_mul (pe_ix (RK.ixL (K := K)) (pv 0) pe_int (fun _ _ => rfl)) pe_int) (pe_op op_mul (pv 2) pe_int)) pe_int) pe_int) (pg_sub (pv 0) pe_int set_list))
      (pss_cons (ps_asg (pe_op op_add (pe_ix (RK.ixL (K := K)) (pv 0) pe_int (fun _ _ => rfl)) pe_int) (pg_sub (pv 0) pe_int set_list))
      (pss_one (ps_ret (pe_op op_modN (pe_op op_fdiv (pe_ix (RK.ixL (K := K)) (pv 0) pe_int (fun _ _ => rfl)) pe_int) (pv 1)))))))), ?_⟩
    have nab : a ≠ b := ne_of ha hb (by
      intro e
      injection e with e
      cases cs with
      | nil => cases e
      | cons c r =>
        cases r with
        | nil => cases e
        | cons d r => rw [List.map_cons, List.map_cons] at e; injection e with _ e; injection e with e1 _; cases e1)
    -- cell = (h[1] + [0])[h[2] % max(1, len(h[1]))]
    refine ⟨_, rfl, a, _, 1, _, rfl, rfl, SqL.of ha, rfl, (by show 1 ≤ sizeLine; decide), fun e he => ?_⟩
    have s1 := Same.new (o := .lst [.int 0]) he
    refine ⟨b, e, _, _, rfl, rfl, s1 _ _ hb, upd_same, ?_, fun c hcc => ?_⟩
    · rw [List.length_map]
      exact Nat.le_trans (show cs.length + 1 ≤ 64 by omega) (by decide)
    have s2 := Same.new (o := .lst (cs.map V.int ++ [.int 0])) hcc
    have s12 := s1.trans s2
    have ha2 := s12 _ _ ha
    have hb2 := s12 _ _ hb
    refine ⟨_, rfl, a, _, 2, _, rfl, rfl, SqL.of ha2, rfl, _, rfl, a, _, 1, _, rfl, rfl, SqL.of ha2, rfl, b, _, rfl, .inl (SqL.of hb2), 1, _, rfl, ?_⟩
    have lm : (cs.map V.int).length = cs.length := List.length_map ..
    generalize hM : (if (((cs.map V.int).length : Nat) : Int) > 1 then (((cs.map V.int).length : Nat) : Int) else 1) = M
    have hM1 : 0 < M ∧ M ≤ (cs.length : Int) + 1 ∧ (cs.length = 0 → M = 1) := by
      rw [lm] at hM
      subst hM
      split <;> omega
    have ix := fmod_lt (x := p) hM1.1
    have hj : (p.fmod M).toNat < (cs ++ [0]).length := by
      rw [List.length_append]
      show _ < cs.length + 1
      omega
    have em : cs.map V.int ++ [V.int 0] = (cs ++ [0]).map V.int := by rw [List.map_append]; rfl
    have hit : atI (cs.map V.int ++ [V.int 0]) (p.fmod M) = some (.int ((cs ++ [0])[(p.fmod M).toNat])) := atI_of ix.1 (by rw [em, List.getElem?_map, List.getElem?_eq_getElem hj]; rfl)
    refine ⟨_, _, rfl, rfl, (by show M ≠ 0; omega), c, _, _, _, rfl, rfl, SqL.of upd_same, hit, ?_⟩
    generalize hcell : (cs ++ [0])[(p.fmod M).toNat] = cell
    have kp2 : Keep a b H (upd (upd H e (.lst [.int 0])) c (.lst (cs.map V.int ++ [.int 0]))) := Keep.same s12
    refine ⟨_, rfl, _, _, rfl, rfl, ⟨by decide, by decide, by decide⟩, _, _, rfl, rfl, _, rfl, ite2 (fun big => ?_) (fun _ => ?_)⟩
    · have big2 : (10 : Int) ^ (18 : Int).toNat ≤ cell := of_decide_eq_true big
      have ne : 0 < cs.length := by
        rcases Nat.eq_zero_or_pos cs.length with h0 | h0
        · exfalso
          have e0 := List.eq_nil_of_length_eq_zero h0
          have m1 := hM1.2.2 h0
          have i0 : (p.fmod M).toNat = 0 := by have := ix.2; omega
          have z0 : cell = 0 := by
            rw [← hcell]
            have : (cs ++ [0])[(p.fmod M).toNat]? = some 0 := by rw [i0, e0]; rfl
            rw [List.getElem?_eq_getElem hj] at this
            exact Option.some.inj this
          rw [z0] at big2
          exact absurd big2 (by decide)
        · exact h0
      have l0 : (((cs.map V.int).length : Nat) : Int) ≠ 0 := by rw [lm]; omega
      have ix2 := fmod_lt (x := p) (n := (((cs.map V.int).length : Nat) : Int)) (by rw [lm]; omega)
      refine ⟨_, rfl, _, rfl, _, _, rfl, rfl, ⟨by omega, by omega⟩, _, rfl, a, _, 1, _, rfl, rfl, SqL.of ha2, rfl, _, rfl, a, _, 2, _, rfl, rfl, SqL.of ha2, rfl, _, rfl, a, _, 1, _, rfl, rfl, SqL.of ha2, rfl, b, _, rfl, .inl (SqL.of hb2), _, _, rfl, rfl, l0, ?_⟩
      refine ⟨b, _, _, _, rfl, rfl, hb2, ixN_of ix2.1 ix2.2, ?_⟩
      refine ⟨_, rfl, _, rfl, _, _, rfl, rfl, (by show n ≠ 0; omega), ?_⟩
      refine k _ _ (fmod_lt n0).1 (fmod_lt n0).2 ⟨z, p, cs.set (p.fmod (((cs.map V.int).length : Nat) : Int)).toNat (cell.fdiv n), by rw [upd_ne nab]; exact ha2, ?_, by rw [List.length_set]; exact hc⟩ (kp2.trans Keep.at2)
      rw [upd_same, List.map_set]
    · refine ⟨_, rfl, a, _, 0, _, rfl, rfl, SqL.of ha2, rfl, _, _, rfl, rfl, .inr ⟨by decide, by decide⟩, _, rfl, _, _, rfl, rfl, .inr ⟨by decide, by decide⟩, _, _, rfl, rfl, _, _, rfl, rfl, _, _, rfl, rfl, (by show (0 : Int) < 2147483647; decide), ?_⟩
      refine ⟨_, rfl, a, _, _, 0, rfl, rfl, ha2, rfl, ?_⟩
      refine ⟨_, rfl, a, _, 2, _, rfl, rfl, SqL.of upd_same, rfl, _, _, rfl, rfl, _, rfl, a, _, _, 2, rfl, rfl, upd_same, rfl, ?_⟩
      refine ⟨_, rfl, a, _, 0, _, rfl, rfl, SqL.of upd_same, rfl, _, _, rfl, rfl, ⟨by decide, by decide⟩, _, rfl, _, _, rfl, rfl, (by show n ≠ 0; omega), ?_⟩
      refine k _ _ (fmod_lt n0).1 (fmod_lt n0).2 ⟨_, _, cs, upd_same, by rw [upd_ne nab.symm, upd_ne nab.symm]; exact hb2, hc⟩ (kp2.trans (Keep.at1.trans Keep.at1))
end
end K06

namespace K06
open PySem L2

/-! ### dicts with text keys -/
section
variable {β : Type} {R S : Hp → V → β → Prop} {H H' : Hp}
def PR (R : Hp → V → β → Prop) (H : Hp) (kv : Key × V) (p : Str × β) : Prop := kv.1 = .inr p.1 ∧ R H kv.2 p.2
def DictAt (R : Hp → V → β → Prop) (H : Hp) (d : Addr) (ps : List (Str × β)) : Prop := ∃ kvs, Rd H d (.dK kvs) ∧ Paired (PR R H) kvs ps
theorem pr_mono (m : ∀ v x, R H v x → R H' v x) : ∀ {kvs : List (Key × V)} {ps : List (Str × β)}, Paired (PR R H) kvs ps → Paired (PR R H') kvs ps
  | _, _, .nil => .nil
  | _, _, .cons ⟨e, h⟩ r => .cons ⟨e, m _ _ h⟩ (pr_mono m r)
theorem pr_look (f : Str) : ∀ {kvs : List (Key × V)} {ps : List (Str × β)}, Paired (PR R H) kvs ps → (ps.lookup f = none ∧ valV kvs (.inr f) = none) ∨ ∃ x v, ps.lookup f = some x ∧ valV kvs (.inr f) = some v ∧ R H v x
  | _, _, .nil => .inl ⟨rfl, rfl⟩
  | (k, v) :: kvs, (g, x) :: ps, .cons ⟨e, h⟩ r => by
    have e : k = .inr g := e
    subst e
    by_cases q : f = g
    · subst q
      exact .inr ⟨x, v, by simp [List.lookup], valV_pos rfl, h⟩
    · have n1 : ((f == g) : Bool) = false := by simpa using q
      have n2 : ¬ ((Sum.inr g : Key) = .inr f) := fun z => q (Sum.inr.inj z).symm
      rw [show valV ((Sum.inr g, v) :: kvs) (.inr f) = valV kvs (.inr f) from valV_neg n2]
      rw [show List.lookup f ((g, x) :: ps) = List.lookup f ps by simp [List.lookup, n1]]
      exact pr_look f r
theorem pr_has (f : Str) : ∀ {kvs : List (Key × V)} {ps : List (Str × β)}, Paired (PR R H) kvs ps → f ∉ ps.map (·.1) → (kvs.any fun kv => decide (kv.1 = (Sum.inr f : Key))) = false
  | _, _, .nil, _ => rfl
  | (k, v) :: kvs, (g, x) :: ps, .cons ⟨e, _⟩ r, hn => by
    have e : k = .inr g := e
    subst e
    rw [List.map_cons, List.mem_cons, not_or] at hn
    rw [List.any_cons, pr_has f r hn.2, Bool.or_false]
    exact decide_eq_false fun z => hn.1 (Sum.inr.inj z).symm
theorem pr_keys : ∀ {kvs : List (Key × V)} {ps : List (Str × β)}, Paired (PR R H) kvs ps → kvs.map (·.1) = (ps.map (·.1)).map Sum.inr
  | _, _, .nil => rfl
  | (k, v) :: kvs, (g, x) :: ps, .cons ⟨e, _⟩ r => by
    have e : k = .inr g := e
    subst e
    rw [List.map_cons, List.map_cons, List.map_cons, pr_keys r]
theorem pr_len {kvs : List (Key × V)} {ps : List (Str × β)} (h : Paired (PR R H) kvs ps) : kvs.length = ps.length := Paired.length h
theorem pr_snoc {kvs : List (Key × V)} {ps : List (Str × β)} {k : Str} {v : V} {x : β} (h : Paired (PR R H) kvs ps) (r : R H v x) : Paired (PR R H) (kvs ++ [(.inr k, v)]) (ps ++ [(k, x)]) := Paired.snoc h ⟨rfl, r⟩
theorem pr_put {kvs : List (Key × V)} {ps : List (Str × β)} {k : Str} {v : V} (h : Paired (PR R H) kvs ps) (n : k ∉ ps.map (·.1)) : putK kvs (.inr k) v = kvs ++ [(.inr k, v)] := by
  unfold putK
  rw [pr_has _ h n]
  rfl
end
theorem rd_mono {H H' : Hp} {d : Addr} {kvs : List (Key × V)} (k : KeepN H H') (h : Rd H d (.dK kvs)) : Rd H' d (.dK kvs) := by
  rcases h with h | ⟨o, h⟩
  · exact .inl (k d _ (fun _ e => nomatch e) h)
  · exact .inr ⟨o, k d _ (fun _ e => nomatch e) h⟩
/-- the dict at d is changed: tuples stay -/
theorem t_upd {K : PySem.W.Frag} {H : Hp} {d : Addr} {kvs : List (Key × V)} {o : HO} (hd : H d = some (.dK kvs)) {t : Addr} {xs : List V} (h : SqT K H t xs) : SqT K (upd H d o) t xs := by
  rcases h with (h | ⟨o, h⟩) | h
  · exact .inl (.inl (by rw [upd_ne (ne_of h hd (fun e => nomatch e))]; exact h))
  · exact .inl (.inr ⟨o, by rw [upd_ne (ne_of h hd (fun e => nomatch e))]; exact h⟩)
  · exact .inr h

/-! ### shapes -/
def ShR (K : PySem.W.Frag) (H : Hp) (v : V) (fs : List Str) : Prop := ∃ t, v = .ref t ∧ SqT K H t (fs.map V.str)
def ShapesAt (K : PySem.W.Frag) (H : Hp) (d : Addr) (sh : List (Str × List Str)) : Prop := ∃ kvs, H d = some (.dK kvs) ∧ Paired (PR (ShR K) H) kvs sh
abbrev tabs : List Str := [Str.ofString "ta", Str.ofString "tb", Str.ofString "tc"]
abbrev flds : List Str := [Str.ofString "k", Str.ofString "x", Str.ofString "y", Str.ofString "z"]
structure IsShapes (sh : List (Str × List Str)) : Prop where
  names : sh.map (·.1) = tabs.take sh.length
  few : sh.length ≤ 3
  fs : ∀ p ∈ sh, ∃ m, 1 ≤ m ∧ m ≤ 4 ∧ p.2 = flds.take m
theorem ShapesAt.keep {K : PySem.W.Frag} {H H' : Hp} (k : KeepN H H') {d : Addr} {sh : List (Str × List Str)} (h : ShapesAt K H d sh) : ShapesAt K H' d sh := by
  obtain ⟨kvs, hd, p⟩ := h
  exact ⟨kvs, k d _ (fun _ e => nomatch e) hd, pr_mono (fun v x ⟨t, e, q⟩ => ⟨t, e, k.t q⟩) p⟩
def spShapes (K : PySem.W.Frag) : Sp := fun vs H Q _ => ∃ (a b : Addr), vs = [.ref a, .int 3] ∧ HAt H a b ∧ ∀ (d : Addr) (H' : Hp) (sh : List (Str × List Str)), HAt H' a b → Keep a b H H' → H d = none → ShapesAt K H' d sh → IsShapes sh → 1 ≤ sh.length → Q (.ref d) H'
def spNumber : Sp := fun vs H Q _ => ∃ (a b : Addr), vs = [.ref a] ∧ HAt H a b ∧ ∀ (r : Int) (H' : Hp), -1000 ≤ r → r ≤ 1000 → HAt H' a b → Keep a b H H' → Q (.int r) H'

/-! ### trees -/
inductive Tr where
  | num (n : Int)
  | field (t f : Str)
  | bin (op : Str) (l r : Tr)
  | not (x : Tr)
def Tr.depth : Tr → Nat
  | .num _ => 0
  | .field _ _ => 0
  | .bin _ l r => max l.depth r.depth + 1
  | .not x => x.depth + 1
def TrAt (K : PySem.W.Frag) (H : Hp) : V → Tr → Prop
  | v, .num n => ∃ p, v = .ref p ∧ SqT K H p [.str (Str.ofString "num"), .int n]
  | v, .field t f => ∃ p, v = .ref p ∧ SqT K H p [.str (Str.ofString "field"), .str t, .str f]
  | v, .bin op l r => ∃ p x y, v = .ref p ∧ SqT K H p [.str op, x, y] ∧ TrAt K H x l ∧ TrAt K H y r
  | v, .not z => ∃ p x, v = .ref p ∧ SqT K H p [.str (Str.ofString "not"), x] ∧ TrAt K H x z
theorem TrAt.mono {K : PySem.W.Frag} {H H' : Hp} (m : ∀ t xs, SqT K H t xs → SqT K H' t xs) : ∀ {v : V} {t : Tr}, TrAt K H v t → TrAt K H' v t
  | _, .num _, ⟨p, e, h⟩ => ⟨p, e, m _ _ h⟩
  | _, .field _ _, ⟨p, e, h⟩ => ⟨p, e, m _ _ h⟩
  | _, .bin _ _ _, ⟨p, x, y, e, h, h1, h2⟩ => ⟨p, x, y, e, m _ _ h, TrAt.mono m h1, TrAt.mono m h2⟩
  | _, .not _, ⟨p, x, e, h, h1⟩ => ⟨p, x, e, m _ _ h, TrAt.mono m h1⟩
theorem TrAt.keep {K : PySem.W.Frag} {H H' : Hp} (k : KeepN H H') {v : V} {t : Tr} (h : TrAt K H v t) : TrAt K H' v t := TrAt.mono (fun _ _ q => k.t q) h
abbrev signs : List Str := [Str.ofString "=", Str.ofString "<", Str.ofString ">", Str.ofString "<=", Str.ofString ">="]
inductive IsTm (fl : List (Str × Str)) : Tr → Prop where
  | num {n : Int} : -1000 ≤ n → n ≤ 1000 → IsTm fl (.num n)
  | field {t f : Str} : (t, f) ∈ fl → IsTm fl (.field t f)
  | bin {op : Str} {l r : Tr} : op ∈ [Str.ofString "+", Str.ofString "-", Str.ofString "*"] → IsTm fl l → IsTm fl r → IsTm fl (.bin op l r)
inductive IsCd (fl : List (Str × Str)) : Tr → Prop where
  | cmp {op : Str} {l r : Tr} : op ∈ signs → IsTm fl l → IsTm fl r → IsCd fl (.bin op l r)
  | join {op : Str} {l r : Tr} : op ∈ [Str.ofString "and", Str.ofString "or"] → IsCd fl l → IsCd fl r → IsCd fl (.bin op l r)
  | not {x : Tr} : IsCd fl x → IsCd fl (.not x)

/-! ### the fields that there are: a list of pairs of texts -/
def FlR (K : PySem.W.Frag) (H : Hp) (v : V) (q : Str × Str) : Prop := ∃ p, v = .ref p ∧ SqT K H p [.str q.1, .str q.2]
def FlOk (fl : List (Str × Str)) : Prop := ∀ q ∈ fl, PyData.strOk q.1 = true ∧ PyData.strOk q.2 = true
def FlAt (K : PySem.W.Frag) (H : Hp) (l : Addr) (fl : List (Str × Str)) : Prop := ∃ vs, H l = some (.lst vs) ∧ Paired (FlR K H) vs fl ∧ FlOk fl
theorem fl_mono {K : PySem.W.Frag} {H H' : Hp} (m : ∀ t xs, SqT K H t xs → SqT K H' t xs) : ∀ {vs : List V} {fl : List (Str × Str)}, Paired (FlR K H) vs fl → Paired (FlR K H') vs fl
  | _, _, .nil => .nil
  | _, _, .cons ⟨p, e, h⟩ r => .cons ⟨p, e, m _ _ h⟩ (fl_mono m r)
theorem FlAt.keep {K : PySem.W.Frag} {H H' : Hp} {a b l : Addr} {fl : List (Str × Str)} (B : HAt H a b) (k : Keep a b H H') (na : l ≠ a) (nb : l ≠ b) (h : FlAt K H l fl) : FlAt K H' l fl := by
  obtain ⟨vs, hl, p, ok⟩ := h
  exact ⟨vs, k l _ na nb hl, fl_mono (fun _ _ q => (k.n B).t q) p, ok⟩
theorem FlAt.same {K : PySem.W.Frag} {H H' : Hp} {l : Addr} {fl : List (Str × Str)} (s : Same H H') (h : FlAt K H l fl) : FlAt K H' l fl := by
  obtain ⟨vs, hl, p, ok⟩ := h
  exact ⟨vs, s _ _ hl, fl_mono (fun _ _ q => (KeepN.of s).t q) p, ok⟩
def flD (q : Str × Str) : PyData := .tuple [.str q.1, .str q.2]
theorem fl_dp {K : PySem.W.Frag} {H : Hp} : ∀ {vs : List V} {fl : List (Str × Str)}, Paired (FlR K H) vs fl → DpAll K H vs (fl.map flD)
  | _, _, .nil => .nil
  | _, _, .cons ⟨p, e, h⟩ r => .cons (e ▸ .tup h (.cons (.str _) (.cons (.str _) .nil))) (fl_dp r)
theorem fl_lay : ∀ fl : List (Str × Str), FlOk fl → PyData.canLayAll0 (fl.map flD) = true ∧ PyData.depthAll (fl.map flD) ≤ 2
  | [], _ => by simp [PyData.canLayAll0, PyData.depthAll]
  | q :: r, ok => by
    obtain ⟨h1, h2⟩ := fl_lay r fun x m => ok x (List.mem_cons_of_mem _ m)
    obtain ⟨o1, o2⟩ := ok q List.mem_cons_self
    refine ⟨by simp [PyData.canLayAll0, PyData.canLay0, flD, h1, o1, o2], ?_⟩
    simp only [List.map_cons, PyData.depthAll, PyData.depth, flD]
    omega
theorem fl_shaped {fl : List (Str × Str)} (ok : FlOk fl) : SeqAt.shaped (.list (fl.map flD)) = true := by
  obtain ⟨h1, h2⟩ := fl_lay fl ok
  show (PyData.canLay0 (.list (fl.map flD)) && decide (PyData.depth (.list (fl.map flD)) ≤ 64)) = true
  rw [Bool.and_eq_true]
  refine ⟨by simp only [PyData.canLay0]; exact h1, decide_eq_true ?_⟩
  simp only [PyData.depth]
  omega
theorem eqv_nil (ds : List PyData) : PyData.eqv (.list ds) (.list []) = ds.isEmpty := by
  cases ds <;> simp [PyData.eqv, PyData.eqvAll]
theorem eqv_fl (fl : List (Str × Str)) : PyData.eqv (.list (fl.map flD)) (.list []) = fl.isEmpty := by
  rw [eqv_nil]
  cases fl <;> rfl
theorem fl_at {K : PySem.W.Frag} {H : Hp} : ∀ {vs : List V} {fl : List (Str × Str)} {i : Nat}, Paired (FlR K H) vs fl → i < fl.length → ∃ p q, vs[i]? = some (.ref p) ∧ q ∈ fl ∧ SqT K H p [.str q.1, .str q.2]
  | _, _, i, .nil, h => absurd h (Nat.not_lt_zero i)
  | _, q :: _, 0, .cons ⟨p, e, h⟩ _, _ => ⟨p, q, by rw [e]; rfl, List.mem_cons_self, h⟩
  | _, _, i + 1, .cons _ r, h => by
    obtain ⟨p, q, h1, h2, h3⟩ := fl_at (i := i) r (Nat.lt_of_succ_lt_succ h)
    exact ⟨p, q, h1, List.mem_cons_of_mem _ h2, h3⟩
def spTerm (K : PySem.W.Frag) (n : Nat) : Sp := fun vs H Q _ => ∃ (a b l : Addr) (fl : List (Str × Str)) (dp : Int), vs = [.ref a, .ref l, .int dp] ∧ 0 ≤ dp ∧ dp < n ∧ HAt H a b ∧ FlAt K H l fl ∧ l ≠ a ∧ l ≠ b ∧ fl.length ≤ 100 ∧
  ∀ (v : V) (t : Tr) (H' : Hp), HAt H' a b → Keep a b H H' → TrAt K H' v t → IsTm fl t → t.depth ≤ dp.toNat → Q v H'
def spCond (K : PySem.W.Frag) (n : Nat) : Sp := fun vs H Q _ => ∃ (a b l : Addr) (fl : List (Str × Str)) (dp : Int), vs = [.ref a, .ref l, .int dp] ∧ 0 ≤ dp ∧ dp < n ∧ HAt H a b ∧ FlAt K H l fl ∧ l ≠ a ∧ l ≠ b ∧ fl.length ≤ 100 ∧
  ∀ (v : V) (t : Tr) (H' : Hp), HAt H' a b → Keep a b H H' → TrAt K H' v t → IsCd fl t → t.depth ≤ dp.toNat + 2 → Q v H'
section
variable {P : Program} {w : World} {K : PySem.W.Frag} {mg : Str → Option Value} {base : Heap}
/-- a promise of nothing -/
theorem none_left {f : Addr} {fd : FuncData} {k : Nat} {ps : List Str} {sp : Sp} (no : ∀ vs H Q E, ¬ sp vs H Q E) : FnOk P w K mg base CX0 k f fd ps sp :=
  ⟨fun vs H Q E h => absurd h (no vs H Q E), fun A outer s H args us vs Q E _ _ _ _ h => absurd h (no vs H Q E)⟩
theorem Cal.mono {j k : Nat} {x : Str} {ps : List Str} {sp : Sp} {f : Addr} {fd : FuncData} (c : Cal P w K mg base j x ps sp f fd) (h : j ≤ k) : Cal P w K mg base k x ps sp f fd := ⟨c.g, c.kp, c.b, c.G.mono h⟩
theorem scShapes : FnScope ["_law_h", "_law_many", "_law_found", "_law_k"] ["_law_h", "_law_many"] (defScope sLshapes) := ⟨rfl, rfl, rfl, by decide +kernel, rfl, by decide +kernel, by decide +kernel⟩
theorem ok_shapes {f fn : Addr} {fd fdn : FuncData} (F : Fun K "_law_shapes" "_law_shapes" sLshapes f fd) (T : Txt mg) (Cnext : Cal P w K mg base 1 "_law_next" ["_law_h", "_law_many"] spNext fn fdn) : FnOk P w K mg base CX0 2 f fd ["_law_h", "_law_many"] (spShapes K) := by
  refine F.ok scShapes (fun vs H Q E h => ?_) (fun cdv A outer s H vs Q E hr h => ?_)
  · obtain ⟨a, b, rfl, _⟩ := h
    rfl
  · obtain ⟨a, b, rfl, B, k⟩ := h
    have hr1 : Room 1 _ := hr.mono (by decide)
    refine ⟨_, (pss_cons (ps_set (i := 2) scShapes.nd rfl (Or.inl rfl) pe_dnewK)
      (pss_cons (ps_for PassesOwn.never rfl (pi_range1 rfl T.range (pa_cons (pe_op op_add pe_int (pe_call Cnext.G hr1 rfl Cnext.g Cnext.kp Cnext.b .nil pass0 (pa_cons (pv 0) (pa_cons (pv 1) pa_nil)))) pa_nil)) (pg_name (i := 3) scShapes.nd rfl (Or.inl rfl))
        (pss_one (ps_dput (hu_of hr) (pv 2) (pe_op op_add_str pe_str (pe_ix ix_str pe_str (pv 3) (fun _ _ => rfl))) (pe_slice (RK.slT (K := K)) (pe_tup (pa_cons pe_str (pa_cons pe_str (pa_cons pe_str (pa_cons pe_str pa_nil))))) po_none (po_some (pe_op op_add pe_int (pe_call Cnext.G hr1 rfl Cnext.g Cnext.kp Cnext.b .nil pass0 (pa_cons (pv 0) (pa_cons pe_int pa_nil)))))) rfl)))
      (pss_one (ps_ret (pv 2))))), ?_⟩
    intro d hd
    have nd := B.ne hd
    have s0 := Same.new (o := .dK []) hd
    refine ⟨_, rfl, _, rfl, a, b, 3, rfl, by decide, by decide, B.same s0, fun m H1 m0 m3 B1 kp1 => ?_⟩
    refine ⟨_, _, rfl, rfl, _, rfl, by omega, by omega, ?_⟩
    have hd1 : H1 d = some (.dK []) := kp1 d _ nd.1 nd.2 upd_same
    refine for_range (lo := 0) (n := (1 + m).toNat) (fun i σ H' => ∃ v3 sh, σ = [some (.ref a), some (.int 3), some (.ref d), v3] ∧ HAt H' a b ∧ Keep a b H H' ∧ ShapesAt K H' d sh ∧ IsShapes sh ∧ sh.length = i)
      ⟨none, [], rfl, B1, (Keep.same s0).trans kp1, ⟨[], hd1, .nil⟩, ⟨rfl, Nat.zero_le _, fun p z => by cases z⟩, rfl⟩ ?_ ?_
    · rintro i σ H2 hi ⟨v3, sh, rfl, B2, kp2, S2, I2, li⟩
      have hi3 : i < 3 := by omega
      -- ("k", "x", "y", "z")[:1 + next(h, 4)]
      refine ⟨(by show 4 ≤ sizeLine; decide), fun p hp => ?_⟩
      have s3 := Same.new (o := .tup (flds.map V.str)) hp
      refine ⟨_, rfl, a, b, 4, rfl, by decide, by decide, B2.same s3, fun r H4 r0 r4 B4 kp4 => ⟨_, _, rfl, rfl, _, rfl, ?_⟩⟩
      have kn4 := kp4.n (B2.same s3)
      have hp4 : SqT K H4 p (flds.map V.str) := kn4.t (SqT.of upd_same)
      have S4 : ShapesAt K H4 d sh := (S2.keep (KeepN.of s3)).keep kn4
      have kp24 : Keep a b H H4 := kp2.trans ((Keep.same s3).trans kp4)
      have fin : ∀ (t : Addr) (H5 : Hp), Same H4 H5 → SqT K H5 t ((flds.take (1 + r).toNat).map V.str) → ∃ a_1 H6, V.ref d = V.ref a_1 ∧ DPut H5 a_1 (.str (tabs.getD i Str.empty)) (.ref t) H6 ∧
          ∃ v3 sh, [some (.ref a), some (.int 3), some (.ref d), some (V.int (0 + ((i : Nat) : Int)))] = [some (.ref a), some (.int 3), some (.ref d), v3] ∧ HAt H6 a b ∧ Keep a b H H6 ∧ ShapesAt K H6 d sh ∧ IsShapes sh ∧ sh.length = i + 1 := fun t H5 s5 ht => by
        obtain ⟨kvs, hd5, pr⟩ := S4.keep (KeepN.of s5)
        have lk : kvs.length ≤ 3 := by rw [pr_len pr, li]; omega
        have nin : tabs.getD i Str.empty ∉ sh.map (·.1) := by
          rw [I2.names, li]
          have h : i = 0 ∨ i = 1 ∨ i = 2 := by omega
          rcases h with rfl | rfl | rfl <;> decide +kernel
        refine ⟨d, _, rfl, DPut.k (k := .inr (tabs.getD i Str.empty)) hd5 (Nat.lt_of_le_of_lt lk (by decide)), _, sh ++ [(tabs.getD i Str.empty, flds.take (1 + r).toNat)], rfl, (B4.same s5).upd nd, ?_, ⟨_, upd_same, ?_⟩, ⟨?_, ?_, ?_⟩, ?_⟩
        · intro x o h1 h2 h
          rw [upd_ne (ne_of_none h hd)]
          exact s5 _ _ (kp24 x o h1 h2 h)
        · rw [pr_put pr nin]
          exact pr_snoc (pr_mono (fun v x ⟨t, e, q⟩ => ⟨t, e, t_upd hd5 q⟩) pr) ⟨t, rfl, t_upd hd5 ht⟩
        · rw [List.map_append, I2.names, li, List.length_append, li]
          have h : i = 0 ∨ i = 1 ∨ i = 2 := by omega
          rcases h with rfl | rfl | rfl <;> rfl
        · rw [List.length_append, li]
          show i + 1 ≤ 3
          omega
        · intro q m
          rcases List.mem_append.mp m with m | m
          · exact I2.fs q m
          · obtain rfl := List.mem_singleton.mp m
            exact ⟨(1 + r).toNat, by omega, by omega, rfl⟩
        · rw [List.length_append, li]
          rfl
      have key : ∀ (t : Addr) (H5 : Hp), Same H4 H5 → SqT K H5 t ((flds.take (1 + r).toNat).map V.str) → tVar 2 [some (.ref a), some (.int 3), some (.ref d), some (V.int (0 + ((i : Nat) : Int)))] H5 fun x H2 =>
          tOp (fun x y H Q => ∃ i j, x = .str i ∧ y = .str j ∧ i.length + j.length ≤ sizeLine ∧ Q (.str (i ++ j)) H) (tC (.str (Str.ofString "t"))) (tOp rIxS (tC (.str (Str.ofString "abc"))) (tVar 3)) [some (.ref a), some (.int 3), some (.ref d), some (V.int (0 + ((i : Nat) : Int)))] H2 fun y H3 =>
            ∃ a_1 H6, x = .ref a_1 ∧ DPut H3 a_1 y (.ref t) H6 ∧ ∃ v3 sh, [some (.ref a), some (.int 3), some (.ref d), some (V.int (0 + ((i : Nat) : Int)))] = [some (.ref a), some (.int 3), some (.ref d), v3] ∧ HAt H6 a b ∧ Keep a b H H6 ∧ ShapesAt K H6 d sh ∧ IsShapes sh ∧ sh.length = i + 1 := fun t H5 s5 ht => by
        have f5 := fin t H5 s5 ht
        have h : i = 0 ∨ i = 1 ∨ i = 2 := by omega
        rcases h with rfl | rfl | rfl
        · exact ⟨_, rfl, _, rfl, Str.ofString "abc", _, 97, rfl, rfl, by decide, by decide +kernel, _, _, rfl, rfl, by decide, f5⟩
        · exact ⟨_, rfl, _, rfl, Str.ofString "abc", _, 98, rfl, rfl, by decide, by decide +kernel, _, _, rfl, rfl, by decide, f5⟩
        · exact ⟨_, rfl, _, rfl, Str.ofString "abc", _, 99, rfl, rfl, by decide, by decide +kernel, _, _, rfl, rfl, by decide, f5⟩
      have hr4 : r = 0 ∨ r = 1 ∨ r = 2 ∨ r = 3 := by omega
      refine ⟨p, _, rfl, hp4, fun hw => ?_, fun hw q hq => ?_⟩
      · rcases hr4 with rfl | rfl | rfl | rfl
        · exact absurd hw.2 (by decide)
        · exact absurd hw.2 (by decide)
        · exact absurd hw.2 (by decide)
        · exact key p H4 (Same.refl _) hp4
      · have e : cutV (flds.map V.str) none (some (1 + r)) = (flds.take (1 + r).toNat).map V.str := by rcases hr4 with rfl | rfl | rfl | rfl <;> rfl
        show tVar 2 _ (upd H4 q (.tup (cutV (flds.map V.str) none (some (1 + r))))) _
        rw [e]
        exact key q _ (Same.new hq) (SqT.of upd_same)
    · rintro σ H' ⟨v3, sh, rfl, B', kp, S, I, li⟩
      exact ⟨_, rfl, k d H' sh B' kp hd S I (by omega)⟩
theorem scNumber : FnScope ["_law_h"] ["_law_h"] (defScope sLnumber) := ⟨rfl, rfl, rfl, by decide +kernel, rfl, by decide +kernel, by decide +kernel⟩
theorem ok_number {f fn : Addr} {fd fdn : FuncData} (F : Fun K "_law_number" "_law_number" sLnumber f fd) (Cnext : Cal P w K mg base 1 "_law_next" ["_law_h", "_law_many"] spNext fn fdn) : FnOk P w K mg base CX0 2 f fd ["_law_h"] spNumber := by
  refine F.ok scNumber (fun vs H Q E h => ?_) (fun cdv A outer s H vs Q E hr h => ?_)
  · obtain ⟨a, b, rfl, _⟩ := h
    rfl
  · obtain ⟨a, b, rfl, B, k⟩ := h
    have hr1 : Room 1 _ := hr.mono (by decide)
    refine ⟨_, (pss_one (ps_ret (pe_ix (RK.ixL (K := K)) (pe_lst (pa_cons (pe_call Cnext.G hr1 rfl Cnext.g Cnext.kp Cnext.b .nil pass0 (pa_cons (pv 0) (pa_cons pe_int pa_nil))) (pa_cons (pe_op op_sub (pe_call Cnext.G hr1 rfl Cnext.g Cnext.kp Cnext.b .nil pass0 (pa_cons (pv 0) (pa_cons pe_int pa_nil))) pe_int) (pa_cons (pe_op op_sub (pe_call Cnext.G hr1 rfl Cnext.g Cnext.kp Cnext.b .nil pass0 (pa_cons (pv 0) (pa_cons pe_int pa_nil))) pe_int) pa_nil)))) (pe_op op_fdiv (pe_call Cnext.G hr1 rfl Cnext.g Cnext.kp Cnext.b .nil pass0 (pa_cons (pv 0) (pa_cons pe_int pa_nil))) pe_int) (fun _ _ => rfl)))), ?_⟩
    refine ⟨_, rfl, a, b, 6, rfl, by decide, by decide, B, fun x H1 x0 x6 B1 kp1 => ⟨_, rfl, a, b, 13, rfl, by decide, by decide, B1, fun y H2 y0 y13 B2 kp2 => ⟨_, _, rfl, rfl, _, rfl, a, b, 2000, rfl, by decide, by decide, B2, fun z H3 z0 z2 B3 kp3 => ⟨_, _, rfl, rfl, (by show 3 ≤ sizeLine; decide), fun l hl => ?_⟩⟩⟩⟩
    have s4 := Same.new (o := .lst [.int x, .int (y - 4), .int (z - 999)]) hl
    have nl := B3.ne hl
    refine ⟨_, rfl, a, b, 7, rfl, by decide, by decide, B3.same s4, fun r H5 r0 r7 B5 kp5 => ⟨_, _, rfl, rfl, ⟨by decide, by decide⟩, ?_⟩⟩
    have kp : Keep a b H H5 := kp1.trans (kp2.trans (kp3.trans ((Keep.same s4).trans kp5)))
    have hl5 : H5 l = some (.lst [.int x, .int (y - 4), .int (z - 999)]) := kp5 l _ nl.1 nl.2 upd_same
    have h : r / 7 = 0 ∨ r / 7 = 1 ∨ r / 7 = 2 ∨ r / 3 = 0 ∨ r / 3 = 1 ∨ r / 3 = 2 := by omega
    have h3 : r / 3 = 0 ∨ r / 3 = 1 ∨ r / 3 = 2 := by omega
    rcases h3 with e | e | e
    · exact ⟨l, _, _, .int x, rfl, rfl, SqL.of hl5, by rw [e]; rfl, k _ _ (by omega) (by omega) B5 kp⟩
    · exact ⟨l, _, _, .int (y - 4), rfl, rfl, SqL.of hl5, by rw [e]; rfl, k _ _ (by omega) (by omega) B5 kp⟩
    · exact ⟨l, _, _, .int (z - 999), rfl, rfl, SqL.of hl5, by rw [e]; rfl, k _ _ (by omega) (by omega) B5 kp⟩
end
end K06

namespace K06
open PySem L2

theorem gn {i : Nat} {x : V} {σ : L2.St} {H : Hp} {Q : L2.St → Hp → Prop} (h : Q (σ.set i (some x)) H) : gName i x σ H Q := h
theorem cb1 {r : List V → Hp → VK → Prop} {ta : TE} {σ : L2.St} {H : Hp} {Q : VK} (h : ta σ H fun x H1 => r [x] H1 Q) : tCB r (tCons ta tNil) σ H Q := h
theorem sa1 {te : TE} {g : TG} {u : TS} {D : Ends} {σ : L2.St} {H : Hp} (h : te σ H fun x H1 => g x σ H1 (u D)) : tSeq (tAsg te g) u D σ H := h
theorem sif {c : TT} {t e u : TS} {D : Ends} {σ : L2.St} {H : Hp} (h : c σ H fun b H1 => if b = true then t { D with nx := u D } σ H1 else e { D with nx := u D } σ H1) : tSeq (tIfS c t e) u D σ H := h
theorem and2 {t u : TT} {σ : L2.St} {H : Hp} {Qb : Bool → Hp → Prop} {b c : Bool} (h1 : ∀ Q : Bool → Hp → Prop, Q b H → t σ H Q) (h2 : b = true → ∀ Q : Bool → Hp → Prop, Q c H → u σ H Q) (q : Qb (b && c) H) : tAnd t u σ H Qb := by
  refine h1 _ ?_
  cases b with
  | true => exact iteT (h2 rfl _ q)
  | false => exact iteF q
theorem or2 {t u : TT} {σ : L2.St} {H : Hp} {Qb : Bool → Hp → Prop} {b c : Bool} (h1 : ∀ Q : Bool → Hp → Prop, Q b H → t σ H Q) (h2 : b = false → ∀ Q : Bool → Hp → Prop, Q c H → u σ H Q) (q : Qb (b || c) H) : tOr t u σ H Qb := by
  refine h1 _ ?_
  cases b with
  | true => exact iteT q
  | false => exact iteF (h2 rfl _ q)
section
variable {P : Program} {w : World} {K : PySem.W.Frag} {mg : Str → Option Value} {base : Heap}
/-- ("field",) + fields[next(h, len(fields))] -/
theorem te_field {σ : L2.St} {H : Hp} {Q : VK} {a b l : Addr} {fl : List (Str × Str)} (h0 : σ[0]? = some (some (.ref a))) (h1 : σ[1]? = some (some (.ref l))) (B : HAt H a b) (Fl : FlAt K H l fl) (na : l ≠ a) (nb : l ≠ b) (h100 : fl.length ≤ 100) (ne : fl ≠ [])
    (k : ∀ (v : V) (q : Str × Str) (H' : Hp), q ∈ fl → HAt H' a b → Keep a b H H' → TrAt K H' v (.field q.1 q.2) → Q v H') :
    tOp (rCatA K) (tTup (tCons (tC (V.str (Str.ofString "field"))) tNil)) (tOp (rIxL K) (tVar 1) (tCall spNext [] E0 (tCons (tVar 0) (tCons (tCB (RK.rLenQ K) (tCons (tVar 1) tNil)) tNil)))) σ H Q := by
  refine ⟨(by show 1 ≤ sizeLine; decide), fun p hp => ?_⟩
  have s1 := Same.new (o := .tup [.str (Str.ofString "field")]) hp
  obtain ⟨vs, hl, pr, ok⟩ := Fl.same s1
  have len : vs.length = fl.length := Paired.length pr
  have pos : 0 < fl.length := List.length_pos_iff.mpr ne
  refine ⟨_, h1, _, h0, _, h1, l, _, rfl, .inl (SqL.of hl), a, b, (vs.length : Int), rfl, by omega, by omega, B.same s1, fun r H2 r0 r1 B2 kp2 => ?_⟩
  have hr : r.toNat < fl.length := by omega
  obtain ⟨p2, q, e, m, ht⟩ := fl_at pr hr
  have kn := kp2.n (B.same s1)
  refine ⟨l, vs, r, .ref p2, rfl, rfl, SqL.of (kp2 l _ na nb hl), atI_of r0 e, p, p2, _, _, rfl, rfl, kn.t (SqT.of upd_same), kn.t ht, (by show 1 + 2 ≤ sizeLine; decide), (fun z => by cases z), (fun _ z => by cases z), fun _ _ q' hq' => ?_⟩
  have s3 := Same.new (o := .tup ([V.str (Str.ofString "field")] ++ [V.str q.1, V.str q.2])) hq'
  exact k _ q _ m (B2.same s3) ((Keep.same s1).trans (kp2.trans (Keep.same s3))) ⟨q', rfl, SqT.of upd_same⟩
theorem scTerm : FnScope ["_law_h", "_law_fields", "_law_deep", "_law_way"] ["_law_h", "_law_fields", "_law_deep"] (defScope sLterm) := ⟨rfl, rfl, rfl, by decide +kernel, rfl, by decide +kernel, by decide +kernel⟩
theorem ok_term {n : Nat} {f fn fu : Addr} {fd fdn fdu : FuncData} (F : Fun K "_law_term" "_law_term" sLterm f fd) (T : Txt mg) (Cnext : Cal P w K mg base (n + 2) "_law_next" ["_law_h", "_law_many"] spNext fn fdn) (Cnumber : Cal P w K mg base (n + 2) "_law_number" ["_law_h"] spNumber fu fdu)
    (Cterm : Cal P w K mg base (n + 2) "_law_term" ["_law_h", "_law_fields", "_law_deep"] (spTerm K n) f fd) : FnOk P w K mg base CX0 (n + 3) f fd ["_law_h", "_law_fields", "_law_deep"] (spTerm K (n + 1)) := by
  refine F.ok scTerm (fun vs H Q E h => ?_) (fun cdv A outer s H vs Q E hr h => ?_)
  · obtain ⟨a, b, l, fl, dp, rfl, _⟩ := h
    rfl
  · obtain ⟨a, b, l, fl, dp, rfl, d0, dn, B, Fl, na, nb, h100, k⟩ := h
    have hr1 : Room (n + 2) _ := hr
    refine ⟨_, (pss_cons (ps_set (i := 3) scTerm.nd rfl (Or.inl rfl) (pe_call Cnext.G hr1 rfl Cnext.g Cnext.kp Cnext.b .nil pass0 (pa_cons (pv 0) (pa_cons pe_int pa_nil))))
      (pss_cons (ps_if (PW.pt (pw_and (pt_cmpR op_lt (pv 3) pe_int (nomark _)) (pw_and1 (pt_cmpR op_gt (pv 2) pe_int (nomark _))))) (pss_one (ps_ret (pe_tup (pa_cons (pe_ix ix_str pe_str (pv 3) (fun _ _ => rfl)) (pa_cons (pe_call Cterm.G hr1 rfl Cterm.g Cterm.kp Cterm.b .nil pass0 (pa_cons (pv 0) (pa_cons (pv 1) (pa_cons (pe_op op_sub (pv 2) pe_int) pa_nil)))) (pa_cons (pe_call Cterm.G hr1 rfl Cterm.g Cterm.kp Cterm.b .nil pass0 (pa_cons (pv 0) (pa_cons (pv 1) (pa_cons (pe_op op_sub (pv 2) pe_int) pa_nil)))) pa_nil)))))) pss_nil)
      (pss_cons (ps_if (PW.pt (pw_or (pt_cmpR op_lt (pv 3) pe_int (nomark _)) (pw_or1 (pt_cmpR (RK.eqD (K := K) hr.units) (pv 1) (pe_lst pa_nil) (nomark _))))) (pss_one (ps_ret (pe_tup (pa_cons pe_str (pa_cons (pe_call Cnumber.G hr1 rfl Cnumber.g Cnumber.kp Cnumber.b .nil pass0 (pa_cons (pv 0) pa_nil)) pa_nil))))) pss_nil)
      (pss_one (ps_ret (pe_op (RK.catT (K := K)) (pe_tup (pa_cons pe_str pa_nil)) (pe_ix (RK.ixL (K := K)) (pv 1) (pe_call Cnext.G hr1 rfl Cnext.g Cnext.kp Cnext.b .nil pass0 (pa_cons (pv 0) (pa_cons (pe_callB (RK.lenQ (K := K)) (by rfl) T.len PySem.boot_len (pa_cons (pv 1) pa_nil)) pa_nil))) (fun _ _ => rfl)))))))), ?_⟩
    refine ⟨_, rfl, a, b, 8, rfl, by decide, by decide, B, fun r H1 r0 r8 B1 kp1 => ?_⟩
    have Fl1 := Fl.keep B kp1 na nb
    refine gn ?_
    dsimp only
    refine sif ?_
    refine and2 (b := decide (r < 3)) (c := decide (0 < dp)) (fun Q q => ⟨_, rfl, _, _, rfl, rfl, _, rfl, q⟩) (fun _ Q q => ⟨_, rfl, _, _, rfl, rfl, _, rfl, q⟩) ?_
    cases hb : (decide (r < 3) && decide (0 < dp)) with
    | true =>
      rw [Bool.and_eq_true, decide_eq_true_eq, decide_eq_true_eq] at hb
      refine iteT ?_
      obtain ⟨c, hc, hop⟩ : ∃ c, atI (Str.ofString "+-*").cps.toList r = some c ∧ (⟨#[c]⟩ : Str) ∈ [Str.ofString "+", Str.ofString "-", Str.ofString "*"] := by
        have h : r = 0 ∨ r = 1 ∨ r = 2 := by omega
        rcases h with rfl | rfl | rfl
        · exact ⟨43, by decide +kernel, by decide +kernel⟩
        · exact ⟨45, by decide +kernel, by decide +kernel⟩
        · exact ⟨42, by decide +kernel, by decide +kernel⟩
      refine ⟨_, rfl, Str.ofString "+-*", r, c, rfl, rfl, by decide, hc, _, rfl, _, rfl, _, rfl, _, _, rfl, rfl, a, b, l, fl, dp - 1, rfl, by omega, by omega, B1, Fl1, na, nb, h100, fun v1 t1 H2 B2 kp2 T2 I2 e2 => ?_⟩
      refine ⟨_, rfl, _, rfl, _, rfl, _, _, rfl, rfl, a, b, l, fl, dp - 1, rfl, by omega, by omega, B2, Fl1.keep B1 kp2 na nb, na, nb, h100, fun v2 t2 H3 B3 kp3 T3 I3 e3 => ⟨(by show 3 ≤ sizeLine; decide), fun p hp => ?_⟩⟩
      have s4 := Same.new (o := .tup [.str ⟨#[c]⟩, v1, v2]) hp
      refine k _ (.bin ⟨#[c]⟩ t1 t2) _ (B3.same s4) (kp1.trans (kp2.trans (kp3.trans (Keep.same s4)))) ⟨p, v1, v2, rfl, SqT.of upd_same, (T2.keep (kp3.n B2)).keep (KeepN.of s4), T3.keep (KeepN.of s4)⟩ (.bin hop I2 I3) ?_
      show max t1.depth t2.depth + 1 ≤ dp.toNat
      omega
    | false =>
      refine iteF ?_
      have num : ∀ Hc, HAt Hc a b → Keep a b H Hc → tTup (tCons (tC (V.str (Str.ofString "num"))) (tCons (tCall spNumber [] E0 (tCons (tVar 0) tNil)) tNil)) [some (.ref a), some (.ref l), some (.int dp), some (.int r)] Hc Q := fun Hc Bc kpc =>
        ⟨_, rfl, a, b, rfl, Bc, fun x H2 x0 x1 B2 kp2 => ⟨(by show 2 ≤ sizeLine; decide), fun p hp => k _ (.num x) _ (B2.same (Same.new hp)) (kpc.trans (kp2.trans (Keep.same (Same.new hp)))) ⟨p, rfl, SqT.of upd_same⟩ (.num x0 x1) (Nat.zero_le _)⟩⟩
      by_cases c5 : r < 5
      · refine ⟨_, rfl, _, _, rfl, rfl, _, rfl, ?_⟩
        rw [show decide (r < 5) = true from decide_eq_true c5]
        exact iteT (iteT (num H1 B1 kp1))
      · refine ⟨_, rfl, _, _, rfl, rfl, _, rfl, ?_⟩
        rw [show decide (r < 5) = false from decide_eq_false c5]
        refine iteF ⟨_, rfl, (by show 0 ≤ sizeLine; decide), fun e he => ?_⟩
        have s2 := Same.new (o := .lst []) he
        have Fl2 := Fl1.same s2
        obtain ⟨vs, hl, pr, ok⟩ := id Fl2
        refine ⟨_, _, .lst (SqL.of hl) (fl_dp pr), .lst (SqL.of upd_same) .nil, fl_shaped ok, rfl, _, rfl, ?_⟩
        rw [eqv_fl]
        cases hfl : fl.isEmpty with
        | true => exact iteT (num _ (B1.same s2) (kp1.trans (Keep.same s2)))
        | false =>
          refine iteF (te_field (K := K) (a := a) (b := b) (l := l) (fl := fl) rfl rfl (B1.same s2) Fl2 na nb h100 (fun z => by rw [z] at hfl; cases hfl) fun v q H' m B' kp' T' => ?_)
          exact k v _ H' B' (kp1.trans ((Keep.same s2).trans kp')) T' (.field m) (Nat.zero_le _)
theorem all_term {f fn fu : Addr} {fd fdn fdu : FuncData} (F : Fun K "_law_term" "_law_term" sLterm f fd) (T : Txt mg) (Cnext : Cal P w K mg base 1 "_law_next" ["_law_h", "_law_many"] spNext fn fdn) (Cnumber : Cal P w K mg base 2 "_law_number" ["_law_h"] spNumber fu fdu)
    (g : mg "_law_term" = some (.ref f)) (b : Binds K fd ["_law_h", "_law_fields", "_law_deep"] []) : ∀ n : Nat, FnOk P w K mg base CX0 (n + 2) f fd ["_law_h", "_law_fields", "_law_deep"] (spTerm K n)
  | 0 => none_left fun vs H Q E h => by
    obtain ⟨_, _, _, _, _, _, h0, h1, _⟩ := h
    omega
  | n + 1 => ok_term F T (Cnext.mono (by omega)) (Cnumber.mono (by omega)) ⟨g, F.kp, b, all_term F T Cnext Cnumber g b n⟩
theorem scCond : FnScope ["_law_h", "_law_fields", "_law_deep", "_law_way", "_law_word", "_law_some_here", "_law_k", "_law_field", "_law_pair"] ["_law_h", "_law_fields", "_law_deep"] (defScope sLcond) := ⟨rfl, rfl, rfl, by decide +kernel, rfl, by decide +kernel, by decide +kernel⟩
theorem ok_cond {n : Nat} {f fn ft : Addr} {fd fdn fdt : FuncData} (F : Fun K "_law_cond" "_law_cond" sLcond f fd) (T : Txt mg) (Cnext : Cal P w K mg base (n + 4) "_law_next" ["_law_h", "_law_many"] spNext fn fdn) (Cterm : Cal P w K mg base (n + 4) "_law_term" ["_law_h", "_law_fields", "_law_deep"] (spTerm K 2) ft fdt)
    (Ccond : Cal P w K mg base (n + 4) "_law_cond" ["_law_h", "_law_fields", "_law_deep"] (spCond K n) f fd) : FnOk P w K mg base CX0 (n + 5) f fd ["_law_h", "_law_fields", "_law_deep"] (spCond K (n + 1)) := by
  refine F.ok scCond (fun vs H Q E h => ?_) (fun cdv A outer s H vs Q E hr h => ?_)
  · obtain ⟨a, b, l, fl, dp, rfl, _⟩ := h
    rfl
  · obtain ⟨a, b, l, fl, dp, rfl, d0, dn, B, Fl, na, nb, h100, k⟩ := h
    have hr1 : Room (n + 4) _ := hr
    refine ⟨_, (pss_cons (ps_set (i := 3) scCond.nd rfl (Or.inl rfl) (pe_call Cnext.G hr1 rfl Cnext.g Cnext.kp Cnext.b .nil pass0 (pa_cons (pv 0) (pa_cons pe_int pa_nil))))
      (pss_cons (ps_if (PW.pt (pw_and (pt_cmpR op_lt (pv 3) pe_int (nomark _)) (pw_and1 (pt_cmpR op_gt (pv 2) pe_int (nomark _))))) (pss_cons (ps_set (i := 4) scCond.nd rfl (Or.inl rfl) (pe_ix (RK.ixL (K := K)) (pe_lst (pa_cons pe_str (pa_cons pe_str (pa_cons pe_str (pa_cons pe_str pa_nil))))) (pv 3) (fun _ _ => rfl)))
        (pss_cons (ps_set (i := 5) scCond.nd rfl (Or.inl rfl) (pe_callTy (RK.tupQ (K := K)) (by rfl) T.tuple (by decide +kernel) (pa_cons (pe_lc (own := [("_law_k", 6)]) rfl scCond.nd (pi_range1 rfl T.range (pa_cons (pe_ifExp (pt_cmpR op_eq (pv 4) pe_str (nomark _)) pe_int pe_int) pa_nil)) (blkOk_by (N := ["_law_h", "_law_fields", "_law_deep", "_law_way", "_law_word", "_law_some_here", "_law_k", "_law_field", "_law_pair"]) (sc := defScope sLcond) (by decide +kernel)) (fun _ _ _ _ _ => (pg_name (i := 6) scCond.nd rfl (Or.inl rfl))) (fun _ _ _ _ _ => pts_nil) (fun _ _ _ _ _ => (pe_call Ccond.G hr1 rfl Ccond.g Ccond.kp Ccond.b .nil pass0 (pa_cons (pv 0) (pa_cons (pv 1) (pa_cons (pe_op op_sub (pv 2) pe_int) pa_nil)))))) pa_nil)))
        (pss_one (ps_ret (pe_op (RK.catT (K := K)) (pe_tup (pa_cons (pv 4) pa_nil)) (pv 5)))))) pss_nil)
      (pss_cons (ps_set (i := 4) scCond.nd rfl (Or.inl rfl) (pe_ix (RK.ixL (K := K)) (pe_lst (pa_cons pe_str (pa_cons pe_str (pa_cons pe_str (pa_cons pe_str (pa_cons pe_str pa_nil)))))) (pe_call Cnext.G hr1 rfl Cnext.g Cnext.kp Cnext.b .nil pass0 (pa_cons (pv 0) (pa_cons pe_int pa_nil))) (fun _ _ => rfl)))
      (pss_cons (ps_if (PW.pt (pw_and (pt_cmpR op_gt (pe_call Cnext.G hr1 rfl Cnext.g Cnext.kp Cnext.b .nil pass0 (pa_cons (pv 0) (pa_cons pe_int pa_nil))) pe_int (nomark _)) (pw_and1 (pt_cmpR (RK.neD (K := K) hr.units) (pv 1) (pe_lst pa_nil) (nomark _))))) (pss_cons (ps_set (i := 7) scCond.nd rfl (Or.inl rfl) (pe_op (RK.catT (K := K)) (pe_tup (pa_cons pe_str pa_nil)) (pe_ix (RK.ixL (K := K)) (pv 1) (pe_call Cnext.G hr1 rfl Cnext.g Cnext.kp Cnext.b .nil pass0 (pa_cons (pv 0) (pa_cons (pe_callB (RK.lenQ (K := K)) (by rfl) T.len PySem.boot_len (pa_cons (pv 1) pa_nil)) pa_nil))) (fun _ _ => rfl))))
        (pss_cons (ps_set (i := 8) scCond.nd rfl (Or.inl rfl) (pe_tup (pa_cons (pv 7) (pa_cons (pe_tup (pa_cons pe_str (pa_cons (pe_call Cnext.G hr1 rfl Cnext.g Cnext.kp Cnext.b .nil pass0 (pa_cons (pv 0) (pa_cons pe_int pa_nil))) pa_nil))) pa_nil))))
        (pss_one (ps_ret (pe_op (RK.catT (K := K)) (pe_tup (pa_cons (pv 4) pa_nil)) (pe_ifExp (pt_cmpR op_eq (pe_call Cnext.G hr1 rfl Cnext.g Cnext.kp Cnext.b .nil pass0 (pa_cons (pv 0) (pa_cons pe_int pa_nil))) pe_int (nomark _)) (pv 8) (L2.pe_revP (K := K) (pv 8)))))))) pss_nil)
      (pss_one (ps_ret (pe_tup (pa_cons (pv 4) (pa_cons (pe_call Cterm.G hr1 rfl Cterm.g Cterm.kp Cterm.b .nil pass0 (pa_cons (pv 0) (pa_cons (pv 1) (pa_cons pe_int pa_nil)))) (pa_cons (pe_call Cterm.G hr1 rfl Cterm.g Cterm.kp Cterm.b .nil pass0 (pa_cons (pv 0) (pa_cons (pv 1) (pa_cons pe_int pa_nil)))) pa_nil)))))))))), ?_⟩
    refine ⟨_, rfl, a, b, 8, rfl, by decide, by decide, B, fun r H1 r0 r8 B1 kp1 => ?_⟩
    have Fl1 := Fl.keep B kp1 na nb
    refine gn ?_
    dsimp only
    refine sif ?_
    refine and2 (b := decide (r < 4)) (c := decide (0 < dp)) (fun Q q => ⟨_, rfl, _, _, rfl, rfl, _, rfl, q⟩) (fun _ Q q => ⟨_, rfl, _, _, rfl, rfl, _, rfl, q⟩) ?_
    cases hb : (decide (r < 4) && decide (0 < dp)) with
    | true =>
      rw [Bool.and_eq_true, decide_eq_true_eq, decide_eq_true_eq] at hb
      refine iteT ?_
      -- word = [..][way]
      refine ⟨(by show 4 ≤ sizeLine; decide), fun p hp => ?_⟩
      have s2 := Same.new (o := .lst [.str (Str.ofString "and"), .str (Str.ofString "and"), .str (Str.ofString "or"), .str (Str.ofString "not")]) hp
      obtain ⟨word, cnt, hw, hc2, hdec, hkind⟩ : ∃ (word : Str) (cnt : Nat), atI [V.str (Str.ofString "and"), .str (Str.ofString "and"), .str (Str.ofString "or"), .str (Str.ofString "not")] r = some (.str word) ∧ cnt ≤ 2 ∧
          decide (V.str word = V.str (Str.ofString "not")) = decide (cnt = 1) ∧ ((cnt = 1 ∧ word = Str.ofString "not") ∨ (cnt = 2 ∧ word ∈ [Str.ofString "and", Str.ofString "or"])) := by
        have h : r = 0 ∨ r = 1 ∨ r = 2 ∨ r = 3 := by omega
        rcases h with rfl | rfl | rfl | rfl
        · exact ⟨_, 2, rfl, by decide, by decide +kernel, .inr ⟨rfl, by decide +kernel⟩⟩
        · exact ⟨_, 2, rfl, by decide, by decide +kernel, .inr ⟨rfl, by decide +kernel⟩⟩
        · exact ⟨_, 2, rfl, by decide, by decide +kernel, .inr ⟨rfl, by decide +kernel⟩⟩
        · exact ⟨_, 1, rfl, by decide, by decide +kernel, .inl ⟨rfl, rfl⟩⟩
      refine ⟨_, rfl, p, _, r, .str word, rfl, rfl, SqL.of upd_same, hw, ?_⟩
      have B2 := B1.same s2
      have Fl2 := Fl1.same s2
      refine ⟨_, rfl, rfl, _, rfl, ?_⟩
      rw [hdec]
      have cases1 : ∀ {σ : L2.St} {H : Hp} {Qx : VK}, Qx (.int (cnt : Int)) H → (if decide (cnt = 1) = true then tC (.int 1) σ H Qx else tC (.int 2) σ H Qx) := fun {σ H Qx} q => by
        rcases hkind with ⟨e, _⟩ | ⟨e, _⟩ <;> subst e <;> exact q
      refine cases1 ⟨(cnt : Int), rfl, by omega, by omega, fun D hD => ?_⟩
      have nD := B2.ne hD
      refine lc_range (lo := 0) (n := cnt) (fun i H' => ∃ (vs : List V) (ts : List Tr), HAt H' a b ∧ Keep a b (upd H1 p (.lst [.str (Str.ofString "and"), .str (Str.ofString "and"), .str (Str.ofString "or"), .str (Str.ofString "not")])) H' ∧ H' D = some (.lst vs) ∧ Paired (TrAt K H') vs ts ∧ (∀ t ∈ ts, IsCd fl t ∧ t.depth ≤ dp.toNat + 1) ∧ ts.length = i)
        ⟨[], [], B2.same (Same.new hD), Keep.same (Same.new hD), upd_same, .nil, (fun t z => by cases z), rfl⟩ ?_ ?_
      · rintro i H3 hi ⟨vs, ts, B3, kp3, hD3, pr, hts, li⟩
        have Fl3 := Fl2.keep B2 kp3 na nb
        refine ⟨rfl, _, rfl, _, rfl, _, rfl, _, _, rfl, rfl, a, b, l, fl, dp - 1, rfl, by omega, by omega, B3, Fl3, na, nb, h100, fun v t H4 B4 kp4 T4 I4 e4 => ?_⟩
        have hD4 := kp4 D _ nD.1 nD.2 hD3
        have lv : vs.length = i := (Paired.length pr).trans li
        refine ⟨vs, hD4, Nat.lt_of_le_of_lt (show vs.length ≤ 2 by omega) (by decide), vs ++ [v], ts ++ [t], B4.upd nD, ?_, upd_same, ?_, ?_, ?_⟩
        · intro x o h1 h2 h
          rw [upd_ne (ne_of_none h hD)]
          exact kp4 x o h1 h2 (kp3 x o h1 h2 h)
        · exact Paired.snoc (Paired.mapP pr fun _ _ q => (q.keep (kp4.n B3)).keep (KeepN.lst hD4)) (T4.keep (KeepN.lst hD4))
        · intro t' m
          rcases List.mem_append.mp m with m | m
          · exact hts t' m
          · obtain rfl := List.mem_singleton.mp m
            exact ⟨I4, by omega⟩
        · rw [List.length_append, li]
          rfl
      · rintro H3 ⟨vs, ts, B3, kp3, hD3, pr, hts, li⟩
        refine ⟨D, vs, rfl, .inl ⟨SqL.of hD3, fun q hq => ?_⟩⟩
        have s4 := Same.new (o := .tup vs) hq
        refine ⟨_, rfl, (by show 1 ≤ sizeLine; decide), fun p5 hp5 => ?_⟩
        have s5 := Same.new (o := .tup [.str word]) hp5
        have lv : vs.length = cnt := (Paired.length pr).trans li
        refine ⟨_, rfl, p5, q, _, _, rfl, rfl, SqT.of upd_same, SqT.of (s5 _ _ upd_same), (by show 1 + vs.length ≤ sizeLine; exact Nat.le_trans (show 1 + vs.length ≤ 3 by omega) (by decide)), (fun z => by cases z), (fun _ z => ?_), fun _ _ p6 hp6 => ?_⟩
        · rw [z] at lv
          rcases hkind with ⟨e, _⟩ | ⟨e, _⟩ <;> subst e <;> cases lv
        · have s6 := Same.new (o := .tup ([V.str word] ++ vs)) hp6
          have s46 := s4.trans (s5.trans s6)
          have kp : Keep a b H _ := kp1.trans ((Keep.same s2).trans (kp3.trans (Keep.same s46)))
          rcases hkind with ⟨e, rfl⟩ | ⟨e, hword⟩
          · subst e
            cases pr with
            | nil => cases li
            | @cons v t vs2 ts2 h1 h2 =>
              cases h2 with
              | cons _ _ => exact absurd lv (by simp)
              | nil =>
                obtain ⟨i1, e1⟩ := hts t List.mem_cons_self
                exact k _ (.not t) _ (B3.same s46) kp ⟨p6, v, rfl, SqT.of upd_same, h1.keep (KeepN.of s46)⟩ (.not i1) (by show t.depth + 1 ≤ _; omega)
          · subst e
            cases pr with
            | nil => cases li
            | @cons v t vs2 ts2 h1 h2 =>
              cases h2 with
              | nil => cases li
              | @cons v' t' vs3 ts3 h3 h4 =>
                cases h4 with
                | cons _ _ => exact absurd lv (by simp)
                | nil =>
                  obtain ⟨i1, e1⟩ := hts t List.mem_cons_self
                  obtain ⟨i2, e2⟩ := hts t' (List.mem_cons_of_mem _ List.mem_cons_self)
                  exact k _ (.bin word t t') _ (B3.same s46) kp ⟨p6, v, v', rfl, SqT.of upd_same, h1.keep (KeepN.of s46), h3.keep (KeepN.of s46)⟩ (.join hword i1 i2) (by show max t.depth t'.depth + 1 ≤ _; omega)
    | false =>
      refine iteF ?_
      refine ⟨(by show 5 ≤ sizeLine; decide), fun p hp => ?_⟩
      have s2 := Same.new (o := .lst (signs.map V.str)) hp
      have np := B1.ne hp
      refine ⟨_, rfl, a, b, 5, rfl, by decide, by decide, B1.same s2, fun x H3 x0 x5 B3 kp3 => ?_⟩
      have hp3 : H3 p = some (.lst (signs.map V.str)) := kp3 p _ np.1 np.2 upd_same
      obtain ⟨word, hw, hword⟩ : ∃ word : Str, atI (signs.map V.str) x = some (.str word) ∧ word ∈ signs := by
        have h : x = 0 ∨ x = 1 ∨ x = 2 ∨ x = 3 ∨ x = 4 := by omega
        rcases h with rfl | rfl | rfl | rfl | rfl
        · exact ⟨_, rfl, by decide +kernel⟩
        · exact ⟨_, rfl, by decide +kernel⟩
        · exact ⟨_, rfl, by decide +kernel⟩
        · exact ⟨_, rfl, by decide +kernel⟩
        · exact ⟨_, rfl, by decide +kernel⟩
      have kp03 : Keep a b H H3 := kp1.trans ((Keep.same s2).trans kp3)
      have Fl3 := Fl.keep B kp03 na nb
      refine ⟨p, _, x, .str word, rfl, rfl, SqL.of hp3, hw, ?_⟩
      have terms : ∀ Hc, HAt Hc a b → Keep a b H Hc → tTup (tCons (tVar 4) (tCons (tCall (spTerm K 2) [] E0 (tCons (tVar 0) (tCons (tVar 1) (tCons (tC (.int 1)) tNil)))) (tCons (tCall (spTerm K 2) [] E0 (tCons (tVar 0) (tCons (tVar 1) (tCons (tC (.int 1)) tNil)))) tNil)))
          [some (.ref a), some (.ref l), some (.int dp), some (.int r), some (.str word), none, none, none, none] Hc Q := fun Hc Bc kpc => by
        have Flc := Fl.keep B kpc na nb
        refine ⟨_, rfl, _, rfl, _, rfl, a, b, l, fl, 1, rfl, by decide, by decide, Bc, Flc, na, nb, h100, fun v1 t1 H4 B4 kp4 T4 I4 e4 => ?_⟩
        refine ⟨_, rfl, _, rfl, a, b, l, fl, 1, rfl, by decide, by decide, B4, Flc.keep Bc kp4 na nb, na, nb, h100, fun v2 t2 H5 B5 kp5 T5 I5 e5 => ⟨(by show 3 ≤ sizeLine; decide), fun p6 hp6 => ?_⟩⟩
        have s6 := Same.new (o := .tup [.str word, v1, v2]) hp6
        refine k _ (.bin word t1 t2) _ (B5.same s6) (kpc.trans (kp4.trans (kp5.trans (Keep.same s6)))) ⟨p6, v1, v2, rfl, SqT.of upd_same, (T4.keep (kp5.n B4)).keep (KeepN.of s6), T5.keep (KeepN.of s6)⟩ (.cmp hword I4 I5) ?_
        have e4' : t1.depth ≤ 1 := e4
        have e5' : t2.depth ≤ 1 := e5
        show max t1.depth t2.depth + 1 ≤ _
        omega
      refine ⟨_, rfl, a, b, 3, rfl, by decide, by decide, B3, fun y H4 y0 y3 B4 kp4 => ⟨_, _, rfl, rfl, _, rfl, ?_⟩⟩
      have kp04 := kp03.trans kp4
      have Fl4 := Fl.keep B kp04 na nb
      refine ite2 (fun _ => ?_) (fun _ => iteF (terms H4 B4 kp04))
      refine ⟨_, rfl, (by show 0 ≤ sizeLine; decide), fun e he => ?_⟩
      have s5 := Same.new (o := .lst []) he
      have Fl5 := Fl4.same s5
      obtain ⟨vs, hl, pr, ok⟩ := id Fl5
      refine ⟨_, _, .lst (SqL.of hl) (fl_dp pr), .lst (SqL.of upd_same) .nil, fl_shaped ok, rfl, _, rfl, ?_⟩
      rw [eqv_fl]
      have kp05 := kp04.trans (Keep.same s5)
      cases hfl : fl.isEmpty with
      | true => exact iteF (terms _ (B4.same s5) kp05)
      | false =>
        refine iteT (te_field (K := K) (a := a) (b := b) (l := l) (fl := fl) rfl rfl (B4.same s5) Fl5 na nb h100 (fun z => by rw [z] at hfl; cases hfl) fun v q H6 m B6 kp6 T6 => ?_)
        refine ⟨_, rfl, _, rfl, a, b, 8, rfl, by decide, by decide, B6, fun z H7 z0 z8 B7 kp7 => ⟨(by show 2 ≤ sizeLine; decide), fun p8 hp8 => ⟨(by show 2 ≤ sizeLine; decide), fun p9 hp9 => ?_⟩⟩⟩
        have s8 := Same.new (o := .tup [.str (Str.ofString "num"), .int z]) hp8
        have s9 := Same.new (o := .tup [v, .ref p8]) hp9
        have s89 := s8.trans s9
        have T9 := (T6.keep (kp7.n B6)).keep (KeepN.of s89)
        have N9 : TrAt K _ (.ref p8) (.num z) := ⟨p8, rfl, SqT.of (s9 _ _ upd_same)⟩
        refine ⟨_, rfl, (by show 1 ≤ sizeLine; decide), fun pa hpa => ?_⟩
        have sa := Same.new (o := .tup [.str word]) hpa
        have B10 := (B7.same s89).same sa
        have kp10 : Keep a b H _ := kp05.trans (kp6.trans (kp7.trans (Keep.same (s89.trans sa))))
        refine ⟨_, rfl, a, b, 2, rfl, by decide, by decide, B10, fun u H11 u0 u2 B11 kp11 => ⟨rfl, _, rfl, ?_⟩⟩
        have kn11 := (KeepN.of sa).trans (kp11.n B10)
        have T11 := T9.keep kn11
        have N11 := N9.keep kn11
        have hpair : SqT K H11 p9 [v, .ref p8] := kn11.t (SqT.of upd_same)
        have hword1 : SqT K H11 pa [.str word] := (kp11.n B10).t (SqT.of upd_same)
        have kp011 : Keep a b H H11 := kp10.trans kp11
        have fin : ∀ (pc : Addr) (v1 v2 : V) (t1 t2 : Tr) (H12 : Hp), Same H11 H12 → SqT K H12 pc [v1, v2] → TrAt K H12 v1 t1 → TrAt K H12 v2 t2 → IsTm fl t1 → IsTm fl t2 → t1.depth = 0 → t2.depth = 0 → rCatA K (.ref pa) (.ref pc) H12 Q := fun pc v1 v2 t1 t2 H12 s12 hpc a1 a2 i1 i2 e1 e2 =>
          ⟨pa, pc, _, _, rfl, rfl, (KeepN.of s12).t hword1, hpc, (by show 1 + 2 ≤ sizeLine; decide), (fun z => by cases z), (fun _ z => by cases z), fun _ _ pd hpd => by
            have sd := Same.new (o := .tup ([V.str word] ++ [v1, v2])) hpd
            refine k _ (.bin word t1 t2) _ ((B11.same s12).same sd) (kp011.trans (Keep.same (s12.trans sd))) ⟨pd, v1, v2, rfl, SqT.of upd_same, a1.keep (KeepN.of sd), a2.keep (KeepN.of sd)⟩ (.cmp hword i1 i2) ?_
            show max t1.depth t2.depth + 1 ≤ _
            rw [e1, e2]
            omega⟩
        refine ite2 (fun _ => ?_) (fun _ => ?_)
        · exact ⟨_, rfl, fin p9 _ _ _ _ H11 (Same.refl _) hpair T11 N11 (.field m) (.num (by omega) (by omega)) rfl rfl⟩
        · refine ⟨_, rfl, p9, _, _, rfl, hpair, fun pe hpe => ?_⟩
          have se := Same.new (o := .tup [.ref p8, v]) hpe
          exact fin pe _ _ _ _ _ se (SqT.of upd_same) (N11.keep (KeepN.of se)) (T11.keep (KeepN.of se)) (.num (by omega) (by omega)) (.field m) rfl rfl
end
end K06

namespace K06
open PySem L2

theorem pair_app {α β : Type} {R : α → β → Prop} : ∀ {a c : List α} {b d : List β}, Paired R a b → Paired R c d → Paired R (a ++ c) (b ++ d)
  | _, _, _, _, .nil, q => q
  | _, _, _, _, .cons h t, q => .cons h (pair_app t q)
def flOf (sh : List (Str × List Str)) (ts : List Str) : List (Str × Str) := ts.flatMap fun t => ((sh.lookup t).getD []).map fun f => (t, f)
def spSome (K : PySem.W.Frag) : Sp := fun vs H Q _ => ∃ (v0 : V) (d l : Addr) (sh : List (Str × List Str)) (ts : List Str), vs = [v0, .ref d, .ref l] ∧ ShapesAt K H d sh ∧ SqL K H l (ts.map V.str) ∧ (∀ t ∈ ts, ∃ fs, sh.lookup t = some fs ∧ fs.length ≤ 4) ∧ ts.length ≤ 3 ∧ FlOk (flOf sh ts) ∧
  ∀ (r : Addr) (H' : Hp), Same H H' → H r = none → FlAt K H' r (flOf sh ts) → (flOf sh ts).length ≤ 12 → Q (.ref r) H'
section
variable {P : Program} {w : World} {K : PySem.W.Frag} {mg : Str → Option Value} {base : Heap}
theorem scSome : FnScope ["_law_h", "_law_shapes_here", "_law_tables", "_law_found", "_law_table", "_law_field"] ["_law_h", "_law_shapes_here", "_law_tables"] (defScope sLsome) := ⟨rfl, rfl, rfl, by decide +kernel, rfl, by decide +kernel, by decide +kernel⟩
theorem ok_some {f : Addr} {fd : FuncData} (F : Fun K "_law_some" "_law_some" sLsome f fd) : FnOk P w K mg base CX0 1 f fd ["_law_h", "_law_shapes_here", "_law_tables"] (spSome K) := by
  refine F.ok scSome (fun vs H Q E h => ?_) (fun cdv A outer s H vs Q E hr h => ?_)
  · obtain ⟨v0, d, l, sh, ts, rfl, _⟩ := h
    rfl
  · obtain ⟨v0, d, l, sh, ts, rfl, S, hl, hts, t3, ok, k⟩ := h
    refine ⟨_, (pss_cons (ps_set (i := 3) scSome.nd rfl (Or.inl rfl) (pe_lst pa_nil))
      (pss_cons (ps_for PassesOwn.never rfl (RK.piL (K := K) (pv 2)) (pg_name (i := 4) scSome.nd rfl (Or.inr rfl))
        (pss_one (ps_set (i := 3) scSome.nd rfl (Or.inl rfl) (pe_op op_cat (pv 3) (pe_lc (own := [("_law_field", 5)]) rfl scSome.nd (RK.piT (K := K) (pe_dget (hu_of hr) (pv 1) (pv 4) (fun _ _ => rfl))) (blkOk_by (N := ["_law_h", "_law_shapes_here", "_law_tables", "_law_found", "_law_table", "_law_field"]) (sc := defScope sLsome) (by decide +kernel)) (fun _ _ _ _ _ => (pg_name (i := 5) scSome.nd rfl (Or.inl rfl))) (fun _ _ _ _ _ => pts_nil) (fun _ _ _ _ _ => (pe_tup (pa_cons (pv 4) (pa_cons (pv 5) pa_nil)))))))))
      (pss_one (ps_ret (pv 3))))), ?_⟩
    have lt : (ts.map V.str).length = ts.length := List.length_map ..
    refine ⟨(by show 0 ≤ sizeLine; decide), fun p hp => ?_⟩
    have s0 := Same.new (o := .lst []) hp
    refine ⟨_, rfl, l, rfl, ⟨_, s0.seq hl⟩, for_list (K := K) (a := l) (xs := ts.map V.str) (fun i σ H' => ∃ (r : Addr) (v4 v5 : Option V) (vs : List V), σ = [some v0, some (.ref d), some (.ref l), some (.ref r), v4, v5] ∧ Same H H' ∧ H r = none ∧ H' r = some (.lst vs) ∧ Paired (FlR K H') vs (flOf sh (ts.take i)) ∧ vs.length ≤ 4 * i)
      ⟨p, none, none, [], rfl, s0, hp, upd_same, .nil, Nat.le_refl _⟩ (fun i σ H' _ ⟨_, _, _, _, _, sm, _⟩ => sm.seq hl) ?_ ?_⟩
    · rintro i y σ H1 hi ⟨r, v4, v5, vs, rfl, sm, r0, hr1, pr, lv⟩
      have hi1 : i < ts.length := by have q := (List.getElem?_eq_some_iff.mp hi).1; omega
      obtain rfl : y = .str ts[i] := by rw [List.getElem?_map, List.getElem?_eq_getElem hi1] at hi; exact (Option.some.inj hi).symm
      obtain ⟨fs, hfs, f4⟩ := hts ts[i] (List.getElem_mem hi1)
      obtain ⟨kvs, hd, prs⟩ := S.keep (KeepN.of sm)
      have tk : flOf sh (ts.take (i + 1)) = flOf sh (ts.take i) ++ fs.map fun f => (ts[i], f) := by
        rw [List.take_add_one, List.getElem?_eq_getElem hi1]
        unfold flOf
        rw [List.flatMap_append]
        simp [hfs]
      rcases pr_look ts[i] prs with ⟨e1, _⟩ | ⟨x, v, e1, e2, t, rfl, ht⟩
      · rw [hfs] at e1
        cases e1
      obtain rfl : fs = x := by rw [hfs] at e1; exact Option.some.inj e1
      refine ⟨_, rfl, _, rfl, _, rfl, d, _, rfl, .inl ⟨kvs, .inr ts[i], .inl hd, rfl, e2.symm⟩, t, rfl, ⟨_, ht⟩, fun D hD => ?_⟩
      have nrD : r ≠ D := ne_of_none hr1 hD
      refine lc_tup (K := K) (a := t) (xs := fs.map V.str) (fun j H2 => Same H1 H2 ∧ ∃ ws, H2 D = some (.lst ws) ∧ Paired (FlR K H2) ws ((fs.take j).map fun f => (ts[i], f)) ∧ ws.length = j)
        ⟨Same.new hD, [], upd_same, .nil, rfl⟩ (fun j H2 _ ⟨s2, _⟩ => (KeepN.of s2).t ht) ?_ ?_
      · rintro j x H2 hx ⟨s2, ws, hD2, pw, lw⟩
        have hj : j < fs.length := by have q := (List.getElem?_eq_some_iff.mp hx).1; rw [List.length_map] at q; exact q
        obtain rfl : x = .str fs[j] := by rw [List.getElem?_map, List.getElem?_eq_getElem hj] at hx; exact (Option.some.inj hx).symm
        refine ⟨rfl, _, rfl, _, rfl, (by show 2 ≤ sizeLine; decide), fun q hq => ?_⟩
        have s3 := Same.new (o := .tup [.str ts[i], .str fs[j]]) hq
        have hD3 := s3 _ _ hD2
        refine ⟨ws, hD3, Nat.lt_of_le_of_lt (show ws.length ≤ 4 by omega) (by decide), fun b o e => ?_, ws ++ [.ref q], upd_same, ?_, by rw [List.length_append, lw]; rfl⟩
        · rw [upd_ne (ne_of_none e hD)]
          exact s3 _ _ (s2 _ _ e)
        · have tk2 : fs.take (j + 1) = fs.take j ++ [fs[j]] := by rw [List.take_add_one, List.getElem?_eq_getElem hj]; rfl
          rw [tk2, List.map_append]
          exact Paired.snoc (fl_mono (fun _ _ z => (KeepN.lst hD3).t ((KeepN.of s3).t z)) pw) ⟨q, rfl, (KeepN.lst hD3).t (SqT.of upd_same)⟩
      · rintro H2 ⟨s2, ws, hD2, pw, lw⟩
        rw [List.length_map] at lw
        rw [List.length_map, List.take_length] at pw
        refine ⟨r, D, vs, ws, rfl, rfl, s2 _ _ hr1, hD2, Nat.le_trans (show vs.length + ws.length ≤ 16 by omega) (by decide), fun q hq => ?_⟩
        have s3 := Same.new (o := .lst (vs ++ ws)) hq
        have s13 := s2.trans s3
        have q0 : H q = none := by
          cases e : H q with
          | none => rfl
          | some o => rw [s2 _ _ (sm _ _ e)] at hq; cases hq
        refine ⟨q, _, _, vs ++ ws, rfl, sm.trans s13, q0, upd_same, ?_, by rw [List.length_append]; omega⟩
        rw [tk]
        exact pair_app (fl_mono (fun _ _ z => (KeepN.of s13).t z) pr) (fl_mono (fun _ _ z => (KeepN.of s3).t z) pw)
    · rintro σ H' ⟨r, v4, v5, vs, rfl, sm, r0, hr1, pr, lv⟩
      rw [lt, List.take_length] at pr
      have le : (flOf sh ts).length ≤ 12 := by rw [← (Paired.length pr)]; omega
      exact ⟨_, rfl, k r H' sm r0 ⟨vs, hr1, pr, ok⟩ le⟩
end
end K06

namespace K06
open PySem L2

structure Txt6 (mg : Str → Option Value) : Prop extends Txt mg where
  sorted : mg "sorted" = none
  min : mg "min" = none
  int : mg "int" = none
  dict : mg "dict" = none
  isinstance : mg "isinstance" = none
  bool : mg "bool" = none
  str : mg "str" = none
def InSh (sh : List (Str × List Str)) (q : Str × Str) : Prop := ∃ fs, sh.lookup q.1 = some fs ∧ q.2 ∈ fs
def spIdx (K : PySem.W.Frag) : Sp := fun vs H Q _ => ∃ (a b d : Addr) (sh : List (Str × List Str)), vs = [.ref a, .ref d] ∧ HAt H a b ∧ ShapesAt K H d sh ∧ IsShapes sh ∧
  ∀ (r : Addr) (H' : Hp) (il : List (Str × Str)), HAt H' a b → Keep a b H H' → H r = none → FlAt K H' r il → (∀ q ∈ il, InSh sh q) → il.length ≤ 12 → Q (.ref r) H'
theorem sh_look {sh : List (Str × List Str)} (I : IsShapes sh) {t : Str} (h : t ∈ sh.map (·.1)) : ∃ fs m, sh.lookup t = some fs ∧ 1 ≤ m ∧ m ≤ 4 ∧ fs = flds.take m := by
  have key : ∀ l : List (Str × List Str), t ∈ l.map (·.1) → ∃ fs, l.lookup t = some fs ∧ (t, fs) ∈ l := by
    intro l
    induction l with
    | nil => intro h; cases h
    | cons p r ih =>
      intro h
      obtain ⟨k, x⟩ := p
      by_cases z : t = k
      · subst z
        exact ⟨x, by simp [List.lookup], List.mem_cons_self⟩
      · have zn : (t == k) = false := by simpa using z
        rcases List.mem_cons.mp h with h | h
        · exact absurd h z
        · obtain ⟨fs, e, m⟩ := ih h
          exact ⟨fs, by simp only [List.lookup, zn]; exact e, List.mem_cons_of_mem _ m⟩
  obtain ⟨fs, e, m⟩ := key sh h
  obtain ⟨n, n1, n4, e2⟩ := I.fs _ m
  exact ⟨fs, n, e, n1, n4, e2⟩
theorem ok_flds : ∀ f ∈ flds, PyData.strOk f = true := by decide +kernel
theorem ok_tabs : ∀ f ∈ tabs, PyData.strOk f = true := by decide +kernel
theorem sh_names {sh : List (Str × List Str)} (I : IsShapes sh) {t : Str} (h : t ∈ sh.map (·.1)) : t ∈ tabs := by
  rw [I.names] at h
  exact List.mem_of_mem_take h
theorem HAt.ne'' {H : Hp} {a b x : Addr} {xs : List V} (B : HAt H a b) (h : H x = some (.tup xs)) : x ≠ a ∧ x ≠ b := by
  obtain ⟨z, p, cs, ha, hb, _⟩ := B
  exact ⟨fun e => (by rw [e, ha] at h; cases h), fun e => (by rw [e, hb] at h; cases h)⟩
theorem look_key {sh : List (Str × List Str)} {t : Str} {fs : List Str} (h : sh.lookup t = some fs) : t ∈ sh.map (·.1) := by
  induction sh with
  | nil => cases h
  | cons p r ih =>
    obtain ⟨k, x⟩ := p
    by_cases z : t = k
    · rw [z]; exact List.mem_cons_self
    · have zn : (t == k) = false := by simpa using z
      simp only [List.lookup, zn] at h
      exact List.mem_cons_of_mem _ (ih h)
theorem insh_ok {sh : List (Str × List Str)} (I : IsShapes sh) {q : Str × Str} (h : InSh sh q) : PyData.strOk q.1 = true ∧ PyData.strOk q.2 = true := by
  obtain ⟨fs, e, m⟩ := h
  have kin := look_key e
  obtain ⟨fs', n, e', _, _, e2⟩ := sh_look I kin
  obtain rfl : fs = fs' := by rw [e] at e'; exact Option.some.inj e'
  exact ⟨ok_tabs _ (sh_names I kin), ok_flds _ (List.mem_of_mem_take (e2 ▸ m))⟩
section
variable {P : Program} {w : World} {K : PySem.W.Frag} {mg : Str → Option Value} {base : Heap}
theorem scIdx : FnScope ["_law_h", "_law_shapes_here", "_law_found", "_law_table", "_law_field"] ["_law_h", "_law_shapes_here"] (defScope sLindexes) := ⟨rfl, rfl, rfl, by decide +kernel, rfl, by decide +kernel, by decide +kernel⟩
theorem ok_indexes {f fn : Addr} {fd fdn : FuncData} (F : Fun K "_law_indexes" "_law_indexes" sLindexes f fd) (T : Txt6 mg) (Cnext : Cal P w K mg base 1 "_law_next" ["_law_h", "_law_many"] spNext fn fdn) : FnOk P w K mg base CX0 2 f fd ["_law_h", "_law_shapes_here"] (spIdx K) := by
  refine F.ok scIdx (fun vs H Q E h => ?_) (fun cdv A outer s H vs Q E hr h => ?_)
  · obtain ⟨a, b, d, sh, rfl, _⟩ := h
    rfl
  · obtain ⟨a, b, d, sh, rfl, B, S, I, k⟩ := h
    have hr1 : Room 1 _ := hr.mono (by decide)
    refine ⟨_, (pss_cons (ps_set (i := 2) scIdx.nd rfl (Or.inl rfl) (pe_lst pa_nil))
      (pss_cons (ps_for PassesOwn.never rfl (RK.piL (K := K) (pe_callB (call_sortedD rfl) (by rfl) T.sorted (by decide +kernel) (pa_cons (pv 1) pa_nil))) (pg_name (i := 3) scIdx.nd rfl (Or.inr rfl))
        (pss_one (ps_set (i := 2) scIdx.nd rfl (Or.inl rfl) (pe_op op_cat (pv 2) (pe_lc (own := [("_law_field", 4)]) rfl scIdx.nd (RK.piT (K := K) (pe_slice (RK.slT (K := K)) (pe_dget (hu_of hr) (pv 1) (pv 3) (fun _ _ => rfl)) (po_some pe_int) po_none)) (blkOk_by (N := ["_law_h", "_law_shapes_here", "_law_found", "_law_table", "_law_field"]) (sc := defScope sLindexes) (by decide +kernel)) (fun _ _ _ _ _ => (pg_name (i := 4) scIdx.nd rfl (Or.inl rfl))) (fun _ _ _ _ _ => (pts_one (pt_cmpR op_eq (pe_call Cnext.G hr1 rfl Cnext.g Cnext.kp Cnext.b .nil pass0 (pa_cons (pv 0) (pa_cons pe_int pa_nil))) pe_int (nomark _)))) (fun _ _ _ _ _ => (pe_tup (pa_cons (pv 3) (pa_cons (pv 4) pa_nil)))))))))
      (pss_one (ps_ret (pv 2))))), ?_⟩
    refine ⟨(by show 0 ≤ sizeLine; decide), fun p hp => ?_⟩
    have s0 := Same.new (o := .lst []) hp
    have S0 := S.keep (KeepN.of s0)
    obtain ⟨kvs, hd, pr⟩ := id S0
    have n64 : (sh.map (·.1)).length < 64 := by rw [List.length_map]; have := I.few; omega
    refine ⟨_, rfl, d, kvs, sh.map (·.1), rfl, Rd.of hd, pr_keys pr, n64, fun ys g perm _ hg => ?_⟩
    have s1 := Same.new (o := .lst (ys.map V.str)) hg
    have S1 := S0.keep (KeepN.of s1)
    have B1 := (B.same s0).same s1
    have hys : ∀ t ∈ ys, t ∈ sh.map (·.1) := fun t m => perm.mem_iff.mp m
    have ly : ys.length ≤ 3 := by rw [perm.length_eq, List.length_map]; exact I.few
    have lt : (ys.map V.str).length = ys.length := List.length_map ..
    have ng := (B.same s0).ne hg
    refine ⟨g, rfl, ⟨_, SqL.of upd_same⟩, for_list (K := K) (a := g) (xs := ys.map V.str) (fun i σ H' => ∃ (r : Addr) (v3 v4 : Option V) (vs : List V) (il : List (Str × Str)), σ = [some (.ref a), some (.ref d), some (.ref r), v3, v4] ∧ HAt H' a b ∧ Keep a b (upd (upd H p (.lst [])) g (.lst (ys.map V.str))) H' ∧ H r = none ∧ H' r = some (.lst vs) ∧ Paired (FlR K H') vs il ∧ (∀ q ∈ il, InSh sh q) ∧ vs.length ≤ 4 * i)
      ⟨p, none, none, [], [], rfl, B1, Keep.refl _ _ _, hp, s1 _ _ upd_same, .nil, (fun q m => by cases m), Nat.le_refl _⟩ (fun i σ H' _ ⟨_, _, _, _, _, _, _, kp, _⟩ => SqL.of (kp g _ ng.1 ng.2 upd_same)) ?_ ?_⟩
    · rintro i y σ H1 hi ⟨r, v3, v4, vs, il, rfl, B2, kp, r0, hr2, pv, hil, lv⟩
      have hi1 : i < ys.length := by have q := (List.getElem?_eq_some_iff.mp hi).1; omega
      obtain rfl : y = .str ys[i] := by rw [List.getElem?_map, List.getElem?_eq_getElem hi1] at hi; exact (Option.some.inj hi).symm
      have hin := hys _ (List.getElem_mem hi1)
      obtain ⟨fs, m, lk, m1, m4, efs⟩ := sh_look I hin
      have okt := ok_tabs _ (sh_names I hin)
      have S2 := S1.keep (kp.n B1)
      obtain ⟨kvs2, hd2, pr2⟩ := S2
      rcases pr_look ys[i] pr2 with ⟨e1, _⟩ | ⟨x, v, e1, e2, t, rfl, ht⟩
      · rw [lk] at e1
        cases e1
      obtain rfl : fs = x := by rw [lk] at e1; exact Option.some.inj e1
      refine ⟨_, rfl, _, rfl, _, rfl, d, _, rfl, .inl ⟨kvs2, .inr ys[i], .inl hd2, rfl, e2.symm⟩, ?_⟩
      have fl5 : fs.length ≤ 4 := by rw [efs, List.length_take]; omega
      refine ⟨_, rfl, t, _, rfl, ht, fun hw => ?_, fun hw u hu => ?_⟩
      · exfalso
        have h1 := hw.1
        rw [show (some (1 : Int)) = some ((1 : Nat) : Int) from rfl, HT.sIx_nat, List.length_map] at h1
        have : 1 ≤ fs.length := by rw [efs, List.length_take]; show 1 ≤ min m 4; omega
        omega
      have ec : cutV (fs.map V.str) (some 1) none = (fs.drop 1).map V.str := by
        have h : m = 1 ∨ m = 2 ∨ m = 3 ∨ m = 4 := by omega
        rcases h with rfl | rfl | rfl | rfl <;> rw [efs] <;> rfl
      rw [ec]
      have su := Same.new (o := .tup ((fs.drop 1).map V.str)) hu
      have Bu := B2.same su
      have l3 : (fs.drop 1).length ≤ 3 := by rw [List.length_drop]; omega
      refine ⟨u, rfl, ⟨_, SqT.of upd_same⟩, fun D hD => ?_⟩
      have nD := Bu.ne hD
      have nrD : r ≠ D := ne_of_none (su _ _ hr2) hD
      generalize hHu : upd H1 u (.tup ((fs.drop 1).map V.str)) = Hu at hD Bu su
      have hut : Hu u = some (.tup ((fs.drop 1).map V.str)) := by rw [← hHu]; exact upd_same
      refine lc_tup (K := K) (a := u) (xs := (fs.drop 1).map V.str) (fun j H2 => HAt H2 a b ∧ Keep a b Hu H2 ∧ ∃ (ws : List V) (jl : List (Str × Str)), H2 D = some (.lst ws) ∧ Paired (FlR K H2) ws jl ∧ (∀ q ∈ jl, q.1 = ys[i] ∧ q.2 ∈ fs) ∧ ws.length ≤ j)
        ⟨Bu.upd nD, Keep.same (Same.new hD), [], [], upd_same, .nil, (fun q m => by cases m), Nat.le_refl _⟩ (fun j H2 _ ⟨_, k2, _⟩ => SqT.of (k2 _ _ (Bu.ne'' hut).1 (Bu.ne'' hut).2 hut)) ?_ ?_
      · rintro j x H2 hx ⟨B3, k3, ws, jl, hD2, pw, hjl, lw⟩
        have hj : j < (fs.drop 1).length := by have q := (List.getElem?_eq_some_iff.mp hx).1; rw [List.length_map] at q; exact q
        obtain rfl : x = .str (fs.drop 1)[j] := by rw [List.getElem?_map, List.getElem?_eq_getElem hj] at hx; exact (Option.some.inj hx).symm
        refine ⟨rfl, _, rfl, a, b, 2, rfl, by decide, by decide, B3, fun z H4 z0 z2 B4 k4 => ?_⟩
        have hD4 := k4 D _ nD.1 nD.2 hD2
        have pw4 := fl_mono (fun _ _ q => (k4.n B3).t q) pw
        refine ⟨rfl, _, rfl, ?_⟩
        generalize decide (V.int z = V.int 0) = bz
        cases bz with
        | true =>
          refine iteT ?_
          refine ⟨_, rfl, _, rfl, (by show 2 ≤ sizeLine; decide), fun q hq => ?_⟩
          have s5 := Same.new (o := .tup [.str ys[i], .str (fs.drop 1)[j]]) hq
          have hD5 := s5 _ _ hD4
          refine ⟨ws, hD5, Nat.lt_of_le_of_lt (show ws.length ≤ 4 by omega) (by decide), (B4.same s5).upd nD, ?_, ws ++ [.ref q], jl ++ [(ys[i], (fs.drop 1)[j])], upd_same, ?_, ?_, ?_⟩
          · intro b' o n1 n2 e
            rw [upd_ne (ne_of_none e hD)]
            exact s5 _ _ ((k3.trans k4) _ _ n1 n2 e)
          · exact Paired.snoc (fl_mono (fun _ _ z => (KeepN.lst hD5).t ((KeepN.of s5).t z)) pw4) ⟨q, rfl, (KeepN.lst hD5).t (SqT.of upd_same)⟩
          · intro q' m
            rcases List.mem_append.mp m with m | m
            · exact hjl q' m
            · rw [List.mem_singleton.mp m]
              exact ⟨rfl, List.mem_of_mem_drop (List.getElem_mem hj)⟩
          · rw [List.length_append]; exact Nat.succ_le_succ lw
        | false => exact iteF ⟨B4, k3.trans k4, ws, jl, hD4, pw4, hjl, Nat.le_succ_of_le lw⟩
      · rintro H2 ⟨B3, k3, ws, jl, hD2, pw, hjl, lw⟩
        rw [List.length_map] at lw
        have nr := (B.ne r0)
        have hr3 : H2 r = some (.lst vs) := k3 _ _ nr.1 nr.2 (su _ _ hr2)
        refine ⟨r, D, vs, ws, rfl, rfl, hr3, hD2, Nat.le_trans (show vs.length + ws.length ≤ 16 by omega) (by decide), fun q hq => ?_⟩
        have s3 := Same.new (o := .lst (vs ++ ws)) hq
        have kk : Keep a b (upd (upd H p (.lst [])) g (.lst (ys.map V.str))) (upd H2 q (.lst (vs ++ ws))) := (kp.trans (Keep.same su)).trans (k3.trans (Keep.same s3))
        have q0 : H q = none := by
          cases e : H q with
          | none => rfl
          | some o =>
            by_cases h1 : q = a
            · subst h1
              obtain ⟨_, _, _, e2, _⟩ := B3
              rw [e2] at hq; cases hq
            · by_cases h2 : q = b
              · subst h2
                obtain ⟨_, _, _, _, e2, _⟩ := B3
                rw [e2] at hq; cases hq
              · rw [((kp.trans (Keep.same su)).trans k3) _ _ h1 h2 (s1 _ _ (s0 _ _ e))] at hq; cases hq
        refine ⟨q, _, _, vs ++ ws, il ++ jl, rfl, B3.same s3, kk, q0, upd_same, ?_, ?_, by rw [List.length_append]; omega⟩
        · exact pair_app (fl_mono (fun _ _ z => ((KeepN.of su).trans ((k3.n Bu).trans (KeepN.of s3))).t z) pv) (fl_mono (fun _ _ z => (KeepN.of s3).t z) pw)
        · intro q' m
          rcases List.mem_append.mp m with m | m
          · exact hil q' m
          · obtain ⟨e1, e2⟩ := hjl q' m
            exact ⟨fs, by rw [e1]; exact lk, e2⟩
    · rintro σ H1 ⟨r, v3, v4, vs, il, rfl, B2, kp, r0, hr2, pv, hil, lv⟩
      have le : il.length ≤ 12 := by rw [← Paired.length pv]; omega
      refine ⟨_, rfl, k r H1 il B2 ?_ r0 ⟨vs, hr2, pv, fun q m => ?_⟩ hil le⟩
      · exact (Keep.same s0).trans ((Keep.same s1).trans kp)
      · exact insh_ok I (hil q m)
end
end K06

set_option maxHeartbeats 1000000
namespace K06
open PySem L2

abbrev sAnd : Str := Str.ofString "and"
abbrev sOr : Str := Str.ofString "or"
/-- the comparisons that must be true -/
def parts : Tr → List Tr
  | .bin op l r => if op = sAnd then parts l ++ parts r else if op = sOr then [] else [.bin op l r]
  | _ => []
def partsO : Option Tr → List Tr
  | none => []
  | some t => parts t
theorem parts_len : ∀ t : Tr, (parts t).length ≤ 2 ^ t.depth
  | .num _ => Nat.zero_le _
  | .field _ _ => Nat.zero_le _
  | .not _ => Nat.zero_le _
  | .bin op l r => by
    have h1 := parts_len l
    have h2 := parts_len r
    have e1 : 2 ^ l.depth ≤ 2 ^ (max l.depth r.depth) := Nat.pow_le_pow_right (by decide) (Nat.le_max_left ..)
    have e2 : 2 ^ r.depth ≤ 2 ^ (max l.depth r.depth) := Nat.pow_le_pow_right (by decide) (Nat.le_max_right ..)
    have e3 : 2 ^ (max l.depth r.depth + 1) = 2 ^ (max l.depth r.depth) + 2 ^ (max l.depth r.depth) := by rw [Nat.pow_succ]; omega
    have e4 : 1 ≤ 2 ^ (max l.depth r.depth) := Nat.one_le_two_pow
    show (if op = sAnd then parts l ++ parts r else if op = sOr then [] else [.bin op l r]).length ≤ 2 ^ (max l.depth r.depth + 1)
    split
    · rw [List.length_append]; omega
    · split
      · exact Nat.zero_le _
      · show 1 ≤ _
        omega
theorem parts_and (l r : Tr) : parts (.bin sAnd l r) = parts l ++ parts r := by
  show (if sAnd = sAnd then parts l ++ parts r else _) = _
  rw [if_pos rfl]
theorem parts_eq (l r : Tr) : parts (.bin (Str.ofString "=") l r) = [.bin (Str.ofString "=") l r] := by
  show (if Str.ofString "=" = sAnd then parts l ++ parts r else if Str.ofString "=" = sOr then [] else [.bin (Str.ofString "=") l r]) = _
  rw [if_neg (by decide +kernel), if_neg (by decide +kernel)]
def CondAt (K : PySem.W.Frag) (H : Hp) (v : V) : Option Tr → Prop
  | none => v = .non
  | some t => TrAt K H v t
theorem CondAt.keep {K : PySem.W.Frag} {H H' : Hp} (k : KeepN H H') {v : V} {c : Option Tr} (h : CondAt K H v c) : CondAt K H' v c := by
  cases c with
  | none => exact h
  | some t => exact TrAt.keep k h
/-- a condition of such fields, or none, so deep at most -/
def CdIn (fl : List (Str × Str)) (n : Nat) : Option Tr → Prop
  | none => True
  | some t => IsCd fl t ∧ t.depth ≤ n ∧ (parts t).length ≤ 27 + n
/-- a question's tree: its tables, its condition -/
def AskAt (K : PySem.W.Frag) (H : Hp) (v : V) (ts : List Str) (c : Option Tr) : Prop := ∃ (p tt : Addr) (x0 x1 x2 cv x5 x6 : V), v = .ref p ∧ SqT K H p [x0, x1, x2, .ref tt, cv, x5, x6] ∧ SqT K H tt (ts.map V.str) ∧ CondAt K H cv c
theorem AskAt.keep {K : PySem.W.Frag} {H H' : Hp} (k : KeepN H H') {v : V} {ts : List Str} {c : Option Tr} (h : AskAt K H v ts c) : AskAt K H' v ts c := by
  obtain ⟨p, tt, x0, x1, x2, cv, x5, x6, e, h1, h2, h3⟩ := h
  exact ⟨p, tt, x0, x1, x2, cv, x5, x6, e, k.t h1, k.t h2, h3.keep k⟩
def TsOk (sh : List (Str × List Str)) (ts : List Str) : Prop := ts ≠ [] ∧ ts.Nodup ∧ ts.length ≤ 3 ∧ ∀ t ∈ ts, t ∈ sh.map (·.1)
def spLinked (K : PySem.W.Frag) : Sp := fun vs H Q _ => ∃ (a b d : Addr) (v : V) (sh : List (Str × List Str)) (ts : List Str) (c : Option Tr), vs = [.ref a, v, .ref d] ∧ HAt H a b ∧ AskAt K H v ts c ∧ TsOk sh ts ∧ ShapesAt K H d sh ∧ IsShapes sh ∧ CdIn (flOf sh ts) 5 c ∧
  ∀ (v' : V) (H' : Hp) (c' : Option Tr), HAt H' a b → Keep a b H H' → AskAt K H' v' ts c' → CdIn (flOf sh ts) 8 c' → Q v' H'
theorem CdIn.mono {fl : List (Str × Str)} {n m : Nat} {c : Option Tr} (h : CdIn fl n c) (le : n ≤ m) : CdIn fl m c := by
  cases c with
  | none => trivial
  | some t => exact ⟨h.1, Nat.le_trans h.2.1 le, Nat.le_trans h.2.2 (Nat.add_le_add_left le _)⟩
theorem fl_in {sh : List (Str × List Str)} {ts : List Str} {t f : Str} (ht : t ∈ ts) (h : InSh sh (t, f)) : (t, f) ∈ flOf sh ts := by
  obtain ⟨fs, e, m⟩ := h
  refine List.mem_flatMap.mpr ⟨t, ht, ?_⟩
  have e : sh.lookup t = some fs := e
  rw [e]
  exact List.mem_map.mpr ⟨f, m, rfl⟩
section
variable {P : Program} {w : World} {K : PySem.W.Frag} {mg : Str → Option Value} {base : Heap}
/-- a field of a table: ("field", table, shapes[table][next(h, len(shapes[table]))]) -/
theorem te_pick {σ : L2.St} {H : Hp} {Q : VK} {a b d : Addr} {sh : List (Str × List Str)} {t : Str} {j : Nat} (h0 : σ[0]? = some (some (.ref a))) (h2 : σ[2]? = some (some (.ref d))) (hj : σ[j]? = some (some (.str t))) (B : HAt H a b) (S : ShapesAt K H d sh) (I : IsShapes sh) (ht : t ∈ sh.map (·.1))
    (k : ∀ (v : V) (f : Str) (H' : Hp), HAt H' a b → Keep a b H H' → TrAt K H' v (.field t f) → InSh sh (t, f) → Q v H') :
    tTup (tCons (tC (V.str (Str.ofString "field"))) (tCons (tVar j) (tCons (tOp (rIxT K) (tDGet (tVar 2) (tVar j)) (tCall spNext [] E0 (tCons (tVar 0) (tCons (tCB (RK.rLenQ K) (tCons (tDGet (tVar 2) (tVar j)) tNil)) tNil)))) tNil))) σ H Q := by
  obtain ⟨kvs, hd, pr⟩ := id S
  obtain ⟨fs, m, lk, m1, m4, efs⟩ := sh_look I ht
  rcases pr_look t pr with ⟨e1, _⟩ | ⟨x, v, e1, e2, p, rfl, hp⟩
  · rw [lk] at e1
    cases e1
  obtain rfl : fs = x := by rw [lk] at e1; exact Option.some.inj e1
  have lf : 1 ≤ fs.length ∧ fs.length ≤ 4 := by rw [efs, List.length_take]; show 1 ≤ min m 4 ∧ min m 4 ≤ 4; omega
  have lm : (fs.map V.str).length = fs.length := List.length_map ..
  refine ⟨_, hj, _, h2, _, hj, d, _, rfl, .inl ⟨kvs, .inr t, .inl hd, rfl, e2.symm⟩, _, h0, _, h2, _, hj, d, _, rfl, .inl ⟨kvs, .inr t, .inl hd, rfl, e2.symm⟩, p, _, rfl, .inr hp, a, b, _, rfl, by omega, by omega, B, fun r H2 r0 r1 B2 kp2 => ?_⟩
  have hr : r.toNat < fs.length := by omega
  refine ⟨p, _, r, .str fs[r.toNat], rfl, rfl, (kp2.n B).t hp, atI_of r0 (by rw [List.getElem?_map, List.getElem?_eq_getElem hr]; rfl), (by show 3 ≤ sizeLine; decide), fun q hq => ?_⟩
  have s3 := Same.new (o := .tup [.str (Str.ofString "field"), .str t, .str fs[r.toNat]]) hq
  exact k _ _ _ (B2.same s3) (kp2.trans (Keep.same s3)) ⟨q, rfl, SqT.of upd_same⟩ ⟨fs, lk, List.getElem_mem hr⟩
theorem tr_ne {H : Hp} {v : V} {t : Tr} (h : TrAt K H v t) : v ≠ V.non := by
  cases t with
  | num n => obtain ⟨p, rfl, _⟩ := h; exact fun e => nomatch e
  | field t f => obtain ⟨p, rfl, _⟩ := h; exact fun e => nomatch e
  | bin o l r => obtain ⟨p, _, _, rfl, _⟩ := h; exact fun e => nomatch e
  | not x => obtain ⟨p, _, rfl, _⟩ := h; exact fun e => nomatch e
/-- a or b, as it falls -/
theorem te_coin {n m : Int} (n0 : 0 < n) (n1 : n < 1000000) {σ : L2.St} {H : Hp} {Q : VK} {a b : Addr} {u w : TE} (h0 : σ[0]? = some (some (.ref a))) (B : HAt H a b) (k : ∀ H', HAt H' a b → Keep a b H H' → u σ H' Q ∧ w σ H' Q) :
    tIf (tTest (tOp rEq (tCall spNext [] E0 (tCons (tVar 0) (tCons (tC (V.int n)) tNil))) (tC (V.int m)))) u w σ H Q := by
  refine ⟨_, h0, a, b, n, rfl, n0, n1, B, fun z H' z0 z1 B' kp => ⟨rfl, _, rfl, ?_⟩⟩
  generalize decide (V.int z = V.int m) = bz
  cases bz with
  | true => exact iteT (k H' B' kp).1
  | false => exact iteF (k H' B' kp).2
/-- a table: tables[next(h, len(tables))] -/
theorem te_tab {σ : L2.St} {H : Hp} {Q : VK} {a b tt : Addr} {ts : List Str} {j : Nat} (h0 : σ[0]? = some (some (.ref a))) (hj : σ[j]? = some (some (.ref tt))) (B : HAt H a b) (ht : SqT K H tt (ts.map V.str)) (ne : ts ≠ []) (few : ts.length ≤ 3)
    (k : ∀ (t : Str) (H' : Hp), t ∈ ts → HAt H' a b → Keep a b H H' → Q (.str t) H') :
    tOp (rIxT K) (tVar j) (tCall spNext [] E0 (tCons (tVar 0) (tCons (tCB (RK.rLenQ K) (tCons (tVar j) tNil)) tNil))) σ H Q := by
  have lm : (ts.map V.str).length = ts.length := List.length_map ..
  have pos := List.length_pos_iff.mpr ne
  refine ⟨_, hj, _, h0, _, hj, tt, _, rfl, .inr ht, a, b, _, rfl, by omega, by omega, B, fun r H2 r0 r1 B2 kp2 => ?_⟩
  have hr : r.toNat < ts.length := by omega
  exact ⟨tt, _, r, .str ts[r.toNat], rfl, rfl, (kp2.n B).t ht, atI_of r0 (by rw [List.getElem?_map, List.getElem?_eq_getElem hr]; rfl), k _ _ (List.getElem_mem hr) B2 kp2⟩
theorem scLinked : FnScope ["_law_h", "_law_tree", "_law_shapes_here", "_law_cond_here", "_law_tables", "_law_k", "_law_one", "_law_other", "_law_left", "_law_right", "_law_far", "_law_part"] ["_law_h", "_law_tree", "_law_shapes_here"] (defScope sLlinked) := ⟨rfl, rfl, rfl, by decide +kernel, rfl, by decide +kernel, by decide +kernel⟩
theorem ok_linked {f fn : Addr} {fd fdn : FuncData} (F : Fun K "_law_linked" "_law_linked" sLlinked f fd) (T : Txt6 mg) (Cnext : Cal P w K mg base 1 "_law_next" ["_law_h", "_law_many"] spNext fn fdn) : FnOk P w K mg base CX0 2 f fd ["_law_h", "_law_tree", "_law_shapes_here"] (spLinked K) := by
  refine F.ok scLinked (fun vs H Q E h => ?_) (fun cdv A outer s H vs Q E hr h => ?_)
  · obtain ⟨a, b, d, v, sh, ts, c, rfl, _⟩ := h
    rfl
  · obtain ⟨a, b, d, v, sh, ts, c, rfl, B, A0, tk, S, I, hc, k⟩ := h
    have hr1 : Room 1 _ := hr.mono (by decide)
    refine ⟨_, (pss_cons (ps_par (i := 3) (j := 4) (by rfl) scLinked.nd rfl rfl (by decide) rfl rfl (pa_cons (pe_ix (RK.ixT (K := K)) (pv 1) pe_int (fun _ _ => rfl)) (pa_cons (pe_ix (RK.ixT (K := K)) (pv 1) pe_int (fun _ _ => rfl)) pa_nil)) (by rfl))
      (pss_cons (ps_for PassesOwn.never rfl (pi_range1 rfl T.range (pa_cons (pe_call Cnext.G hr1 rfl Cnext.g Cnext.kp Cnext.b .nil pass0 (pa_cons (pv 0) (pa_cons pe_int pa_nil))) pa_nil)) (pg_name (i := 5) scLinked.nd rfl (Or.inl rfl))
        (pss_cons (ps_par (i := 6) (j := 7) (by rfl) scLinked.nd rfl rfl (by decide) rfl rfl (pa_cons (pe_ix (RK.ixT (K := K)) (pv 4) (pe_call Cnext.G hr1 rfl Cnext.g Cnext.kp Cnext.b .nil pass0 (pa_cons (pv 0) (pa_cons (pe_callB (RK.lenQ (K := K)) (by rfl) T.len PySem.boot_len (pa_cons (pv 4) pa_nil)) pa_nil))) (fun _ _ => rfl)) (pa_cons (pe_ix (RK.ixT (K := K)) (pv 4) (pe_call Cnext.G hr1 rfl Cnext.g Cnext.kp Cnext.b .nil pass0 (pa_cons (pv 0) (pa_cons (pe_callB (RK.lenQ (K := K)) (by rfl) T.len PySem.boot_len (pa_cons (pv 4) pa_nil)) pa_nil))) (fun _ _ => rfl)) pa_nil)) (by rfl))
        (pss_cons (ps_set (i := 8) scLinked.nd rfl (Or.inl rfl) (pe_tup (pa_cons pe_str (pa_cons (pv 6) (pa_cons (pe_ix (RK.ixT (K := K)) (pe_dget (hu_of hr) (pv 2) (pv 6) (fun _ _ => rfl)) (pe_call Cnext.G hr1 rfl Cnext.g Cnext.kp Cnext.b .nil pass0 (pa_cons (pv 0) (pa_cons (pe_callB (RK.lenQ (K := K)) (by rfl) T.len PySem.boot_len (pa_cons (pe_dget (hu_of hr) (pv 2) (pv 6) (fun _ _ => rfl)) pa_nil)) pa_nil))) (fun _ _ => rfl)) pa_nil)))))
        (pss_cons (ps_set (i := 9) scLinked.nd rfl (Or.inl rfl) (pe_tup (pa_cons pe_str (pa_cons (pv 7) (pa_cons (pe_ix (RK.ixT (K := K)) (pe_dget (hu_of hr) (pv 2) (pv 7) (fun _ _ => rfl)) (pe_call Cnext.G hr1 rfl Cnext.g Cnext.kp Cnext.b .nil pass0 (pa_cons (pv 0) (pa_cons (pe_callB (RK.lenQ (K := K)) (by rfl) T.len PySem.boot_len (pa_cons (pe_dget (hu_of hr) (pv 2) (pv 7) (fun _ _ => rfl)) pa_nil)) pa_nil))) (fun _ _ => rfl)) pa_nil)))))
        (pss_cons (ps_set (i := 10) scLinked.nd rfl (Or.inl rfl) (pe_ifExp (pt_cmpR op_eq (pe_call Cnext.G hr1 rfl Cnext.g Cnext.kp Cnext.b .nil pass0 (pa_cons (pv 0) (pa_cons pe_int pa_nil))) pe_int (nomark _)) (pe_tup (pa_cons pe_str (pa_cons (pe_ix (RK.ixT (K := K)) (pv 4) pe_int (fun _ _ => rfl)) (pa_cons (pe_ix (RK.ixT (K := K)) (pe_dget (hu_of hr) (pv 2) (pe_ix (RK.ixT (K := K)) (pv 4) pe_int (fun _ _ => rfl)) (fun _ _ => rfl)) pe_int (fun _ _ => rfl)) pa_nil)))) (pe_tup (pa_cons pe_str (pa_cons (pe_call Cnext.G hr1 rfl Cnext.g Cnext.kp Cnext.b .nil pass0 (pa_cons (pv 0) (pa_cons pe_int pa_nil))) pa_nil)))))
        (pss_cons (ps_set (i := 9) scLinked.nd rfl (Or.inl rfl) (pe_ifExp (pt_cmpR op_eq (pe_call Cnext.G hr1 rfl Cnext.g Cnext.kp Cnext.b .nil pass0 (pa_cons (pv 0) (pa_cons pe_int pa_nil))) pe_int (nomark _)) (pe_tup (pa_cons pe_str (pa_cons (pv 9) (pa_cons (pv 10) pa_nil)))) (pv 9)))
        (pss_cons (ps_set (i := 11) scLinked.nd rfl (Or.inl rfl) (pe_op (RK.catT (K := K)) (pe_tup (pa_cons pe_str pa_nil)) (pe_ifExp (pt_cmpR op_eq (pe_call Cnext.G hr1 rfl Cnext.g Cnext.kp Cnext.b .nil pass0 (pa_cons (pv 0) (pa_cons pe_int pa_nil))) pe_int (nomark _)) (pe_tup (pa_cons (pv 8) (pa_cons (pv 9) pa_nil))) (pe_tup (pa_cons (pv 9) (pa_cons (pv 8) pa_nil))))))
        (pss_one (ps_set (i := 3) scLinked.nd rfl (Or.inl rfl) (pe_ifExp (pt_cmpR op_isN (pv 3) pe_non (nomark _)) (pv 11) (pe_ifExp (pt_cmpR op_eq (pe_call Cnext.G hr1 rfl Cnext.g Cnext.kp Cnext.b .nil pass0 (pa_cons (pv 0) (pa_cons pe_int pa_nil))) pe_int (nomark _)) (pe_tup (pa_cons pe_str (pa_cons (pv 11) (pa_cons (pv 3) pa_nil)))) (pe_tup (pa_cons pe_str (pa_cons (pv 3) (pa_cons (pv 11) pa_nil)))))))))))))))
      (pss_one (ps_ret (pe_op (RK.catT (K := K)) (pe_op (RK.catT (K := K)) (pe_slice (RK.slT (K := K)) (pv 1) po_none (po_some pe_int)) (pe_tup (pa_cons (pv 3) pa_nil))) (pe_slice (RK.slT (K := K)) (pv 1) (po_some pe_int) po_none)))))), ?_⟩
    obtain ⟨p, tt, x0, x1, x2, cv, x5, x6, rfl, hp, htt, hcv⟩ := id A0
    obtain ⟨ne, nd, few, tin⟩ := tk
    refine ⟨_, rfl, p, _, 4, _, rfl, rfl, hp, rfl, _, rfl, p, _, 3, _, rfl, rfl, hp, rfl, _, _, rfl, _, rfl, a, b, 3, rfl, by decide, by decide, B, fun cnt H1 c0 c3 B1 kp1 => ?_⟩
    refine ⟨_, rfl, by omega, by omega, for_range (lo := 0) (n := cnt.toNat) (fun i σ H' => ∃ (cv' : V) (c' : Option Tr) (v5 v6 v7 v8 v9 v10 v11 : Option V), σ = [some (.ref a), some (.ref p), some (.ref d), some cv', some (.ref tt), v5, v6, v7, v8, v9, v10, v11] ∧ HAt H' a b ∧ Keep a b H H' ∧ CondAt K H' cv' c' ∧ CdIn (flOf sh ts) (5 + i) c')
      ⟨cv, c, _, _, _, _, _, _, _, rfl, B1, kp1, hcv.keep (kp1.n B), hc⟩ ?_ ?_⟩
    · rintro i σ H2 hi ⟨cv', c', v5, v6, v7, v8, v9, v10, v11, rfl, B2, kp2, C2, hc2⟩
      have htt2 := (kp2.n B).t htt
      refine te_tab (K := K) (ts := ts) rfl rfl B2 htt2 ne few fun one H3 m1 B3 kp3 => ?_
      refine te_tab (K := K) (ts := ts) rfl rfl B3 ((kp3.n B2).t htt2) ne few fun oth H4 m2 B4 kp4 => ?_
      have kp04 := kp2.trans (kp3.trans kp4)
      refine ⟨_, _, rfl, ?_⟩
      have S4 := S.keep (kp04.n B)
      try dsimp only
      refine sa1 ?_
      refine te_pick (K := K) (sh := sh) (t := one) rfl rfl rfl B4 S4 I (tin _ m1) fun vl f1 H5 B5 kp5 T5 i5 => ?_
      refine gn ?_
      have S5 := S4.keep (kp5.n B4)
      try dsimp only
      refine sa1 ?_
      refine te_pick (K := K) (sh := sh) (t := oth) rfl rfl rfl B5 S5 I (tin _ m2) fun vr f2 H6 B6 kp6 T6 i6 => ?_
      refine gn ?_
      have S6 := S5.keep (kp6.n B5)
      have kp06 := kp04.trans (kp5.trans kp6)
      have htt6 := (kp06.n B).t htt
      -- what the right side is made with
      have far : ∀ (Q' : VK), (∀ (v : V) (t : Tr) (H' : Hp), HAt H' a b → Keep a b H6 H' → TrAt K H' v t → IsTm (flOf sh ts) t → t.depth = 0 → Q' v H') →
          ∀ (σ : L2.St), σ[0]? = some (some (.ref a)) → σ[2]? = some (some (.ref d)) → σ[4]? = some (some (.ref tt)) → tIf (tTest (tOp rEq (tCall spNext [] E0 (tCons (tVar 0) (tCons (tC (V.int 2)) tNil))) (tC (V.int 0))))
            (tTup (tCons (tC (V.str (Str.ofString "field"))) (tCons (tOp (rIxT K) (tVar 4) (tC (V.int 0))) (tCons (tOp (rIxT K) (tDGet (tVar 2) (tOp (rIxT K) (tVar 4) (tC (V.int 0)))) (tC (V.int 0))) tNil))))
            (tTup (tCons (tC (V.str (Str.ofString "num"))) (tCons (tCall spNext [] E0 (tCons (tVar 0) (tCons (tC (V.int 3)) tNil))) tNil))) σ H6 Q' := fun Q' k' σ h0 h2 h4 => by
        obtain ⟨t0, rest, ets⟩ := List.exists_cons_of_ne_nil ne
        have m0 : t0 ∈ ts := by rw [ets]; exact List.mem_cons_self
        have at0 : atI (ts.map V.str) 0 = some (.str t0) := atI_of (by decide) (by rw [ets]; rfl)
        refine te_coin (by decide) (by decide) h0 B6 fun H7 B7 kp7 => ⟨?_, ?_⟩
        · obtain ⟨kvs, hd, pr⟩ := S6.keep (kp7.n B6)
          obtain ⟨fs, m, lk, n1, n4, efs⟩ := sh_look I (tin _ m0)
          rcases pr_look t0 pr with ⟨e1, _⟩ | ⟨x, v, e1, e2, u, rfl, hu⟩
          · rw [lk] at e1
            cases e1
          obtain rfl : fs = x := by rw [lk] at e1; exact Option.some.inj e1
          obtain ⟨f0, at1, mf⟩ : ∃ f0, atI (fs.map V.str) 0 = some (.str f0) ∧ f0 ∈ fs := by
            have h : m = 1 ∨ m = 2 ∨ m = 3 ∨ m = 4 := by omega
            rcases h with rfl | rfl | rfl | rfl <;> rw [efs] <;> exact ⟨_, rfl, List.mem_cons_self⟩
          have ht7 := (kp7.n B6).t htt6
          refine ⟨_, h4, tt, _, 0, .str t0, rfl, rfl, ht7, at0, _, h2, _, h4, tt, _, 0, .str t0, rfl, rfl, ht7, at0, d, _, rfl, .inl ⟨kvs, .inr t0, .inl hd, rfl, e2.symm⟩, u, _, 0, .str f0, rfl, rfl, hu, at1, (by show 3 ≤ sizeLine; decide), fun q hq => ?_⟩
          have s8 := Same.new (o := .tup [.str (Str.ofString "field"), .str t0, .str f0]) hq
          exact k' _ (.field t0 f0) _ (B7.same s8) (kp7.trans (Keep.same s8)) ⟨q, rfl, SqT.of upd_same⟩ (.field (fl_in m0 ⟨fs, lk, mf⟩)) rfl
        · refine ⟨_, h0, a, b, 3, rfl, by decide, by decide, B7, fun z H8 z0 z3 B8 kp8 => ⟨(by show 2 ≤ sizeLine; decide), fun q hq => ?_⟩⟩
          have s8 := Same.new (o := .tup [.str (Str.ofString "num"), .int z]) hq
          exact k' _ (.num z) _ (B8.same s8) (kp7.trans (kp8.trans (Keep.same s8))) ⟨q, rfl, SqT.of upd_same⟩ (.num (by omega) (by omega)) rfl
      try dsimp only
      refine sa1 ?_
      refine far _ (fun vf tf H7 B7 kp7 T7 i7 d7 => ?_) _ rfl rfl rfl
      refine gn ?_
      try dsimp only
      refine sa1 ?_
      have kp07 := kp06.trans kp7
      have Il : IsTm (flOf sh ts) (.field one f1) := .field (fl_in m1 i5)
      have Ir : IsTm (flOf sh ts) (.field oth f2) := .field (fl_in m2 i6)
      have T5' := (T5.keep (kp6.n B5)).keep (kp7.n B6)
      have T6' := T6.keep (kp7.n B6)
      -- the rest, whatever the right side is
      have rest : ∀ (vr' : V) (tr' : Tr) (H8 : Hp), HAt H8 a b → Keep a b H7 H8 → TrAt K H8 vr' tr' → IsTm (flOf sh ts) tr' → tr'.depth ≤ 1 → ∀ (Qn : L2.St → Hp → Prop) (rt bk ct), (∀ (cv2 : V) (c2 : Option Tr) (v5 v6 v7 v8 v9 v10 v11 : Option V) (H' : Hp), HAt H' a b → Keep a b H H' → CondAt K H' cv2 c2 → CdIn (flOf sh ts) (5 + (i + 1)) c2 → Qn [some (.ref a), some (.ref p), some (.ref d), some cv2, some (.ref tt), v5, v6, v7, v8, v9, v10, v11] H') →
          ∀ v5 v6 v7 v10 v11, tSeq (tAsg (tOp (rCatA K) (tTup (tCons (tC (V.str (Str.ofString "="))) tNil)) (tIf (tTest (tOp rEq (tCall spNext [] E0 (tCons (tVar 0) (tCons (tC (V.int 2)) tNil))) (tC (V.int 0)))) (tTup (tCons (tVar 8) (tCons (tVar 9) tNil))) (tTup (tCons (tVar 9) (tCons (tVar 8) tNil))))) (gName 11))
            (tAsg (tIf (tTest (tOp (fun x y H Q => y = V.non ∧ Q (V.bl (decide (x = V.non))) H) (tVar 3) (tC V.non))) (tVar 11)
              (tIf (tTest (tOp rEq (tCall spNext [] E0 (tCons (tVar 0) (tCons (tC (V.int 2)) tNil))) (tC (V.int 0)))) (tTup (tCons (tC (V.str (Str.ofString "and"))) (tCons (tVar 11) (tCons (tVar 3) tNil)))) (tTup (tCons (tC (V.str (Str.ofString "and"))) (tCons (tVar 3) (tCons (tVar 11) tNil)))))) (gName 3))
            { nx := Qn, rt := rt, bk := bk, ct := ct } [some (.ref a), some (.ref p), some (.ref d), some cv', some (.ref tt), v5, v6, v7, some vl, some vr', v10, v11] H8 := by
        intro vr' tr' H8 B8 kp8 T8 I8 d8 Qn rt bk ct kk v5 v6 v7 v10 v11
        refine sa1 ?_
        refine ⟨(by show 1 ≤ sizeLine; decide), fun pe hpe => ?_⟩
        have s9 := Same.new (o := .tup [.str (Str.ofString "=")]) hpe
        have kp09 := kp07.trans (kp8.trans (Keep.same s9))
        have C9 := (C2.keep ((kp3.trans (kp4.trans (kp5.trans (kp6.trans (kp7.trans (kp8.trans (Keep.same s9))))))).n B2))
        have Tl := (T5'.keep (kp8.n B7)).keep (KeepN.of s9)
        have Tq := T8.keep (KeepN.of s9)
        have fin : ∀ (x y : V) (tx ty : Tr) (Ha : Hp), HAt Ha a b → Keep a b (upd H8 pe (.tup [.str (Str.ofString "=")])) Ha → TrAt K Ha x tx → TrAt K Ha y ty → IsTm (flOf sh ts) tx → IsTm (flOf sh ts) ty → tx.depth ≤ 1 → ty.depth ≤ 1 → ∀ pp, Ha pp = some (.tup [x, y]) →
            rCatA K (.ref pe) (.ref pp) Ha fun x H1 => gName 11 x [some (.ref a), some (.ref p), some (.ref d), some cv', some (.ref tt), v5, v6, v7, some vl, some vr', v10, v11] H1
              ((tAsg (tIf (tTest (tOp (fun x y H Q => y = V.non ∧ Q (V.bl (decide (x = V.non))) H) (tVar 3) (tC V.non))) (tVar 11)
                (tIf (tTest (tOp rEq (tCall spNext [] E0 (tCons (tVar 0) (tCons (tC (V.int 2)) tNil))) (tC (V.int 0)))) (tTup (tCons (tC (V.str (Str.ofString "and"))) (tCons (tVar 11) (tCons (tVar 3) tNil)))) (tTup (tCons (tC (V.str (Str.ofString "and"))) (tCons (tVar 3) (tCons (tVar 11) tNil)))))) (gName 3)) { nx := Qn, rt := rt, bk := bk, ct := ct }) := by
          intro x y tx ty Ha Ba ka Tx Ty Ix Iy dx dy pp hpp
          have hpe2 : SqT K Ha pe [.str (Str.ofString "=")] := (ka.n (B8.same s9)).t (SqT.of upd_same)
          refine ⟨pe, pp, _, _, rfl, rfl, hpe2, SqT.of hpp, (by show 1 + 2 ≤ sizeLine; decide), (fun z => by cases z), (fun _ z => by cases z), fun _ _ pq hpq => ?_⟩
          have sb := Same.new (o := .tup ([V.str (Str.ofString "=")] ++ [x, y])) hpq
          have Bb := Ba.same sb
          have kp0b := kp09.trans (ka.trans (Keep.same sb))
          have Cb := C9.keep ((ka.n (B8.same s9)).trans (KeepN.of sb))
          have Tp : TrAt K (upd Ha pq (.tup ([V.str (Str.ofString "=")] ++ [x, y]))) (.ref pq) (.bin (Str.ofString "=") tx ty) := ⟨pq, x, y, rfl, SqT.of upd_same, Tx.keep (KeepN.of sb), Ty.keep (KeepN.of sb)⟩
          have Ip : IsCd (flOf sh ts) (.bin (Str.ofString "=") tx ty) := .cmp (by decide +kernel) Ix Iy
          have dp : (Tr.bin (Str.ofString "=") tx ty).depth ≤ 2 := by show max tx.depth ty.depth + 1 ≤ 2; omega
          refine gn ?_
          refine ⟨_, rfl, rfl, _, rfl, ?_⟩
          cases c' with
          | none =>
            obtain rfl : cv' = .non := C2
            exact iteT ⟨_, rfl, kk _ (some (.bin (Str.ofString "=") tx ty)) _ _ _ _ _ _ _ _ Bb kp0b Tp ⟨Ip, Nat.le_trans dp (by omega), by rw [parts_eq]; show 1 ≤ _; omega⟩⟩
          | some t =>
            have nn : decide (cv' = V.non) = false := decide_eq_false (tr_ne C2)
            rw [nn]
            refine iteF ?_
            obtain ⟨It, dt, pt⟩ := hc2
            refine te_coin (by decide) (by decide) rfl Bb fun Hc Bc kc => ⟨?_, ?_⟩
            · refine ⟨_, rfl, _, rfl, (by show 3 ≤ sizeLine; decide), fun pz hpz => ?_⟩
              have sd := Same.new (o := .tup [.str (Str.ofString "and"), .ref pq, cv']) hpz
              have kn := (kc.n Bb).trans (KeepN.of sd)
              exact kk _ (some (.bin (Str.ofString "and") _ t)) _ _ _ _ _ _ _ _ (Bc.same sd) (kp0b.trans (kc.trans (Keep.same sd))) ⟨pz, _, _, rfl, SqT.of upd_same, Tp.keep kn, TrAt.keep kn Cb⟩ ⟨.join (by decide +kernel) Ip It, by show max _ _ + 1 ≤ _; omega, by rw [show Str.ofString "and" = sAnd from rfl, parts_and, List.length_append, parts_eq]; show 1 + _ ≤ _; omega⟩
            · refine ⟨_, rfl, _, rfl, (by show 3 ≤ sizeLine; decide), fun pz hpz => ?_⟩
              have sd := Same.new (o := .tup [.str (Str.ofString "and"), cv', .ref pq]) hpz
              have kn := (kc.n Bb).trans (KeepN.of sd)
              exact kk _ (some (.bin (Str.ofString "and") t _)) _ _ _ _ _ _ _ _ (Bc.same sd) (kp0b.trans (kc.trans (Keep.same sd))) ⟨pz, _, _, rfl, SqT.of upd_same, TrAt.keep kn Cb, Tp.keep kn⟩ ⟨.join (by decide +kernel) It Ip, by show max _ _ + 1 ≤ _; omega, by rw [show Str.ofString "and" = sAnd from rfl, parts_and, List.length_append, parts_eq]; show _ + 1 ≤ _; omega⟩
        refine te_coin (by decide) (by decide) rfl (B8.same s9) fun Ha Ba ka => ⟨?_, ?_⟩
        · refine ⟨_, rfl, _, rfl, (by show 2 ≤ sizeLine; decide), fun pp hpp => ?_⟩
          have sc := Same.new (o := .tup [vl, vr']) hpp
          have kn := (ka.n (B8.same s9)).trans (KeepN.of sc)
          exact fin vl vr' _ _ _ (Ba.same sc) (ka.trans (Keep.same sc)) (Tl.keep kn) (Tq.keep kn) Il I8 (Nat.zero_le _) d8 pp upd_same
        · refine ⟨_, rfl, _, rfl, (by show 2 ≤ sizeLine; decide), fun pp hpp => ?_⟩
          have sc := Same.new (o := .tup [vr', vl]) hpp
          have kn := (ka.n (B8.same s9)).trans (KeepN.of sc)
          exact fin vr' vl _ _ _ (Ba.same sc) (ka.trans (Keep.same sc)) (Tq.keep kn) (Tl.keep kn) I8 Il d8 (Nat.zero_le _) pp upd_same
      have kk : ∀ (cv2 : V) (c2 : Option Tr) (v5 v6 v7 v8 v9 v10 v11 : Option V) (H' : Hp), HAt H' a b → Keep a b H H' → CondAt K H' cv2 c2 → CdIn (flOf sh ts) (5 + (i + 1)) c2 → ∃ (cv' : V) (c' : Option Tr) (w5 w6 w7 w8 w9 w10 w11 : Option V), [some (.ref a), some (.ref p), some (.ref d), some cv2, some (.ref tt), v5, v6, v7, v8, v9, v10, v11] = [some (.ref a), some (.ref p), some (.ref d), some cv', some (.ref tt), w5, w6, w7, w8, w9, w10, w11] ∧ HAt H' a b ∧ Keep a b H H' ∧ CondAt K H' cv' c' ∧ CdIn (flOf sh ts) (5 + (i + 1)) c' :=
        fun cv2 c2 v5 v6 v7 v8 v9 v10 v11 H' h1 h2 h3 h4 => ⟨cv2, c2, v5, v6, v7, v8, v9, v10, v11, rfl, h1, h2, h3, h4⟩
      refine te_coin (by decide) (by decide) rfl B7 fun H8 B8 kp8 => ⟨?_, ?_⟩
      · refine ⟨_, rfl, _, rfl, (by show 3 ≤ sizeLine; decide), fun pr hpr => ?_⟩
        have sr := Same.new (o := .tup [.str (Str.ofString "+"), vr, vf]) hpr
        have kn := (kp8.n B7).trans (KeepN.of sr)
        exact gn (rest _ (.bin (Str.ofString "+") (.field oth f2) tf) _ (B8.same sr) (kp8.trans (Keep.same sr)) ⟨pr, _, _, rfl, SqT.of upd_same, T6'.keep kn, T7.keep kn⟩ (.bin (by decide +kernel) Ir i7) (by show max 0 tf.depth + 1 ≤ 1; omega) _ _ _ _ kk _ _ _ _ _)
      · exact ⟨_, rfl, gn (rest _ _ _ B8 kp8 (T6'.keep (kp8.n B7)) Ir (Nat.zero_le _) _ _ _ _ kk _ _ _ _ _)⟩
    · rintro σ H2 ⟨cv', c', v5, v6, v7, v8, v9, v10, v11, rfl, B2, kp2, C2, hc2⟩
      have hp2 := (kp2.n B).t hp
      have htt2 := (kp2.n B).t htt
      refine ⟨_, rfl, _, rfl, p, _, rfl, hp2, fun hw => absurd (show HT.sIx 7 7 (some 4) = 7 from hw.2) (by decide), fun hw q hq => ?_⟩
      rw [show cutV [x0, x1, x2, V.ref tt, cv, x5, x6] none (some 4) = [x0, x1, x2, V.ref tt] from rfl] at *
      have s1 := Same.new (o := .tup [x0, x1, x2, V.ref tt]) hq
      refine ⟨_, rfl, (by show 1 ≤ sizeLine; decide), fun q2 hq2 => ?_⟩
      have s2 := Same.new (o := .tup [cv']) hq2
      refine ⟨q, q2, _, _, rfl, rfl, SqT.of (s2 _ _ upd_same), SqT.of upd_same, (by show 4 + 1 ≤ sizeLine; decide), (fun z => by cases z), (fun _ z => by cases z), fun _ _ q3 hq3 => ?_⟩
      have s3 := Same.new (o := .tup ([x0, x1, x2, V.ref tt] ++ [cv'])) hq3
      have s13 := s1.trans (s2.trans s3)
      refine ⟨_, rfl, _, rfl, p, _, rfl, (KeepN.of s13).t hp2, fun hw => absurd (show HT.sIx 7 0 (some 5) = 0 from hw.1) (by decide), fun hw q4 hq4 => ?_⟩
      rw [show cutV [x0, x1, x2, V.ref tt, cv, x5, x6] (some 5) none = [x5, x6] from rfl] at *
      have s4 := Same.new (o := .tup [x5, x6]) hq4
      refine ⟨q3, q4, _, _, rfl, rfl, SqT.of (s4 _ _ upd_same), SqT.of upd_same, (by show 5 + 2 ≤ sizeLine; decide), (fun z => by cases z), (fun _ z => by cases z), fun _ _ q5 hq5 => ?_⟩
      have s5 := Same.new (o := .tup (([x0, x1, x2, V.ref tt] ++ [cv']) ++ [x5, x6])) hq5
      have s15 := s13.trans (s4.trans s5)
      have kn := KeepN.of s15
      exact k _ _ c' (B2.same s15) (kp2.trans (Keep.same s15)) ⟨q5, tt, x0, x1, x2, cv', x5, x6, rfl, SqT.of upd_same, kn.t htt2, C2.keep kn⟩ (hc2.mono (by omega))
end
end K06

set_option maxHeartbeats 1000000
namespace K06
open PySem L2

def spAsk (K : PySem.W.Frag) : Sp := fun vs H Q _ => ∃ (a b d : Addr) (sh : List (Str × List Str)), vs = [.ref a, .ref d] ∧ HAt H a b ∧ ShapesAt K H d sh ∧ IsShapes sh ∧ 1 ≤ sh.length ∧
  ∀ (v' : V) (H' : Hp) (ts : List Str) (c' : Option Tr), HAt H' a b → Keep a b H H' → AskAt K H' v' ts c' → TsOk sh ts → CdIn (flOf sh ts) 5 c' → Q v' H'
theorem map_erase {α β : Type} (g : α → β) : ∀ (l : List α) (k : Nat), (l.map g).eraseIdx k = (l.eraseIdx k).map g
  | [], _ => rfl
  | _ :: _, 0 => rfl
  | x :: l, k + 1 => by
    show g x :: (l.map g).eraseIdx k = g x :: (l.eraseIdx k).map g
    rw [map_erase g l k]
theorem perm_erase {α : Type} : ∀ (l : List α) (k : Nat) (h : k < l.length), (l[k] :: l.eraseIdx k).Perm l
  | [], k, h => absurd h (Nat.not_lt_zero k)
  | x :: l, 0, _ => List.Perm.refl _
  | x :: l, k + 1, h => by
    have hk : k < l.length := Nat.lt_of_succ_lt_succ h
    have ih := perm_erase l k hk
    show (l[k] :: x :: l.eraseIdx k).Perm (x :: l)
    exact (List.Perm.swap x l[k] (l.eraseIdx k)).trans (ih.cons x)
section
variable {P : Program} {w : World} {K : PySem.W.Frag} {mg : Str → Option Value} {base : Heap}
/-- so many terms: none to three -/
theorem te_many {σ : L2.St} {H : Hp} {Q : VK} {a b : Addr} {how : Str} (h0 : σ[0]? = some (some (.ref a))) (h6 : σ[6]? = some (some (.str how))) (B : HAt H a b) (k : ∀ (n : Int) (H' : Hp), 0 ≤ n → n ≤ 3 → HAt H' a b → Keep a b H H' → Q (.int n) H') :
    tIf (tTest (tOp rEq (tVar 6) (tC (V.str (Str.ofString "pick"))))) (tOp (rI0 fun i j => V.int (i + j)) (tC (V.int 1)) (tCall spNext [] E0 (tCons (tVar 0) (tCons (tC (V.int 3)) tNil))))
      (tCB (fun xs H Q => (∃ i, xs = [V.int i] ∧ Q (V.int i) H) ∨ ∃ k, xs = [V.bl k] ∧ Q (V.int (if k = true then 1 else 0)) H) (tCons (tOp rNe (tVar 6) (tC (V.str (Str.ofString "count")))) tNil)) σ H Q := by
  refine ⟨_, h6, rfl, _, rfl, ?_⟩
  generalize decide (V.str how = V.str (Str.ofString "pick")) = bz
  cases bz with
  | true => exact iteT ⟨_, h0, a, b, 3, rfl, by decide, by decide, B, fun z H' z0 z3 B' kp => ⟨_, _, rfl, rfl, k _ _ (by omega) (by omega) B' kp⟩⟩
  | false =>
    refine iteF ⟨_, h6, rfl, .inr ⟨_, rfl, ?_⟩⟩
    generalize (!decide (V.str how = V.str (Str.ofString "count"))) = bw
    cases bw with
    | true => exact k 1 _ (by decide) (by decide) B (Keep.refl _ _ _)
    | false => exact k 0 _ (by decide) (by decide) B (Keep.refl _ _ _)
/-- a tuple of some terms -/
theorem te_terms {σ : L2.St} {H : Hp} {Q : VK} {a b l : Addr} {fl : List (Str × Str)} {dp : Int} {tn : TE} {x1 x2 x3 x4 x6 x7 x8 x9 x10 x11 : Option V} (hσ : σ = [some (.ref a), x1, x2, x3, x4, some (.ref l), x6, x7, x8, x9, x10, x11]) (d0 : 0 ≤ dp) (d3 : dp < 3) (B : HAt H a b) (Fl : FlAt K H l fl) (na : l ≠ a) (nb : l ≠ b) (h100 : fl.length ≤ 100)
    (htn : ∀ Q' : VK, (∀ (n : Int) (H' : Hp), 0 ≤ n → n ≤ 3 → HAt H' a b → Keep a b H H' → Q' (.int n) H') → tn σ H Q') (k : ∀ (t : Addr) (H' : Hp), HAt H' a b → Keep a b H H' → Q (.ref t) H') :
    tCB (RK.rTupQ K) (tCons (tLc (iRng1 (tCons tn tNil)) (gName 4) tYes (tCall (spTerm K 3) [] E0 (tCons (tVar 0) (tCons (tVar 5) (tCons (tC (V.int dp)) tNil)))) (List.map (fun x => x.snd) [(Str.ofString "_law_k", 4)])) tNil) σ H Q := by
  refine htn _ fun n H1 n0 n3 B1 kp1 => ⟨n, rfl, by omega, by omega, fun D hD => ?_⟩
  have nD := B1.ne hD
  have Fl1 := Fl.keep B kp1 na nb
  have kD : Keep a b H1 (upd H1 D (.lst [])) := Keep.same (Same.new hD)
  refine lc_range (lo := 0) (n := n.toNat) (fun i H' => HAt H' a b ∧ Keep a b H1 H' ∧ ∃ vs : List V, H' D = some (.lst vs) ∧ vs.length ≤ i) ⟨B1.upd nD, kD, [], upd_same, Nat.le_refl _⟩ ?_ ?_
  · rintro i H2 hi ⟨B2, k2, vs, hD2, lv⟩
    subst hσ
    refine ⟨rfl, _, rfl, _, rfl, a, b, l, fl, dp, rfl, d0, d3, B2, Fl1.keep B1 k2 na nb, na, nb, h100, fun v t H3 B3 k3 _ _ _ => ?_⟩
    have hD3 := k3 D _ nD.1 nD.2 hD2
    refine ⟨vs, hD3, Nat.lt_of_le_of_lt (show vs.length ≤ 3 by omega) (by decide), B3.upd nD, fun x o n1 n2 e => ?_, _, upd_same, by rw [List.length_append]; exact Nat.succ_le_succ lv⟩
    rw [upd_ne (ne_of_none e hD)]
    exact (k2.trans k3) _ _ n1 n2 e
  · rintro H2 ⟨B2, k2, vs, hD2, lv⟩
    refine ⟨D, vs, rfl, .inl ⟨SqL.of hD2, fun q hq => ?_⟩⟩
    have s := Same.new (o := .tup vs) hq
    exact k q _ (B2.same s) (kp1.trans (k2.trans (Keep.same s)))
/-- a condition, or none -/
theorem te_cnd {σ : L2.St} {H : Hp} {Q : VK} {a b l : Addr} {fl : List (Str × Str)} (h0 : σ[0]? = some (some (.ref a))) (h5 : σ[5]? = some (some (.ref l))) (B : HAt H a b) (Fl : FlAt K H l fl) (na : l ≠ a) (nb : l ≠ b) (h100 : fl.length ≤ 100)
    (k : ∀ (v : V) (c : Option Tr) (H' : Hp), HAt H' a b → Keep a b H H' → CondAt K H' v c → CdIn fl 5 c → Q v H') :
    tIf (tTest (tOp (rI0 fun i j => V.bl (decide (j < i))) (tCall spNext [] E0 (tCons (tVar 0) (tCons (tC (V.int 4)) tNil))) (tC (V.int 0)))) (tCall (spCond K 4) [] E0 (tCons (tVar 0) (tCons (tVar 5) (tCons (tC (V.int 3)) tNil)))) (tC V.non) σ H Q := by
  refine ⟨_, h0, a, b, 4, rfl, by decide, by decide, B, fun z H1 z0 z4 B1 kp1 => ⟨_, _, rfl, rfl, _, rfl, ?_⟩⟩
  generalize decide ((0 : Int) < z) = bz
  cases bz with
  | true =>
    refine iteT ⟨_, h0, _, h5, a, b, l, fl, 3, rfl, by decide, by decide, B1, Fl.keep B kp1 na nb, na, nb, h100, fun v t H2 B2 kp2 T2 I2 d2 => ?_⟩
    have d2 : t.depth ≤ 5 := d2
    exact k v (some t) H2 B2 (kp1.trans kp2) T2 ⟨I2, d2, Nat.le_trans (parts_len t) (Nat.pow_le_pow_right (by decide) d2)⟩
  | false => exact iteF (k _ none _ B1 kp1 rfl trivial)
theorem scAsk : FnScope ["_law_h", "_law_shapes_here", "_law_names", "_law_tables", "_law_k", "_law_fields", "_law_how", "_law_many", "_law_terms", "_law_cond_here", "_law_by", "_law_first"] ["_law_h", "_law_shapes_here"] (defScope sLask) := ⟨rfl, rfl, rfl, by decide +kernel, rfl, by decide +kernel, by decide +kernel⟩
theorem ok_ask {n : Nat} {f fn fs ft fc : Addr} {fd fdn fds fdt fdc : FuncData} (F : Fun K "_law_ask" "_law_ask" sLask f fd) (T : Txt6 mg) (Cnext : Cal P w K mg base n "_law_next" ["_law_h", "_law_many"] spNext fn fdn)
    (Csome : Cal P w K mg base n "_law_some" ["_law_h", "_law_shapes_here", "_law_tables"] (spSome K) fs fds) (Cterm : Cal P w K mg base n "_law_term" ["_law_h", "_law_fields", "_law_deep"] (spTerm K 3) ft fdt)
    (Ccond : Cal P w K mg base n "_law_cond" ["_law_h", "_law_fields", "_law_deep"] (spCond K 4) fc fdc) : FnOk P w K mg base CX0 (n + 1) f fd ["_law_h", "_law_shapes_here"] (spAsk K) := by
  refine F.ok scAsk (fun vs H Q E h => ?_) (fun cdv A outer s H vs Q E hr h => ?_)
  · obtain ⟨a, b, d, sh, rfl, _⟩ := h
    rfl
  · obtain ⟨a, b, d, sh, rfl, B, S, I, l1, k⟩ := h
    have hr1 : Room n _ := hr
    refine ⟨_, (pss_cons (ps_set (i := 2) scAsk.nd rfl (Or.inr rfl) (pe_callB (call_sortedD rfl) (by rfl) T.sorted (by decide +kernel) (pa_cons (pv 1) pa_nil)))
      (pss_cons (ps_setLc (i := 3) (own := [("_law_k", 4)]) rfl scAsk.nd rfl rfl (sw_true rfl rfl rfl (by decide +kernel)) (pi_range1 rfl T.range (pa_cons (pe_op op_add pe_int (pe_call Cnext.G hr1 (by rfl) Cnext.g Cnext.kp Cnext.b .nil pass0 (pa_cons (pv 0) (pa_cons (pe_callB (RK.lenQ (K := K)) (by rfl) T.len PySem.boot_len (pa_cons (pv 2) pa_nil)) pa_nil)))) pa_nil)) (blkOk_by (N := ["_law_h", "_law_shapes_here", "_law_names", "_law_tables", "_law_k", "_law_fields", "_law_how", "_law_many", "_law_terms", "_law_cond_here", "_law_by", "_law_first"]) (sc := defScope sLask) (by decide +kernel)) (fun _ _ _ _ _ => (pg_name (i := 4) scAsk.nd rfl (Or.inl rfl))) (fun _ _ _ _ _ => pts_nil) (fun _ _ _ _ _ => (RK.bm (K := K) PySem.F.plainAttrs_list PySem.F.slot_list_pop PySem.F.type_list_pop mt_popAt (pv 2) (pa_cons (pe_call Cnext.G hr1 (by rfl) Cnext.g Cnext.kp Cnext.b .nil pass0 (pa_cons (pv 0) (pa_cons (pe_callB (RK.lenQ (K := K)) (by rfl) T.len PySem.boot_len (pa_cons (pv 2) pa_nil)) pa_nil))) pa_nil))))
      (pss_cons (ps_set (i := 5) scAsk.nd rfl (Or.inr rfl) (pe_call Csome.G hr1 (by rfl) Csome.g Csome.kp Csome.b .nil pass0 (pa_cons (pv 0) (pa_cons (pv 1) (pa_cons (pv 3) pa_nil)))))
      (pss_cons (ps_set (i := 6) scAsk.nd rfl (Or.inl rfl) (pe_ix (RK.ixL (K := K)) (pe_lst (pa_cons pe_str (pa_cons pe_str (pa_cons pe_str (pa_cons pe_str (pa_cons pe_str (pa_cons pe_str (pa_cons pe_str pa_nil)))))))) (pe_call Cnext.G hr1 (by rfl) Cnext.g Cnext.kp Cnext.b .nil pass0 (pa_cons (pv 0) (pa_cons pe_int pa_nil))) (fun _ _ => rfl)))
      (pss_cons (ps_set (i := 7) scAsk.nd rfl (Or.inl rfl) (pe_ifExp (pt_cmpR op_eq (pv 6) pe_str (nomark _)) (pe_op op_add pe_int (pe_call Cnext.G hr1 (by rfl) Cnext.g Cnext.kp Cnext.b .nil pass0 (pa_cons (pv 0) (pa_cons pe_int pa_nil)))) (pe_callTy call_int1 (by rfl) T.int (by decide +kernel) (pa_cons (pe_cmpR op_ne (pv 6) pe_str (nomark _)) pa_nil))))
      (pss_cons (ps_set (i := 8) scAsk.nd rfl (Or.inl rfl) (pe_callTy (RK.tupQ (K := K)) (by rfl) T.tuple (by decide +kernel) (pa_cons (pe_lc (own := [("_law_k", 4)]) rfl scAsk.nd (pi_range1 rfl T.range (pa_cons (pv 7) pa_nil)) (blkOk_by (N := ["_law_h", "_law_shapes_here", "_law_names", "_law_tables", "_law_k", "_law_fields", "_law_how", "_law_many", "_law_terms", "_law_cond_here", "_law_by", "_law_first"]) (sc := defScope sLask) (by decide +kernel)) (fun _ _ _ _ _ => (pg_name (i := 4) scAsk.nd rfl (Or.inl rfl))) (fun _ _ _ _ _ => pts_nil) (fun _ _ _ _ _ => (pe_call Cterm.G hr1 (by rfl) Cterm.g Cterm.kp Cterm.b .nil pass0 (pa_cons (pv 0) (pa_cons (pv 5) (pa_cons pe_int pa_nil)))))) pa_nil)))
      (pss_cons (ps_set (i := 9) scAsk.nd rfl (Or.inl rfl) (pe_ifExp (pt_cmpR op_gt (pe_call Cnext.G hr1 (by rfl) Cnext.g Cnext.kp Cnext.b .nil pass0 (pa_cons (pv 0) (pa_cons pe_int pa_nil))) pe_int (nomark _)) (pe_call Ccond.G hr1 (by rfl) Ccond.g Ccond.kp Ccond.b .nil pass0 (pa_cons (pv 0) (pa_cons (pv 5) (pa_cons pe_int pa_nil)))) pe_non))
      (pss_cons (ps_asg (pe_tup (pa_cons (pe_tup pa_nil) (pa_cons pe_non pa_nil))) (RK.pgTup (K := K) (n := 2) rfl (pgs_cons (pg_name (i := 10) scAsk.nd rfl (Or.inl rfl)) (pgs_cons (pg_name (i := 11) scAsk.nd rfl (Or.inl rfl)) pgs_nil))))
      (pss_cons (ps_if (pt_cmpR op_eq (pv 6) pe_str (nomark _)) (pss_cons (ps_set (i := 10) scAsk.nd rfl (Or.inl rfl) (pe_callTy (RK.tupQ (K := K)) (by rfl) T.tuple (by decide +kernel) (pa_cons (pe_lc (own := [("_law_k", 4)]) rfl scAsk.nd (pi_range1 rfl T.range (pa_cons (pe_call Cnext.G hr1 (by rfl) Cnext.g Cnext.kp Cnext.b .nil pass0 (pa_cons (pv 0) (pa_cons pe_int pa_nil))) pa_nil)) (blkOk_by (N := ["_law_h", "_law_shapes_here", "_law_names", "_law_tables", "_law_k", "_law_fields", "_law_how", "_law_many", "_law_terms", "_law_cond_here", "_law_by", "_law_first"]) (sc := defScope sLask) (by decide +kernel)) (fun _ _ _ _ _ => (pg_name (i := 4) scAsk.nd rfl (Or.inl rfl))) (fun _ _ _ _ _ => pts_nil) (fun _ _ _ _ _ => (pe_call Cterm.G hr1 (by rfl) Cterm.g Cterm.kp Cterm.b .nil pass0 (pa_cons (pv 0) (pa_cons (pv 5) (pa_cons pe_int pa_nil)))))) pa_nil)))
        (pss_one (ps_set (i := 11) scAsk.nd rfl (Or.inl rfl) (pe_ix (RK.ixL (K := K)) (pe_lst (pa_cons pe_non (pa_cons (pe_call Cnext.G hr1 (by rfl) Cnext.g Cnext.kp Cnext.b .nil pass0 (pa_cons (pv 0) (pa_cons pe_int pa_nil))) pa_nil))) (pe_call Cnext.G hr1 (by rfl) Cnext.g Cnext.kp Cnext.b .nil pass0 (pa_cons (pv 0) (pa_cons pe_int pa_nil))) (fun _ _ => rfl))))) pss_nil)
      (pss_one (ps_ret (pe_tup (pa_cons pe_str (pa_cons (pv 6) (pa_cons (pv 8) (pa_cons (pe_callTy (RK.tupQ (K := K)) (by rfl) T.tuple (by decide +kernel) (pa_cons (pv 3) pa_nil)) (pa_cons (pv 9) (pa_cons (pv 10) (pa_cons (pv 11) pa_nil))))))))))))))))))), ?_⟩
    obtain ⟨kvs, hd, pr⟩ := id S
    have n64 : (sh.map (·.1)).length < 64 := by rw [List.length_map]; have := I.few; omega
    refine ⟨_, rfl, d, kvs, sh.map (·.1), rfl, Rd.of hd, pr_keys pr, n64, fun ys g perm _ hg => ?_⟩
    refine gn ?_
    have s1 := Same.new (o := .lst (ys.map V.str)) hg
    have B1 := B.same s1
    have ng := B.ne hg
    have hys : ∀ t ∈ ys, t ∈ sh.map (·.1) := fun t m => perm.mem_iff.mp m
    have ly : ys.length ≤ 3 ∧ 1 ≤ ys.length := by rw [perm.length_eq, List.length_map]; exact ⟨I.few, l1⟩
    have ndn : (sh.map (·.1)).Nodup := by
      rw [I.names]
      exact List.Sublist.nodup (List.take_sublist _ _) (by decide +kernel)
    have ndy : ys.Nodup := perm.nodup_iff.mpr ndn
    have lt : (ys.map V.str).length = ys.length := List.length_map ..
    try dsimp only
    refine sa1 ?_
    refine ⟨_, rfl, _, rfl, g, _, rfl, .inl (SqL.of upd_same), a, b, _, rfl, by omega, by omega, B1, fun m H2 m0 m1 B2 kp2 => ⟨_, _, rfl, rfl, _, rfl, by omega, by omega, fun D hD => ?_⟩⟩
    have kpg : Keep a b H (upd H g (.lst (ys.map V.str))) := Keep.same s1
    have kp02 : Keep a b H H2 := kpg.trans kp2
    have hg2 : H2 g = some (.lst (ys.map V.str)) := kp2 g _ ng.1 ng.2 upd_same
    have nD := B2.ne hD
    have ngD : g ≠ D := ne_of_none hg2 hD
    have hD0 : H D = none := by
      cases e : H D with
      | none => rfl
      | some o => rw [kp02 _ _ nD.1 nD.2 e] at hD; cases hD
    refine lc_range (lo := 0) (n := (1 + m).toNat) (fun i H' => HAt H' a b ∧ Keep a b H H' ∧ ∃ (ns ts : List Str), H' g = some (.lst (ns.map V.str)) ∧ H' D = some (.lst (ts.map V.str)) ∧ ts.length = i ∧ (ns ++ ts).Perm ys)
      ⟨B2.upd nD, fun x o n1 n2 e => by rw [upd_ne (ne_of_none e hD0)]; exact kp02 x o n1 n2 e, ys, [], by rw [upd_ne ngD]; exact hg2, upd_same, rfl, by rw [List.append_nil]⟩ ?_ ?_
    · rintro i H3 hi ⟨B3, k3, ns, ts, hg3, hD3, li, pm⟩
      have lns : ns.length + i = ys.length := by have q := pm.length_eq; rw [List.length_append, li] at q; exact q
      have lnm : (ns.map V.str).length = ns.length := List.length_map ..
      refine ⟨rfl, _, rfl, .inl ⟨rfl, _, SqL.of hg3⟩, _, rfl, _, rfl, g, _, rfl, .inl (SqL.of hg3), a, b, _, rfl, by omega, by omega, B3, fun z H4 z0 z1 B4 kp4 => ?_⟩
      have hz : z.toNat < ns.length := by omega
      have hg4 := kp4 g _ ng.1 ng.2 hg3
      have hD4 := kp4 D _ nD.1 nD.2 hD3
      have B5 : HAt (upd H4 g (.lst ((ns.map V.str).eraseIdx z.toNat))) a b := B4.upd ng
      have ez : (ns.map V.str).eraseIdx z.toNat = (ns.eraseIdx z.toNat).map V.str := map_erase _ _ _
      refine ⟨g, _, z, z.toNat, .str ns[z.toNat], rfl, rfl, hg4, by omega, by omega, ?_, by rw [List.getElem?_map, List.getElem?_eq_getElem hz]; rfl, ?_⟩
      · simp only [seqIndex?]
        rw [if_neg (by omega : ¬ z < 0), if_pos]
        rw [Bool.and_eq_true]
        exact ⟨decide_eq_true z0, decide_eq_true (by omega)⟩
      · refine ⟨ts.map V.str, by rw [upd_ne ngD.symm]; exact hD4, Nat.lt_of_le_of_lt (show (ts.map V.str).length ≤ 3 by rw [List.length_map]; omega) (by decide), B5.upd nD, fun x o n1 n2 e => ?_, ns.eraseIdx z.toNat, ts ++ [ns[z.toNat]], ?_, ?_, ?_, ?_⟩
        · rw [upd_ne (ne_of_none e hD0), upd_ne (ne_of_none e hg)]
          exact (k3.trans kp4) x o n1 n2 e
        · rw [upd_ne ngD, upd_same, ez]
        · rw [upd_same, List.map_append]; rfl
        · rw [List.length_append, li]; rfl
        · have p1 := perm_erase ns z.toNat hz
          refine List.Perm.trans ?_ pm
          rw [← List.append_assoc]
          refine List.perm_append_comm.trans ?_
          show (ns[z.toNat] :: (ns.eraseIdx z.toNat ++ ts)).Perm (ns ++ ts)
          exact List.Perm.append_right ts p1
    · rintro H3 ⟨B3, k3, ns, ts, hg3, hD3, li, pm⟩
      refine gn ?_
      have mts : ∀ t ∈ ts, t ∈ sh.map (·.1) := fun t mt => hys t (pm.mem_iff.mp (List.mem_append_right _ mt))
      have lts : ts.length ≤ 3 ∧ 1 ≤ ts.length := by have q := pm.length_eq; rw [List.length_append] at q; omega
      have ndt : ts.Nodup := (List.nodup_append.mp (pm.nodup_iff.mpr ndy)).2.1
      have tsok : TsOk sh ts := ⟨fun e => by rw [e] at lts; exact absurd lts.2 (by decide), ndt, lts.1, mts⟩
      have flok : FlOk (flOf sh ts) := fun q mq => by
        obtain ⟨t, mt, mq⟩ := List.mem_flatMap.mp mq
        obtain ⟨fs, n', e, _, _, efs⟩ := sh_look I (mts t mt)
        rw [e] at mq
        obtain ⟨f', mf, rfl⟩ := List.mem_map.mp mq
        exact ⟨ok_tabs _ (sh_names I (mts t mt)), ok_flds _ (List.mem_of_mem_take (efs ▸ mf))⟩
      have S3 := S.keep (k3.n B)
      try dsimp only
      refine sa1 ?_
      refine ⟨_, rfl, _, rfl, _, rfl, _, d, D, sh, ts, rfl, S3, SqL.of hD3, fun t mt => ?_, lts.1, flok, fun r H4 s4 r0 Fl lfl => ?_⟩
      · obtain ⟨fs, n', e, n1, n4, efs⟩ := sh_look I (mts t mt)
        exact ⟨fs, e, by rw [efs, List.length_take]; show min n' 4 ≤ 4; omega⟩
      refine gn ?_
      have B4 := B3.same s4
      have nr := B3.ne r0
      have hD4 := s4 _ _ hD3
      have k04 : Keep a b H H4 := k3.trans (Keep.same s4)
      try dsimp only
      refine sa1 ?_
      refine ⟨(by show 7 ≤ sizeLine; decide), fun l hl => ?_⟩
      have s5 := Same.new (o := .lst ([Str.ofString "pick", Str.ofString "pick", Str.ofString "pick", Str.ofString "count", Str.ofString "sum", Str.ofString "least", Str.ofString "most"].map V.str)) hl
      have nl := B4.ne hl
      refine ⟨_, rfl, a, b, 7, rfl, by decide, by decide, B4.same s5, fun z H6 z0 z7 B6 kp6 => ?_⟩
      have hl6 := kp6 l _ nl.1 nl.2 upd_same
      obtain ⟨how, hhow⟩ : ∃ how : Str, atI ([Str.ofString "pick", Str.ofString "pick", Str.ofString "pick", Str.ofString "count", Str.ofString "sum", Str.ofString "least", Str.ofString "most"].map V.str) z = some (.str how) := by
        have h : z = 0 ∨ z = 1 ∨ z = 2 ∨ z = 3 ∨ z = 4 ∨ z = 5 ∨ z = 6 := by omega
        rcases h with rfl | rfl | rfl | rfl | rfl | rfl | rfl <;> exact ⟨_, rfl⟩
      refine ⟨l, _, z, .str how, rfl, rfl, SqL.of hl6, hhow, ?_⟩
      refine gn ?_
      have k46 : Keep a b H4 H6 := (Keep.same s5).trans kp6
      have Fl6 := Fl.keep B4 k46 nr.1 nr.2
      have fl100 : (flOf sh ts).length ≤ 100 := by omega
      try dsimp only
      refine sa1 ?_
      refine te_many rfl rfl B6 fun many H7 n0 n3 B7 kp7 => ?_
      refine gn ?_
      have Fl7 := Fl6.keep B6 kp7 nr.1 nr.2
      try dsimp only
      refine sa1 ?_
      refine te_terms (K := K) rfl (by decide) (by decide) B7 Fl7 nr.1 nr.2 fl100 (fun Q' kq => ⟨_, rfl, kq _ _ n0 n3 B7 (Keep.refl _ _ _)⟩) fun tt H8 B8 kp8 => ?_
      refine gn ?_
      have Fl8 := Fl7.keep B7 kp8 nr.1 nr.2
      try dsimp only
      refine sa1 ?_
      refine te_cnd (K := K) rfl rfl B8 Fl8 nr.1 nr.2 fl100 fun cv c H9 B9 kp9 C9 hc9 => ?_
      refine gn ?_
      have Fl9 := Fl8.keep B8 kp9 nr.1 nr.2
      have k09 : Keep a b H H9 := k04.trans (k46.trans (kp7.trans (kp8.trans kp9)))
      have hD9 : H9 D = some (.lst (ts.map V.str)) := (k46.trans (kp7.trans (kp8.trans kp9))) D _ nD.1 nD.2 hD4
      try dsimp only
      refine sa1 ?_
      refine ⟨(by show 0 ≤ sizeLine; decide), fun e0 he0 => ⟨(by show 2 ≤ sizeLine; decide), fun e1 he1 => ?_⟩⟩
      have sa := Same.new (o := .tup []) he0
      have sb := Same.new (o := .tup [.ref e0, .non]) he1
      have sab := sa.trans sb
      have B10 := B9.same sab
      have Fl10 := Fl9.same sab
      have hD10 := sab _ _ hD9
      have C10 := C9.keep (KeepN.of sab)
      have k10 := k09.trans (Keep.same sab)
      generalize hH10 : upd (upd H9 e0 (.tup [])) e1 (.tup [.ref e0, .non]) = H10 at B10 Fl10 hD10 C10 k10
      have fin : ∀ (v10 v11 : V) (v4 : Option V) (v7 : V) (H' : Hp), HAt H' a b → Keep a b H10 H' → (tRet (tTup (tCons (tC (V.str (Str.ofString "ask"))) (tCons (tVar 6) (tCons (tVar 8) (tCons (tCB (RK.rTupQ K) (tCons (tVar 3) tNil)) (tCons (tVar 9) (tCons (tVar 10) (tCons (tVar 11) tNil)))))))))
          { nx := fun x H' => Q V.non H', rt := Q } [some (.ref a), some (.ref d), some (.ref g), some (.ref D), v4, some (.ref r), some (.str how), some v7, some (.ref tt), some cv, some v10, some v11] H' := fun v10 v11 v4 v7 H' B' k' => by
        have hD' : H' D = some (.lst (ts.map V.str)) := k' D _ nD.1 nD.2 hD10
        refine ⟨_, rfl, _, rfl, _, rfl, D, _, rfl, .inl ⟨SqL.of hD', fun q hq => ?_⟩⟩
        have su := Same.new (o := .tup (ts.map V.str)) hq
        refine ⟨_, rfl, _, rfl, _, rfl, (by show 7 ≤ sizeLine; decide), fun q2 hq2 => ?_⟩
        have sv := Same.new (o := .tup [.str (Str.ofString "ask"), .str how, .ref tt, .ref q, cv, v10, v11]) hq2
        have suv := su.trans sv
        exact k _ _ ts c ((B'.same su).same sv) (k10.trans (k'.trans (Keep.same suv))) ⟨q2, q, _, _, _, cv, _, _, rfl, SqT.of upd_same, SqT.of (sv _ _ upd_same), C10.keep ((k'.n B10).trans (KeepN.of suv))⟩ tsok hc9
      have h1 : H10 e1 = some (.tup [.ref e0, .non]) := by rw [← hH10]; exact upd_same
      dsimp only
      refine ⟨e1, _, rfl, SqT.of h1, rfl, _, _, rfl, gn ⟨_, _, rfl, gn ⟨rfl, ?_⟩⟩⟩
      refine sif ?_
      refine ⟨_, rfl, rfl, _, rfl, ?_⟩
      generalize decide (V.str how = V.str (Str.ofString "pick")) = bz
      cases bz with
      | false => exact iteF (fin _ _ _ _ _ B10 (Keep.refl _ _ _))
      | true =>
        refine iteT ?_
        refine sa1 ?_
        refine te_terms (K := K) rfl (by decide) (by decide) B10 Fl10 nr.1 nr.2 fl100 (fun Q' kq => ⟨_, rfl, a, b, 4, rfl, by decide, by decide, B10, fun y H11 y0 y4 B11 kp11 => kq _ _ y0 (by omega) B11 kp11⟩) fun tb H12 B12 kp12 => ?_
        refine gn ?_
        refine ⟨_, rfl, a, b, 5, rfl, by decide, by decide, B12, fun y H13 y0 y5 B13 kp13 => ⟨(by show 2 ≤ sizeLine; decide), fun q hq => ?_⟩⟩
        have sq := Same.new (o := .lst [.non, .int y]) hq
        have nq := B13.ne hq
        refine ⟨_, rfl, a, b, 2, rfl, by decide, by decide, B13.same sq, fun u H14 u0 u2 B14 kp14 => ?_⟩
        have hq14 := kp14 q _ nq.1 nq.2 upd_same
        have k1014 : Keep a b H10 H14 := kp12.trans (kp13.trans ((Keep.same sq).trans kp14))
        have h : u = 0 ∨ u = 1 := by omega
        rcases h with rfl | rfl
        · exact ⟨q, _, _, .non, rfl, rfl, SqL.of hq14, rfl, gn (fin _ _ _ _ _ B14 k1014)⟩
        · exact ⟨q, _, _, .int y, rfl, rfl, SqL.of hq14, rfl, gn (fin _ _ _ _ _ B14 k1014)⟩
end
end K06

set_option maxHeartbeats 1000000
namespace K06
open PySem L2

def oV : Option Int → V
  | none => .non
  | some i => .int i
inductive Way where
  | all (t : Str)
  | none (t : Str)
  | key (t : Str) (lo hi : Option Int)
  | by (t f : Str) (lo hi : Option Int)
  | keyof (t : Str) (x : Tr)
  | byof (t f : Str) (x : Tr)
def Way.tab : Way → Str
  | .all t => t
  | .none t => t
  | .key t _ _ => t
  | .by t _ _ _ => t
  | .keyof t _ => t
  | .byof t _ _ => t
def WayAt (K : PySem.W.Frag) (H : Hp) (v : V) : Way → Prop
  | .all t => ∃ p, v = .ref p ∧ SqT K H p [.str (Str.ofString "all"), .str t]
  | .none t => ∃ p, v = .ref p ∧ SqT K H p [.str (Str.ofString "none"), .str t]
  | .key t lo hi => ∃ p, v = .ref p ∧ SqT K H p [.str (Str.ofString "key"), .str t, oV lo, oV hi]
  | .by t f lo hi => ∃ p, v = .ref p ∧ SqT K H p [.str (Str.ofString "by"), .str t, .str f, oV lo, oV hi]
  | .keyof t x => ∃ p y, v = .ref p ∧ SqT K H p [.str (Str.ofString "keyof"), .str t, y] ∧ TrAt K H y x
  | .byof t f x => ∃ p y, v = .ref p ∧ SqT K H p [.str (Str.ofString "byof"), .str t, .str f, y] ∧ TrAt K H y x
theorem WayAt.mono {K : PySem.W.Frag} {H H' : Hp} (m : ∀ t xs, SqT K H t xs → SqT K H' t xs) {v : V} {w : Way} (h : WayAt K H v w) : WayAt K H' v w := by
  cases w with
  | all t => obtain ⟨p, e, h⟩ := h; exact ⟨p, e, m _ _ h⟩
  | none t => obtain ⟨p, e, h⟩ := h; exact ⟨p, e, m _ _ h⟩
  | key t lo hi => obtain ⟨p, e, h⟩ := h; exact ⟨p, e, m _ _ h⟩
  | «by» t f lo hi => obtain ⟨p, e, h⟩ := h; exact ⟨p, e, m _ _ h⟩
  | keyof t x => obtain ⟨p, y, e, h, h2⟩ := h; exact ⟨p, y, e, m _ _ h, TrAt.mono m h2⟩
  | byof t f x => obtain ⟨p, y, e, h, h2⟩ := h; exact ⟨p, y, e, m _ _ h, TrAt.mono m h2⟩
def PlanAt (K : PySem.W.Frag) (H : Hp) (v : V) (ws : List Way) : Prop := ∃ p us, v = .ref p ∧ SqT K H p us ∧ Paired (WayAt K H) us ws
theorem ways_mono {K : PySem.W.Frag} {H H' : Hp} (m : ∀ t xs, SqT K H t xs → SqT K H' t xs) : ∀ {us : List V} {ws : List Way}, Paired (WayAt K H) us ws → Paired (WayAt K H') us ws
  | _, _, .nil => .nil
  | _, _, .cons h r => .cons (h.mono m) (ways_mono m r)
theorem PlanAt.mono {K : PySem.W.Frag} {H H' : Hp} (m : ∀ t xs, SqT K H t xs → SqT K H' t xs) {v : V} {ws : List Way} (h : PlanAt K H v ws) : PlanAt K H' v ws := by
  obtain ⟨p, us, e, h, q⟩ := h
  exact ⟨p, us, e, m _ _ h, ways_mono m q⟩
/-! ### what is reckoned -/
def leastI (n m : Int) : Int := if m < n then m else n
def wideF (lo hi : Option Int) (n : Int) : Int := match lo, hi with
  | .none, .none => n
  | some l, some h => leastI n (h - l + 1)
  | _, _ => (n + 2) / 3
def takenF (n : Int) : Way → Int
  | .none _ => 0
  | .all _ => n
  | .key _ lo hi => wideF lo hi n
  | .by _ _ lo hi => leastI n (1 + wideF lo hi n)
  | .keyof _ _ => leastI n 1
  | .byof _ _ _ => (n + 3) / 4
/-- how many rows tables have -/
def CntAt (H : Hp) (d : Addr) (cs : List (Str × Int)) : Prop := ∃ kvs, H d = some (.dK kvs) ∧ Paired (PR (fun _ v (n : Int) => v = .int n) H) kvs cs
theorem CntAt.keep {H H' : Hp} (k : KeepN H H') {d : Addr} {cs : List (Str × Int)} (h : CntAt H d cs) : CntAt H' d cs := by
  obtain ⟨kvs, hd, p⟩ := h
  exact ⟨kvs, k d _ (fun _ e => nomatch e) hd, pr_mono (fun v x e => e) p⟩
def cntOf (cs : List (Str × Int)) (t : Str) : Int := (cs.lookup t).getD 0
/-- found and times behind some ways -/
def costP (cs : List (Str × Int)) (ws : List Way) : Int × Int := ws.foldl (fun z w => (z.1 + z.2 * takenF (cntOf cs w.tab) w, z.2 * takenF (cntOf cs w.tab) w)) (0, 1)
def costF (cs : List (Str × Int)) (ws : List Way) : Int := (costP cs ws).1
def okO : Option Int → Prop
  | .none => True
  | .some v => -2000 ≤ v ∧ v ≤ 2000
def okL : Option Int → Option Int → Prop
  | some l, some h => l ≤ h
  | _, _ => True
def WOk : Way → Prop
  | .key _ lo hi => okO lo ∧ okO hi ∧ okL lo hi
  | .by _ _ lo hi => okO lo ∧ okO hi ∧ okL lo hi
  | _ => True
def CntOk (cs : List (Str × Int)) : Prop := ∀ q ∈ cs, 0 ≤ q.2 ∧ q.2 ≤ 1000
theorem wide_ok {lo hi : Option Int} {n : Int} (h1 : okO lo) (h2 : okO hi) (n0 : 0 ≤ n) (n1 : n ≤ 1000) : -10000 ≤ wideF lo hi n ∧ wideF lo hi n ≤ 10000 := by
  cases lo with
  | none =>
    cases hi with
    | none => show -10000 ≤ n ∧ n ≤ 10000; omega
    | some h => show -10000 ≤ (n + 2) / 3 ∧ (n + 2) / 3 ≤ 10000; omega
  | some l =>
    cases hi with
    | none => show -10000 ≤ (n + 2) / 3 ∧ (n + 2) / 3 ≤ 10000; omega
    | some h =>
      have a1 : -2000 ≤ l ∧ l ≤ 2000 := h1
      have a2 : -2000 ≤ h ∧ h ≤ 2000 := h2
      show -10000 ≤ (if h - l + 1 < n then h - l + 1 else n) ∧ (if h - l + 1 < n then h - l + 1 else n) ≤ 10000
      split <;> omega
theorem least_ok {n m : Int} (h1 : -20000 ≤ n ∧ n ≤ 20000) (h2 : -20000 ≤ m ∧ m ≤ 20000) : -20000 ≤ leastI n m ∧ leastI n m ≤ 20000 := by
  show -20000 ≤ (if m < n then m else n) ∧ (if m < n then m else n) ≤ 20000
  split <;> omega
theorem taken_ok {w : Way} {n : Int} (h : WOk w) (n0 : 0 ≤ n) (n1 : n ≤ 1000) : -20000 ≤ takenF n w ∧ takenF n w ≤ 20000 := by
  cases w with
  | none t => show -20000 ≤ (0 : Int) ∧ (0 : Int) ≤ 20000; omega
  | all t => show -20000 ≤ n ∧ n ≤ 20000; omega
  | key t lo hi => have := wide_ok h.1 h.2.1 n0 n1; show -20000 ≤ wideF lo hi n ∧ wideF lo hi n ≤ 20000; omega
  | «by» t f lo hi => have := wide_ok h.1 h.2.1 n0 n1; exact least_ok (by omega) (by omega)
  | keyof t x => exact least_ok (by omega) (by decide)
  | byof t f x => show -20000 ≤ (n + 3) / 4 ∧ (n + 3) / 4 ≤ 20000; omega
theorem pw_at {α β : Type} {R : α → β → Prop} : ∀ {us : List α} {ws : List β} {i : Nat} {u : α}, Paired R us ws → us[i]? = some u → ∃ w, ws[i]? = some w ∧ R u w
  | _, _, _, _, .nil, h => by simp at h
  | _, w :: _, 0, _, .cons h _, e => ⟨w, rfl, by rw [← Option.some.inj e]; exact h⟩
  | _, _, i + 1, _, .cons _ r, e => pw_at (i := i) r e
theorem way_tab {K : PySem.W.Frag} {H : Hp} {v : V} {w : Way} (h : WayAt K H v w) : ∃ p xs, v = .ref p ∧ SqT K H p xs ∧ atI xs 1 = some (.str w.tab) := by
  cases w with
  | all t => obtain ⟨p, e, h⟩ := h; exact ⟨p, _, e, h, atI_of (by decide) rfl⟩
  | none t => obtain ⟨p, e, h⟩ := h; exact ⟨p, _, e, h, atI_of (by decide) rfl⟩
  | key t lo hi => obtain ⟨p, e, h⟩ := h; exact ⟨p, _, e, h, atI_of (by decide) rfl⟩
  | «by» t f lo hi => obtain ⟨p, e, h⟩ := h; exact ⟨p, _, e, h, atI_of (by decide) rfl⟩
  | keyof t x => obtain ⟨p, y, e, h, _⟩ := h; exact ⟨p, _, e, h, atI_of (by decide) rfl⟩
  | byof t f x => obtain ⟨p, y, e, h, _⟩ := h; exact ⟨p, _, e, h, atI_of (by decide) rfl⟩
theorem look_mem {cs : List (Str × Int)} {t : Str} {n : Int} (h : cs.lookup t = some n) : (t, n) ∈ cs := by
  induction cs with
  | nil => cases h
  | cons q r ih =>
    obtain ⟨k, x⟩ := q
    by_cases z : t = k
    · subst z
      simp [List.lookup] at h
      subst h
      exact List.mem_cons_self
    · have zn : (t == k) = false := by simpa using z
      simp only [List.lookup, zn] at h
      exact List.mem_cons_of_mem _ (ih h)
theorem look_some {cs : List (Str × Int)} {t : Str} (h : t ∈ cs.map (·.1)) : ∃ n, cs.lookup t = some n := by
  induction cs with
  | nil => cases h
  | cons q r ih =>
    obtain ⟨k, x⟩ := q
    by_cases z : t = k
    · exact ⟨x, by simp [List.lookup, z]⟩
    · have zn : (t == k) = false := by simpa using z
      rcases List.mem_cons.mp h with h | h
      · exact absurd h z
      · obtain ⟨n, e⟩ := ih h
        exact ⟨n, by simp only [List.lookup, zn]; exact e⟩
def spWide : Sp := fun vs H Q _ => ∃ (lo hi : Option Int) (n : Int), vs = [oV lo, oV hi, .int n] ∧ ∀ H', Same H H' → Q (.int (wideF lo hi n)) H'
def spTaken (K : PySem.W.Frag) : Sp := fun vs H Q _ => ∃ (v : V) (w : Way) (n : Int), vs = [v, .int n] ∧ WayAt K H v w ∧ ∀ H', Same H H' → Q (.int (takenF n w)) H'
def spCost (K : PySem.W.Frag) : Sp := fun vs H Q _ => ∃ (v : V) (ws : List Way) (d : Addr) (cs : List (Str × Int)), vs = [v, .ref d] ∧ PlanAt K H v ws ∧ CntAt H d cs ∧ (∀ w ∈ ws, w.tab ∈ cs.map (·.1) ∧ WOk w) ∧ CntOk cs ∧ ∀ H', Same H H' → Q (.int (costF cs ws)) H'
end K06

set_option maxHeartbeats 1000000
namespace K06
open PySem L2

def spNo : Sp := fun _ _ _ _ => False
def spAlike : Sp := fun vs H Q _ => ∃ (i j : Int), vs = [.int i, .int j] ∧ ∀ H', Same H H' → Q (.bl (decide (i = j))) H'
section
variable {P : Program} {w : World} {K : PySem.W.Frag} {mg : Str → Option Value} {base : Heap}
theorem scAlike : FnScope ["_law_found", "_law_due", "_law_k"] ["_law_found", "_law_due"] (defScope sLalike) := ⟨rfl, rfl, rfl, by decide +kernel, rfl, by decide +kernel, by decide +kernel⟩
theorem ok_alike {f : Addr} {fd : FuncData} (F : Fun K "_law_alike" "_law_alike" sLalike f fd) (T : Txt6 mg) (Calike : Cal P w K mg base 1 "_law_alike" ["_law_found", "_law_due"] spNo f fd) : FnOk P w K mg base CX0 2 f fd ["_law_found", "_law_due"] spAlike := by
  refine F.ok scAlike (fun vs H Q E h => ?_) (fun cdv A outer s H vs Q E hr h => ?_)
  · obtain ⟨i, j, rfl, _⟩ := h
    rfl
  · obtain ⟨i, j, rfl, k⟩ := h
    have hr1 : Room 1 _ := hr.mono (by decide)
    refine ⟨_, (pss_cons (ps_if (pt_val (pe_callB (RK.isiT (K := K)) (by rfl) T.isinstance (by decide +kernel) (pa_cons (pv 1) (pa_cons (pe_tup (pa_cons (pe_bltn (v := .ty "tuple") (u := .type "tuple") (by rfl) T.tuple (by decide +kernel) rfl) (pa_cons (pe_bltn (v := .ty "list") (u := .type "list") (by rfl) T.list (by decide +kernel) rfl) pa_nil))) pa_nil)))) (pss_cons (ps_if (PW.pt (pw_or (pt_not (pt_val (pe_callB (RK.isiT (K := K)) (by rfl) T.isinstance (by decide +kernel) (pa_cons (pv 0) (pa_cons (pe_tup (pa_cons (pe_bltn (v := .ty "tuple") (u := .type "tuple") (by rfl) T.tuple (by decide +kernel) rfl) (pa_cons (pe_bltn (v := .ty "list") (u := .type "list") (by rfl) T.list (by decide +kernel) rfl) pa_nil))) pa_nil))))) (pw_or1 (pt_cmpR op_ne (pe_callB (RK.isi (K := K)) (by rfl) T.isinstance (by decide +kernel) (pa_cons (pv 0) (pa_cons (pe_bltn (v := .ty "list") (u := .type "list") (by rfl) T.list (by decide +kernel) rfl) pa_nil))) (pe_callB (RK.isi (K := K)) (by rfl) T.isinstance (by decide +kernel) (pa_cons (pv 1) (pa_cons (pe_bltn (v := .ty "list") (u := .type "list") (by rfl) T.list (by decide +kernel) rfl) pa_nil))) (nomark _))))) (pss_one (ps_ret pe_bl)) pss_nil)
        (pss_cons (ps_if (pt_cmpR op_ne (pe_callB (RK.lenQ (K := K)) (by rfl) T.len PySem.boot_len (pa_cons (pv 0) pa_nil)) (pe_callB (RK.lenQ (K := K)) (by rfl) T.len PySem.boot_len (pa_cons (pv 1) pa_nil)) (nomark _)) (pss_one (ps_ret pe_bl)) pss_nil)
        (pss_one (ps_ret (pe_cmpR (RK.eqD (K := K) hr.units) (pe_lc (own := [("_law_k", 2)]) rfl scAlike.nd (pi_range1 rfl T.range (pa_cons (pe_callB (RK.lenQ (K := K)) (by rfl) T.len PySem.boot_len (pa_cons (pv 1) pa_nil)) pa_nil)) (blkOk_by (N := ["_law_found", "_law_due", "_law_k"]) (sc := defScope sLalike) (by decide +kernel)) (fun _ _ _ _ _ => (pg_name (i := 2) scAlike.nd rfl (Or.inl rfl))) (fun _ _ _ _ _ => (pts_one (pt_not (pt_val (pe_call Calike.G hr1 (by rfl) Calike.g Calike.kp Calike.b .nil pass0 (pa_cons (pe_ix (RK.ixQ (K := K)) (pv 0) (pv 2) (fun _ _ => rfl)) (pa_cons (pe_ix (RK.ixQ (K := K)) (pv 1) (pv 2) (fun _ _ => rfl)) pa_nil))))))) (fun _ _ _ _ _ => (pv 2))) (pe_lst pa_nil) (nomark _)))))) pss_nil)
      (pss_cons (ps_if (PW.pt (pw_or (pt_cmpR op_isN (pv 1) pe_non (nomark _)) (pw_or1 (pt_val (pe_callB (RK.isi (K := K)) (by rfl) T.isinstance (by decide +kernel) (pa_cons (pv 1) (pa_cons (pe_bltn (v := .ty "str") (u := .type "str") (by rfl) T.str (by decide +kernel) rfl) pa_nil))))))) (pss_one (ps_ret (pe_and (pe_cmpR (RK.eqD (K := K) hr.units) (pv 0) (pv 1) (nomark _)) (pe_one (pe_cmpR op_eq (pe_callB (RK.isi (K := K)) (by rfl) T.isinstance (by decide +kernel) (pa_cons (pv 0) (pa_cons (pe_bltn (v := .ty "str") (u := .type "str") (by rfl) T.str (by decide +kernel) rfl) pa_nil))) (pe_callB (RK.isi (K := K)) (by rfl) T.isinstance (by decide +kernel) (pa_cons (pv 1) (pa_cons (pe_bltn (v := .ty "str") (u := .type "str") (by rfl) T.str (by decide +kernel) rfl) pa_nil))) (nomark _)))))) pss_nil)
      (pss_one (ps_ret (pe_and (pe_callB (RK.isi (K := K)) (by rfl) T.isinstance (by decide +kernel) (pa_cons (pv 0) (pa_cons (pe_bltn (v := .ty "int") (u := .type "int") (by rfl) T.int (by decide +kernel) rfl) pa_nil))) (pe_and (pe_cmpR op_eq (pe_callB (RK.isi (K := K)) (by rfl) T.isinstance (by decide +kernel) (pa_cons (pv 0) (pa_cons (pe_bltn (v := .ty "bool") (u := .type "bool") (by rfl) T.bool (by decide +kernel) rfl) pa_nil))) (pe_callB (RK.isi (K := K)) (by rfl) T.isinstance (by decide +kernel) (pa_cons (pv 1) (pa_cons (pe_bltn (v := .ty "bool") (u := .type "bool") (by rfl) T.bool (by decide +kernel) rfl) pa_nil))) (nomark _)) (pe_one (pe_cmpR (RK.eqD (K := K) hr.units) (pv 0) (pv 1) (nomark _))))))))), ?_⟩
    have k1 : PySem.W.kitOne K (.type "int") (.type "int") = some true := by
      unfold PySem.W.kitOne
      rw [if_pos (by decide)]
    have k2 : PySem.W.kitOne K (.type "int") (.type "tuple") = some false := by first | rfl | decide +kernel
    have k3 : PySem.W.kitOne K (.type "int") (.type "list") = some false := by first | rfl | decide +kernel
    have k4 : PySem.W.kitOne K (.type "int") (.type "str") = some false := by first | rfl | decide +kernel
    have k5 : PySem.W.kitOne K (.type "int") (.type "bool") = some false := by first | rfl | decide +kernel
    have k6 : PySem.W.kitAny K (.type "int") [.type "tuple", .type "list"] = some false := by
      unfold PySem.W.kitAny
      rw [k2]
      show PySem.W.kitAny K (.type "int") [.type "list"] = some false
      unfold PySem.W.kitAny
      rw [k3]
      rfl
    refine ⟨_, rfl, (by show 2 ≤ sizeLine; decide), fun tp htp => ⟨_, tp, _, .type "int", [.type "tuple", .type "list"], false, rfl, upd_same, .cons (.ty "tuple") (.cons (.ty "list") .nil), .base (.int j), k6, _, rfl, iteF ?_⟩⟩
    have s1 := Same.new (o := .tup [.ty "tuple", .ty "list"]) htp
    refine ⟨_, rfl, rfl, _, rfl, iteF ⟨_, rfl, _, _, _, _, false, rfl, .ty "str", .base (.int j), k4, _, rfl, iteF ?_⟩⟩
    refine ⟨_, rfl, _, _, _, _, true, rfl, .ty "int", .base (.int i), k1, _, rfl, iteT ?_⟩
    refine ⟨_, rfl, _, _, _, _, false, rfl, .ty "bool", .base (.int i), k5, _, rfl, _, _, _, _, false, rfl, .ty "bool", .base (.int j), k5, rfl, _, rfl, iteT ?_⟩
    refine ⟨_, rfl, _, rfl, .int i, .int j, .int i, .int j, rfl, rfl, ?_⟩
    have e : PyData.eqv (.int i) (.int j) = decide (i = j) := by
      simp [PyData.eqv]
      by_cases h : i = j <;> simp [h]
    rw [e]
    exact k _ s1
end
end K06

set_option maxHeartbeats 1000000
namespace K06
open PySem L2

/-! ### terms, whatever the fields -/
inductive Tm : Tr → Prop where
  | num {n : Int} : -1000 ≤ n → n ≤ 1000 → Tm (.num n)
  | field {t f : Str} : PyData.strOk t = true → PyData.strOk f = true → Tm (.field t f)
  | bin {op : Str} {l r : Tr} : op ∈ [Str.ofString "+", Str.ofString "-", Str.ofString "*"] → Tm l → Tm r → Tm (.bin op l r)
theorem Tm.of {fl : List (Str × Str)} (ok : FlOk fl) {t : Tr} (h : IsTm fl t) : Tm t := by
  induction h with
  | num h1 h2 => exact .num h1 h2
  | field h => exact .field (ok _ h).1 (ok _ h).2
  | bin h _ _ l r => exact .bin h l r
def encD : Tr → PyData
  | .num n => .tuple [.str (Str.ofString "num"), .int n]
  | .field t f => .tuple [.str (Str.ofString "field"), .str t, .str f]
  | .bin op l r => .tuple [.str op, encD l, encD r]
  | .not x => .tuple [.str (Str.ofString "not"), encD x]
theorem dpTr {K : PySem.W.Frag} {H : Hp} : ∀ {v : V} {t : Tr}, TrAt K H v t → Dp K H v (encD t)
  | _, .num _, ⟨_, e, h⟩ => e ▸ .tup h (.cons (.str _) (.cons (.int _) .nil))
  | _, .field _ _, ⟨_, e, h⟩ => e ▸ .tup h (.cons (.str _) (.cons (.str _) (.cons (.str _) .nil)))
  | _, .bin _ _ _, ⟨_, _, _, e, h, h1, h2⟩ => e ▸ .tup h (.cons (.str _) (.cons (dpTr h1) (.cons (dpTr h2) .nil)))
  | _, .not _, ⟨_, _, e, h, h1⟩ => e ▸ .tup h (.cons (.str _) (.cons (dpTr h1) .nil))
theorem layTm {t : Tr} (h : Tm t) : PyData.canLay0 (encD t) = true ∧ PyData.depth (encD t) ≤ t.depth + 1 := by
  induction h with
  | num h1 h2 =>
    have s0 : PyData.strOk (Str.ofString "num") = true := by decide +kernel
    exact ⟨by simp [encD, PyData.canLay0, PyData.canLayAll0, s0], by simp [encD, PyData.depth, PyData.depthAll]⟩
  | field h1 h2 =>
    refine ⟨?_, by simp [encD, PyData.depth, PyData.depthAll]⟩
    have s0 : PyData.strOk (Str.ofString "field") = true := by decide +kernel
    simp [encD, PyData.canLay0, PyData.canLayAll0, h1, h2, s0]
  | @bin op l r h _ _ hl hr =>
    have so : PyData.strOk op = true := by
      simp only [List.mem_cons, List.mem_nil_iff, or_false] at h
      rcases h with rfl | rfl | rfl <;> decide +kernel
    refine ⟨by simp [encD, PyData.canLay0, PyData.canLayAll0, so, hl.1, hr.1], ?_⟩
    have e1 := hl.2
    have e2 := hr.2
    simp only [encD, PyData.depth, PyData.depthAll, Tr.depth]
    omega
theorem shaped_of {d : PyData} (h1 : PyData.canLay0 d = true) (h2 : PyData.depth d ≤ 64) : SeqAt.shaped d = true := by
  show (PyData.canLay0 d && decide (PyData.depth d ≤ 64)) = true
  rw [Bool.and_eq_true]
  exact ⟨h1, decide_eq_true h2⟩
/-! ### plans as data -/
def oD : Option Int → PyData
  | none => .none
  | some i => .int i
def encW : Way → PyData
  | .all t => .tuple [.str (Str.ofString "all"), .str t]
  | .none t => .tuple [.str (Str.ofString "none"), .str t]
  | .key t lo hi => .tuple [.str (Str.ofString "key"), .str t, oD lo, oD hi]
  | .by t f lo hi => .tuple [.str (Str.ofString "by"), .str t, .str f, oD lo, oD hi]
  | .keyof t x => .tuple [.str (Str.ofString "keyof"), .str t, encD x]
  | .byof t f x => .tuple [.str (Str.ofString "byof"), .str t, .str f, encD x]
/-- a way's names and terms can be laid -/
def WLay : Way → Prop
  | .all t => PyData.strOk t = true
  | .none t => PyData.strOk t = true
  | .key t _ _ => PyData.strOk t = true
  | .by t f _ _ => PyData.strOk t = true ∧ PyData.strOk f = true
  | .keyof t x => PyData.strOk t = true ∧ Tm x ∧ x.depth ≤ 20
  | .byof t f x => PyData.strOk t = true ∧ PyData.strOk f = true ∧ Tm x ∧ x.depth ≤ 20
theorem dpO {K : PySem.W.Frag} {H : Hp} (o : Option Int) : Dp K H (oV o) (oD o) := by
  cases o with
  | none => exact .non
  | some i => exact .int i
theorem dpW {K : PySem.W.Frag} {H : Hp} {v : V} {w : Way} (h : WayAt K H v w) : Dp K H v (encW w) := by
  cases w with
  | all t => obtain ⟨p, rfl, h⟩ := h; exact .tup h (.cons (.str _) (.cons (.str _) .nil))
  | none t => obtain ⟨p, rfl, h⟩ := h; exact .tup h (.cons (.str _) (.cons (.str _) .nil))
  | key t lo hi => obtain ⟨p, rfl, h⟩ := h; exact .tup h (.cons (.str _) (.cons (.str _) (.cons (dpO _) (.cons (dpO _) .nil))))
  | «by» t f lo hi => obtain ⟨p, rfl, h⟩ := h; exact .tup h (.cons (.str _) (.cons (.str _) (.cons (.str _) (.cons (dpO _) (.cons (dpO _) .nil)))))
  | keyof t x => obtain ⟨p, y, rfl, h, h2⟩ := h; exact .tup h (.cons (.str _) (.cons (.str _) (.cons (dpTr h2) .nil)))
  | byof t f x => obtain ⟨p, y, rfl, h, h2⟩ := h; exact .tup h (.cons (.str _) (.cons (.str _) (.cons (.str _) (.cons (dpTr h2) .nil))))
theorem dpWs {K : PySem.W.Frag} {H : Hp} : ∀ {us : List V} {ws : List Way}, Paired (WayAt K H) us ws → DpAll K H us (ws.map encW)
  | _, _, .nil => .nil
  | _, _, .cons h r => .cons (dpW h) (dpWs r)
def encP (ws : List Way) : PyData := .tuple (ws.map encW)
theorem dpP {K : PySem.W.Frag} {H : Hp} {v : V} {ws : List Way} (h : PlanAt K H v ws) : Dp K H v (encP ws) := by
  obtain ⟨p, us, rfl, h, q⟩ := h
  exact .tup h (dpWs q)
theorem oD_lay (o : Option Int) : PyData.canLay0 (oD o) = true ∧ PyData.depth (oD o) = 0 := by cases o <;> exact ⟨by simp [oD, PyData.canLay0], by simp [oD, PyData.depth]⟩
theorem layW {w : Way} (h : WLay w) : PyData.canLay0 (encW w) = true ∧ PyData.depth (encW w) ≤ 30 := by
  have n1 : PyData.strOk (Str.ofString "all") = true := by decide +kernel
  have n2 : PyData.strOk (Str.ofString "none") = true := by decide +kernel
  have n3 : PyData.strOk (Str.ofString "key") = true := by decide +kernel
  have n4 : PyData.strOk (Str.ofString "by") = true := by decide +kernel
  have n5 : PyData.strOk (Str.ofString "keyof") = true := by decide +kernel
  have n6 : PyData.strOk (Str.ofString "byof") = true := by decide +kernel
  cases w with
  | all t => have h : PyData.strOk t = true := h; exact ⟨by simp [encW, PyData.canLay0, PyData.canLayAll0, n1, h], by simp [encW, PyData.depth, PyData.depthAll]⟩
  | none t => have h : PyData.strOk t = true := h; exact ⟨by simp [encW, PyData.canLay0, PyData.canLayAll0, n2, h], by simp [encW, PyData.depth, PyData.depthAll]⟩
  | key t lo hi => have h : PyData.strOk t = true := h; exact ⟨by simp [encW, PyData.canLay0, PyData.canLayAll0, n3, h, (oD_lay lo).1, (oD_lay hi).1], by simp [encW, PyData.depth, PyData.depthAll, (oD_lay lo).2, (oD_lay hi).2]⟩
  | «by» t f lo hi => exact ⟨by simp [encW, PyData.canLay0, PyData.canLayAll0, n4, h.1, h.2, (oD_lay lo).1, (oD_lay hi).1], by simp [encW, PyData.depth, PyData.depthAll, (oD_lay lo).2, (oD_lay hi).2]⟩
  | keyof t x =>
    obtain ⟨h1, h2, h3⟩ := h
    obtain ⟨q1, q2⟩ := layTm h2
    refine ⟨by simp [encW, PyData.canLay0, PyData.canLayAll0, n5, h1, q1], ?_⟩
    simp only [encW, PyData.depth, PyData.depthAll]
    omega
  | byof t f x =>
    obtain ⟨h1, h0, h2, h3⟩ := h
    obtain ⟨q1, q2⟩ := layTm h2
    refine ⟨by simp [encW, PyData.canLay0, PyData.canLayAll0, n6, h1, h0, q1], ?_⟩
    simp only [encW, PyData.depth, PyData.depthAll]
    omega
theorem layWs : ∀ {ws : List Way}, (∀ w ∈ ws, WLay w) → PyData.canLayAll0 (ws.map encW) = true ∧ PyData.depthAll (ws.map encW) ≤ 30
  | [], _ => by simp [PyData.canLayAll0, PyData.depthAll]
  | w :: r, h => by
    obtain ⟨h1, h2⟩ := layW (h w List.mem_cons_self)
    obtain ⟨r1, r2⟩ := layWs (ws := r) fun x m => h x (List.mem_cons_of_mem _ m)
    refine ⟨by simp [PyData.canLayAll0, h1, r1], ?_⟩
    simp only [List.map_cons, PyData.depthAll]
    omega
theorem layP {ws : List Way} (h : ∀ w ∈ ws, WLay w) : PyData.canLay0 (encP ws) = true ∧ SeqAt.shaped (encP ws) = true := by
  obtain ⟨h1, h2⟩ := layWs h
  have c : PyData.canLay0 (encP ws) = true := by simp [encP, PyData.canLay0, h1]
  refine ⟨c, shaped_of c ?_⟩
  simp only [encP, PyData.depth]
  omega
theorem eqvP {ws : List Way} (h : ∀ w ∈ ws, WLay w) : PyData.eqv (encP ws) (encP ws) = true := SeqAt.eqv_refl _ (layP h).1
/-- all plans, whatever they are: what a program's making of plans tells -/
structure Plans (AP : List (Str × List Str) → List Str → Option Tr → List (Str × Str) → List (List Way)) : Prop where
  some : ∀ {sh ts c il}, IsShapes sh → TsOk sh ts → CdIn (flOf sh ts) 8 c → (∀ q ∈ il, InSh sh q) → AP sh ts c il ≠ []
  few : ∀ {sh ts c il}, IsShapes sh → TsOk sh ts → CdIn (flOf sh ts) 8 c → (∀ q ∈ il, InSh sh q) → (AP sh ts c il).length ≤ 400000
  ok : ∀ {sh ts c il}, IsShapes sh → TsOk sh ts → CdIn (flOf sh ts) 8 c → (∀ q ∈ il, InSh sh q) → ∀ ws ∈ AP sh ts c il, ∀ w ∈ ws, w.tab ∈ ts ∧ WOk w ∧ WLay w
def PlansAt (K : PySem.W.Frag) (H : Hp) (r : Addr) (ps : List (List Way)) : Prop := ∃ us, H r = some (.lst us) ∧ Paired (PlanAt K H) us ps
def spAll (K : PySem.W.Frag) (AP : List (Str × List Str) → List Str → Option Tr → List (Str × Str) → List (List Way)) : Sp := fun vs H Q _ => ∃ (tt d l : Addr) (cv : V) (sh : List (Str × List Str)) (ts : List Str) (c : Option Tr) (il : List (Str × Str)), vs = [.ref tt, cv, .ref d, .ref l] ∧
  SqT K H tt (ts.map V.str) ∧ CondAt K H cv c ∧ ShapesAt K H d sh ∧ FlAt K H l il ∧ IsShapes sh ∧ TsOk sh ts ∧ CdIn (flOf sh ts) 8 c ∧ (∀ q ∈ il, InSh sh q) ∧ ∀ (r : Addr) (H' : Hp), Same H H' → H r = none → PlansAt K H' r (AP sh ts c il) → Q (.ref r) H'
/-- the first one of those that cost least -/
def IsBest (cs : List (Str × Int)) (ps : List (List Way)) (p : List Way) : Prop := ∃ i : Nat, ps[i]? = some p ∧ (∀ q ∈ ps, costF cs p ≤ costF cs q) ∧ ∀ (j : Nat) (q : List Way), j < i → ps[j]? = some q → costF cs p < costF cs q
def spBest (K : PySem.W.Frag) (AP : List (Str × List Str) → List Str → Option Tr → List (Str × Str) → List (List Way)) : Sp := fun vs H Q _ => ∃ (tt d l e : Addr) (cv : V) (sh : List (Str × List Str)) (ts : List Str) (c : Option Tr) (il : List (Str × Str)) (cs : List (Str × Int)), vs = [.ref tt, cv, .ref d, .ref l, .ref e] ∧
  SqT K H tt (ts.map V.str) ∧ CondAt K H cv c ∧ ShapesAt K H d sh ∧ FlAt K H l il ∧ IsShapes sh ∧ TsOk sh ts ∧ CdIn (flOf sh ts) 8 c ∧ (∀ q ∈ il, InSh sh q) ∧ CntAt H e cs ∧ CntOk cs ∧ (∀ t ∈ ts, t ∈ cs.map (·.1)) ∧ ∀ (v : V) (ws : List Way) (H' : Hp), Same H H' → PlanAt K H' v ws → IsBest cs (AP sh ts c il) ws → Q v H'
end K06

set_option maxHeartbeats 1000000
namespace K06
open PySem L2

theorem pw_imp {α β : Type} {R S : α → β → Prop} (m : ∀ x y, R x y → S x y) : ∀ {us : List α} {ws : List β}, Paired R us ws → Paired S us ws
  | _, _, .nil => .nil
  | _, _, .cons h r => .cons (m _ _ h) (pw_imp m r)
theorem pw_dict {K : PySem.W.Frag} {H : Hp} : ∀ {ps : List Addr} {cs : List (Str × Int)}, Paired (fun p (q : Str × Int) => SqT K H p [.str q.1, .int q.2]) ps cs → Paired (fun p (kv : Key × V) => SqT K H p [kV kv.1, kv.2]) ps (cs.map fun (q : Str × Int) => ((Sum.inr q.1 : Key), V.int q.2))
  | _, _, .nil => .nil
  | _, _, .cons h r => .cons h (pw_dict r)
theorem cs_put {H : Hp} : ∀ (c2 : List (Str × Int)) (acc : List (Key × V)) (c1 : List (Str × Int)), Paired (PR (fun _ v (n : Int) => v = .int n) H) acc c1 → ((c1 ++ c2).map (·.1)).Nodup →
    Paired (PR (fun _ v (n : Int) => v = .int n) H) ((c2.map fun q => ((Sum.inr q.1 : Key), V.int q.2)).foldl (fun acc kv => putK acc kv.1 kv.2) acc) (c1 ++ c2)
  | [], acc, c1, h, _ => by rw [List.append_nil]; exact h
  | q :: r, acc, c1, h, nd => by
    have e : c1 ++ q :: r = (c1 ++ [q]) ++ r := by simp
    rw [e] at nd ⊢
    have nin : q.1 ∉ c1.map (·.1) := by
      intro m
      rw [List.map_append, List.map_append] at nd
      have := (List.nodup_append.mp (List.nodup_append.mp nd).1).2.2 q.1 m q.1 (by simp)
      exact this rfl
    rw [List.map_cons, List.foldl_cons]
    refine cs_put r _ (c1 ++ [q]) ?_ nd
    rw [pr_put h nin]
    obtain ⟨k, n⟩ := q
    exact pr_snoc h rfl
abbrev SRT : List V → Hp → VK → Prop := fun xs H Q => ∃ a kvs ks, xs = [V.ref a] ∧ Rd H a (HO.dK kvs) ∧ List.map (fun x => x.fst) kvs = List.map Sum.inr ks ∧ ks.length < 64 ∧ ∀ (ys : List Str) (p : Addr), ys.Perm ks → PyProof.Rows.sortedS ys = true → H p = none → Q (V.ref p) (upd H p (HO.lst (List.map V.str ys)))
end K06

set_option maxHeartbeats 1000000
namespace K06
open PySem L2
def fits (op : Str) (x y : Int) : Bool := if op = Str.ofString "=" then decide (x = y) else if op = Str.ofString "<" then decide (x < y) else if op = Str.ofString ">" then decide (y < x) else if op = Str.ofString "<=" then decide (x ≤ y) else decide (y ≤ x)
/-! ### what a comparison says -/
abbrev Span := Option Int × Option Int
abbrev gEq : Str := Str.ofString "="
abbrev gLt : Str := Str.ofString "<"
abbrev gGt : Str := Str.ofString ">"
abbrev gLe : Str := Str.ofString "<="
abbrev gGe : Str := Str.ofString ">="
abbrev sNum : Str := Str.ofString "num"
abbrev sField : Str := Str.ofString "field"
def flip (op : Str) : Str := if op = gLt then gGt else if op = gGt then gLt else if op = gLe then gGe else if op = gGe then gLe else op
def lowOf (op : Str) (n : Int) : Option Int := if op = gEq ∨ op = gGt ∨ op = gGe then some (n + if op = gGt then 1 else 0) else none
def highOf (op : Str) (n : Int) : Option Int := if op = gEq ∨ op = gLt ∨ op = gLe then some (n - if op = gLt then 1 else 0) else none
def maxO : Option Int → Option Int → Option Int
  | o, none => o
  | none, some b => some b
  | some a, some b => some (if b > a then b else a)
def minO : Option Int → Option Int → Option Int
  | o, none => o
  | none, some b => some b
  | some a, some b => some (if b < a then b else a)
def narrow (s : Span) (op : Str) (n : Int) : Span := (maxO s.1 (lowOf op n), minO s.2 (highOf op n))
/-- a field of the table on the left, a number on the right -/
def conW (tb w : Str) : Tr → Tr → Option (Str × Str × Int)
  | .field t f, .num n => if t = tb then some (f, w, n) else none
  | _, _ => none
def con (tb : Str) : Tr → Option (Str × Str × Int)
  | .bin op (.num a) r => conW tb (flip op) r (.num a)
  | .bin op l r => conW tb op l r
  | _ => none
def falseNum : Tr → Bool
  | .bin op (.num a) (.num b) => !fits op a b
  | _ => false
/-- put in its place, or at the end -/
def putL (fs : List (Str × Span)) (k : Str) (x : Span) : List (Str × Span) := if k ∈ fs.map (·.1) then fs.map (fun p => if p.1 = k then (p.1, x) else p) else fs ++ [(k, x)]
def stepC (fs : List (Str × Span)) : Option (Str × Str × Int) → List (Str × Span)
  | none => fs
  | some (g, op, n) => putL fs g (narrow ((fs.lookup g).getD (none, none)) op n)
def foundL (tb : Str) (ps : List Tr) : List (Str × Span) := ps.foldl (fun fs p => stepC fs (con tb p)) []
def specS (tb f : Str) (o : Option Span) (p : Tr) : Option Span := match con tb p with
  | none => o
  | some (g, op, n) => if f = g then some (narrow (o.getD (none, none)) op n) else o
def specF (tb : Str) (ps : List Tr) (f : Str) : Option Span := ps.foldl (specS tb f) none
theorem look_map (k : Str) (x : Span) (f : Str) : ∀ fs : List (Str × Span), (fs.map fun p => if p.1 = k then (p.1, x) else p).lookup f = if f = k ∧ k ∈ fs.map (·.1) then some x else fs.lookup f
  | [] => by simp
  | (g, y) :: r => by
    have ih := look_map k x f r
    by_cases e : g = k
    · subst e
      by_cases e2 : f = g
      · subst e2
        simp
      · have n : (f == g) = false := by simpa using e2
        simp [List.lookup, n, ih, e2]
    · by_cases e2 : f = g
      · subst e2
        simp [List.lookup, e]
      · have n : (f == g) = false := by simpa using e2
        have e' : ¬ k = g := fun z => e z.symm
        have mm : k ∈ List.map (fun p : Str × Span => p.1) r ↔ k ∈ List.map (fun p : Str × Span => p.1) ((g, y) :: r) := by simp [e']
        have lhs : (List.map (fun p => if p.1 = k then (p.1, x) else p) ((g, y) :: r)).lookup f = (List.map (fun p => if p.1 = k then (p.1, x) else p) r).lookup f := by simp [List.lookup, n, e]
        have rhs : List.lookup f ((g, y) :: r) = List.lookup f r := by simp [List.lookup, n]
        rw [lhs, rhs, ih]
        by_cases c : f = k ∧ k ∈ List.map (fun p : Str × Span => p.1) r
        · rw [if_pos c, if_pos ⟨c.1, mm.mp c.2⟩]
        · rw [if_neg c, if_neg fun z => c ⟨z.1, mm.mpr z.2⟩]
theorem look_app (k : Str) (x : Span) (f : Str) : ∀ fs : List (Str × Span), k ∉ fs.map (·.1) → (fs ++ [(k, x)]).lookup f = if f = k then some x else fs.lookup f
  | [], _ => by
    by_cases e : f = k
    · subst e; simp
    · have n : (f == k) = false := by simpa using e
      simp [List.lookup, n, e]
  | (g, y) :: r, h => by
    rw [List.map_cons, List.mem_cons, not_or] at h
    have ih := look_app k x f r h.2
    by_cases e2 : f = g
    · subst e2
      have e : ¬ f = k := fun z => h.1 z.symm
      simp [List.lookup, e]
    · have n : (f == g) = false := by simpa using e2
      simp [List.lookup, n, ih]
theorem look_put (fs : List (Str × Span)) (k : Str) (x : Span) (f : Str) : (putL fs k x).lookup f = if f = k then some x else fs.lookup f := by
  unfold putL
  by_cases h : k ∈ fs.map (·.1)
  · rw [if_pos h, look_map]
    by_cases e : f = k <;> simp [e, h]
  · rw [if_neg h, look_app k x f fs h]
theorem look_found (tb : Str) (ps : List Tr) (f : Str) : (foundL tb ps).lookup f = specF tb ps f := by
  unfold foundL specF
  have key : ∀ (ps : List Tr) (fs : List (Str × Span)) (o : Option Span), fs.lookup f = o → (ps.foldl (fun fs p => stepC fs (con tb p)) fs).lookup f = ps.foldl (specS tb f) o := by
    intro ps
    induction ps with
    | nil => intro fs o h; exact h
    | cons p r ih =>
      intro fs o h
      rw [List.foldl_cons, List.foldl_cons]
      refine ih _ _ ?_
      unfold specS
      cases e : con tb p with
      | none => exact h
      | some q =>
        obtain ⟨g, op, n⟩ := q
        show (putL fs g (narrow ((fs.lookup g).getD (none, none)) op n)).lookup f = _
        rw [look_put]
        by_cases e2 : f = g
        · subst e2
          simp [h]
        · simp [e2, h]
  exact key ps [] none rfl
theorem keys_put (fs : List (Str × Span)) (k : Str) (x : Span) : (putL fs k x).map (·.1) = if k ∈ fs.map (·.1) then fs.map (·.1) else fs.map (·.1) ++ [k] := by
  unfold putL
  split
  · rw [List.map_map]
    refine List.map_congr_left fun p _ => ?_
    show (if p.1 = k then (p.1, x) else p).1 = p.1
    split <;> rfl
  · rw [List.map_append]
    rfl
theorem nodup_put {fs : List (Str × Span)} {k : Str} {x : Span} (h : (fs.map (·.1)).Nodup) : ((putL fs k x).map (·.1)).Nodup := by
  rw [keys_put]
  split
  · exact h
  · rename_i n
    rw [List.nodup_append]
    refine ⟨h, by simp, fun a ha b hb => ?_⟩
    obtain rfl := List.mem_singleton.mp hb
    exact fun e => n (e ▸ ha)
theorem mem_put {fs : List (Str × Span)} {k : Str} {x : Span} {p : Str × Span} (h : p ∈ putL fs k x) : p ∈ fs ∨ p = (k, x) := by
  unfold putL at h
  split at h
  · obtain ⟨q, m, e⟩ := List.mem_map.mp h
    split at e
    · rename_i e2
      exact .inr (by rw [← e, e2])
    · exact .inl (e ▸ m)
  · rcases List.mem_append.mp h with h | h
    · exact .inl h
    · exact .inr (List.mem_singleton.mp h)
/-! ### sizes -/
def okS (s : Span) : Prop := okO s.1 ∧ okO s.2
theorem ok_max {a b : Option Int} (ha : okO a) (hb : okO b) : okO (maxO a b) := by
  cases b with
  | none => exact ha
  | some b =>
    cases a with
    | none => exact hb
    | some a =>
      show okO (some (if b > a then b else a))
      split
      · exact hb
      · exact ha
theorem ok_min {a b : Option Int} (ha : okO a) (hb : okO b) : okO (minO a b) := by
  cases b with
  | none => exact ha
  | some b =>
    cases a with
    | none => exact hb
    | some a =>
      show okO (some (if b < a then b else a))
      split
      · exact hb
      · exact ha
theorem ok_low {op : Str} {n : Int} (h1 : -1000 ≤ n) (h2 : n ≤ 1000) : okO (lowOf op n) := by
  unfold lowOf
  split
  · show -2000 ≤ _ ∧ _ ≤ 2000
    split <;> omega
  · trivial
theorem ok_high {op : Str} {n : Int} (h1 : -1000 ≤ n) (h2 : n ≤ 1000) : okO (highOf op n) := by
  unfold highOf
  split
  · show -2000 ≤ _ ∧ _ ≤ 2000
    split <;> omega
  · trivial
theorem ok_narrow {s : Span} {op : Str} {n : Int} (h : okS s) (h1 : -1000 ≤ n) (h2 : n ≤ 1000) : okS (narrow s op n) := ⟨ok_max h.1 (ok_low h1 h2), ok_min h.2 (ok_high h1 h2)⟩
def gap : Span → Bool
  | (some a, some b) => decide (b < a)
  | _ => false
def Bad (tb : Str) (ps : List Tr) : Bool := ps.any falseNum || (foundL tb ps).any fun p => gap p.2
/-- all parts are comparisons of terms -/
def CdT (ps : List Tr) : Prop := ∀ p ∈ ps, ∃ op l r, p = .bin op l r ∧ op ∈ signs ∧ Tm l ∧ Tm r ∧ l.depth ≤ 20 ∧ r.depth ≤ 20
theorem CdT.of {fl : List (Str × Str)} (ok : FlOk fl) {t : Tr} (h : IsCd fl t) : t.depth ≤ 20 → CdT (parts t) := by
  induction h with
  | @cmp op l r ho hl hr =>
    intro hd p m
    have hd : max l.depth r.depth + 1 ≤ 20 := hd
    have no : op ≠ sAnd ∧ op ≠ sOr := by
      simp only [signs, List.mem_cons, List.mem_nil_iff, or_false] at ho
      rcases ho with rfl | rfl | rfl | rfl | rfl <;> exact ⟨by decide +kernel, by decide +kernel⟩
    have e : parts (.bin op l r) = [.bin op l r] := by
      show (if op = sAnd then parts l ++ parts r else if op = sOr then [] else [.bin op l r]) = _
      rw [if_neg no.1, if_neg no.2]
    rw [e] at m
    obtain rfl := List.mem_singleton.mp m
    exact ⟨op, l, r, rfl, ho, Tm.of ok hl, Tm.of ok hr, by omega, by omega⟩
  | @join op l r ho _ _ ihl ihr =>
    intro hd p m
    have hd : max l.depth r.depth + 1 ≤ 20 := hd
    have m : p ∈ (if op = sAnd then parts l ++ parts r else if op = sOr then [] else [.bin op l r]) := m
    simp only [List.mem_cons, List.mem_nil_iff, or_false] at ho
    rcases ho with rfl | rfl
    · rw [if_pos rfl] at m
      rcases List.mem_append.mp m with m | m
      · exact ihl (by omega) p m
      · exact ihr (by omega) p m
    · rw [if_neg (by decide +kernel), if_pos rfl] at m
      cases m
  | not _ _ => exact fun _ p m => by cases m
theorem conW_some {tb w : Str} {L R : Tr} {g op : Str} {n : Int} (h : conW tb w L R = some (g, op, n)) : ∃ t, L = .field t g ∧ R = .num n ∧ op = w := by
  cases L with
  | field t f =>
    cases R with
    | num m =>
      have h : (if t = tb then some (f, w, m) else none) = some (g, op, n) := h
      by_cases e : t = tb
      · rw [if_pos e] at h
        cases h
        exact ⟨_, rfl, rfl, rfl⟩
      · rw [if_neg e] at h
        cases h
    | _ => cases h
  | _ => cases R <;> cases h
theorem okS_found {tb : Str} : ∀ (ps : List Tr), CdT ps → (∀ q ∈ foundL tb ps, okS q.2 ∧ PyData.strOk q.1 = true) ∧ ((foundL tb ps).map (·.1)).Nodup ∧ (foundL tb ps).length ≤ ps.length := by
  have key : ∀ (ps : List Tr) (fs : List (Str × Span)), CdT ps → (∀ q ∈ fs, okS q.2 ∧ PyData.strOk q.1 = true) → (fs.map (·.1)).Nodup →
      (∀ q ∈ ps.foldl (fun fs p => stepC fs (con tb p)) fs, okS q.2 ∧ PyData.strOk q.1 = true) ∧ ((ps.foldl (fun fs p => stepC fs (con tb p)) fs).map (·.1)).Nodup ∧ (ps.foldl (fun fs p => stepC fs (con tb p)) fs).length ≤ fs.length + ps.length := by
    intro ps
    induction ps with
    | nil => intro fs _ h1 h2; exact ⟨h1, h2, Nat.le_refl _⟩
    | cons p r ih =>
      intro fs hc h1 h2
      rw [List.foldl_cons]
      have step : (∀ q ∈ stepC fs (con tb p), okS q.2 ∧ PyData.strOk q.1 = true) ∧ ((stepC fs (con tb p)).map (·.1)).Nodup ∧ (stepC fs (con tb p)).length ≤ fs.length + 1 := by
        cases e : con tb p with
        | none => exact ⟨h1, h2, Nat.le_succ _⟩
        | some q =>
          obtain ⟨g, op, n⟩ := q
          have hn : -1000 ≤ n ∧ n ≤ 1000 ∧ PyData.strOk g = true := by
            obtain ⟨op', l, r', rfl, _, tl, tr, _, _⟩ := hc p List.mem_cons_self
            have numOf : ∀ {z : Tr}, Tm z → ∀ k, z = .num k → -1000 ≤ k ∧ k ≤ 1000 := fun {z} hz k ez => by
              cases hz with
              | num a1 a2 => cases ez; exact ⟨a1, a2⟩
              | _ => cases ez
            have fieldOf : ∀ {z : Tr}, Tm z → ∀ t f, z = .field t f → PyData.strOk f = true := fun {z} hz t f ez => by
              cases hz with
              | field k1 k2 => cases ez; exact k2
              | _ => cases ez
            cases l with
            | num a =>
              obtain ⟨t, e1, e2, _⟩ := conW_some (show conW tb (flip op') r' (.num a) = some (g, op, n) from e)
              cases e2
              exact ⟨(numOf tl _ rfl).1, (numOf tl _ rfl).2, fieldOf tr _ _ e1⟩
            | field t f =>
              obtain ⟨t', e1, e2, _⟩ := conW_some (show conW tb op' (.field t f) r' = some (g, op, n) from e)
              exact ⟨(numOf tr _ e2).1, (numOf tr _ e2).2, fieldOf tl _ _ e1⟩
            | bin o2 x y =>
              obtain ⟨t', e1, e2, _⟩ := conW_some (show conW tb op' (.bin o2 x y) r' = some (g, op, n) from e)
              cases e1
            | not x =>
              obtain ⟨t', e1, e2, _⟩ := conW_some (show conW tb op' (.not x) r' = some (g, op, n) from e)
              cases e1
          have old : okS ((fs.lookup g).getD (none, none)) := by
            cases el : fs.lookup g with
            | none => exact ⟨trivial, trivial⟩
            | some s =>
              have m : (g, s) ∈ fs := by
                clear h1 h2 ih
                induction fs with
                | nil => cases el
                | cons q r ih2 =>
                  obtain ⟨k, x⟩ := q
                  by_cases z : g = k
                  · subst z
                    simp [List.lookup] at el
                    subst el
                    exact List.mem_cons_self
                  · have zn : (g == k) = false := by simpa using z
                    simp only [List.lookup, zn] at el
                    exact List.mem_cons_of_mem _ (ih2 el)
              exact (h1 _ m).1
          refine ⟨fun q m => ?_, nodup_put h2, ?_⟩
          · rcases mem_put m with m | m
            · exact h1 q m
            · rw [m]
              exact ⟨ok_narrow old hn.1 hn.2.1, hn.2.2⟩
          · show (putL fs g _).length ≤ _
            unfold putL
            split
            · rw [List.length_map]; omega
            · rw [List.length_append]; exact Nat.le_refl _
      obtain ⟨i1, i2, i3⟩ := ih _ (fun q m => hc q (List.mem_cons_of_mem _ m)) step.1 step.2.1
      refine ⟨i1, i2, ?_⟩
      have := step.2.2
      rw [List.length_cons]
      omega
  intro ps hc
  have := key ps [] hc (fun q m => by cases m) List.nodup_nil
  refine ⟨this.1, this.2.1, ?_⟩
  have h := this.2.2
  show (ps.foldl _ []).length ≤ _
  simpa using h

/-! ### all plans -/
/-- each one, and the others -/
def picks {α : Type} : List α → List (α × List α)
  | [] => []
  | x :: r => (x, r) :: (picks r).map fun q => (q.1, x :: q.2)
/-- all orders, the first one's turning slowest -/
def orders : Nat → List Str → List (List Str)
  | 0, _ => [[]]
  | n + 1, l => (picks l).flatMap fun q => (orders n q.2).map (q.1 :: ·)
def tabsIn : Tr → List Str
  | .num _ => []
  | .field t _ => [t]
  | .bin _ l r => tabsIn l ++ tabsIn r
  | .not x => tabsIn x
/-- the way of a comparison by = as it stands -/
def wayOf (il : List (Str × Str)) (k t : Str) (early : List Str) : Tr → Tr → Option Way
  | .field t' f, r => if t' = t ∧ tabsIn r ≠ [] ∧ (∀ x ∈ tabsIn r, x ∈ early) then (if f = k then some (.keyof t r) else if (t, f) ∈ il then some (.byof t f r) else none) else none
  | _, _ => none
def eqWay (il : List (Str × Str)) (k t : Str) (early : List Str) : Tr → Option Way
  | .bin op l r => if op = gEq then (match wayOf il k t early l r with | some w => some w | none => wayOf il k t early r l) else none
  | _ => none
def keyWay (ps : List Tr) (t : Str) : List Str → List Way
  | [] => []
  | k :: _ => match specF t ps k with | some s => [.key t s.1 s.2] | none => []
def byWay (ps : List Tr) (il : List (Str × Str)) (t f : Str) : Option Way := match specF t ps f with | some s => if (t, f) ∈ il then some (.by t f s.1 s.2) else none | none => none
def waysF (sh : List (Str × List Str)) (ps : List Tr) (il : List (Str × Str)) (t : Str) (early : List Str) : List Way :=
  if Bad t ps = true then [.none t] else
    .all t :: (keyWay ps t ((sh.lookup t).getD []) ++ (((sh.lookup t).getD []).tail.filterMap (byWay ps il t) ++ ps.filterMap (eqWay il (((sh.lookup t).getD []).headD Str.empty) t early)))
def plansO (sh : List (Str × List Str)) (ps : List Tr) (il : List (Str × Str)) : List Str → List Str → List (List Way)
  | [], _ => [[]]
  | t :: r, early => (waysF sh ps il t early).flatMap fun w => (plansO sh ps il r (early ++ [t])).map (w :: ·)
def AP (sh : List (Str × List Str)) (ts : List Str) (c : Option Tr) (il : List (Str × Str)) : List (List Way) := (orders ts.length ts).flatMap fun o => plansO sh ((c.map parts).getD []) il o []
theorem picks_len {α : Type} : ∀ l : List α, (picks l).length = l.length
  | [] => rfl
  | x :: r => by show ((picks r).map _).length + 1 = r.length + 1; rw [List.length_map, picks_len r]
theorem picks_mem {α : Type} : ∀ (l : List α) (q : α × List α), q ∈ picks l → (q.1 :: q.2).Perm l
  | [], q, h => by cases h
  | x :: r, q, h => by
    rcases List.mem_cons.mp h with rfl | h
    · exact List.Perm.refl _
    · obtain ⟨q', m, rfl⟩ := List.mem_map.mp h
      exact (List.Perm.swap x q'.1 q'.2).trans ((picks_mem r q' m).cons x)
theorem orders_mem : ∀ (n : Nat) (l o : List Str), l.length = n → o ∈ orders n l → o.Perm l
  | 0, l, o, h, m => by
    obtain rfl := List.mem_singleton.mp m
    rw [List.eq_nil_of_length_eq_zero h]
  | n + 1, l, o, h, m => by
    obtain ⟨q, mq, m2⟩ := List.mem_flatMap.mp m
    obtain ⟨o', m3, rfl⟩ := List.mem_map.mp m2
    have p := picks_mem l q mq
    have lq : q.2.length = n := by have e := p.length_eq; rw [List.length_cons, h] at e; omega
    exact ((orders_mem n q.2 o' lq m3).cons q.1).trans p
theorem flat_len {α β : Type} (g : α → List β) (b : Nat) : ∀ l : List α, (∀ x ∈ l, (g x).length ≤ b) → (l.flatMap g).length ≤ l.length * b
  | [], _ => by simp
  | x :: r, h => by
    have h1 := h x List.mem_cons_self
    have h2 := flat_len g b r fun y m => h y (List.mem_cons_of_mem _ m)
    rw [List.flatMap_cons, List.length_append, List.length_cons, Nat.succ_mul]
    omega
def fct : Nat → Nat
  | 0 => 1
  | n + 1 => (n + 1) * fct n
theorem orders_len : ∀ (n : Nat) (l : List Str), l.length = n → n ≤ 3 → (orders n l).length ≤ 6 := by
  have key : ∀ (n : Nat) (l : List Str), l.length = n → (orders n l).length ≤ fct n := by
    intro n
    induction n with
    | zero => intro l _; exact Nat.le_refl _
    | succ n ih =>
      intro l h
      have := flat_len (fun q : Str × List Str => (orders n q.2).map (q.1 :: ·)) (fct n) (picks l) fun q m => by
        rw [List.length_map]
        have e := (picks_mem l q m).length_eq
        rw [List.length_cons, h] at e
        exact ih q.2 (by omega)
      rw [picks_len, h] at this
      exact this
  intro n l h h3
  have := key n l h
  have h : n = 0 ∨ n = 1 ∨ n = 2 ∨ n = 3 := by omega
  rcases h with rfl | rfl | rfl | rfl
  · exact Nat.le_trans this (by decide)
  · exact Nat.le_trans this (by decide)
  · exact Nat.le_trans this (by decide)
  · exact Nat.le_trans this (by decide)
theorem ways_len {sh : List (Str × List Str)} (I : IsShapes sh) (ps : List Tr) (il : List (Str × Str)) (t : Str) (early : List Str) (hp : ps.length ≤ 35) (ht : t ∈ sh.map (·.1)) : (waysF sh ps il t early).length ≤ 40 ∧ waysF sh ps il t early ≠ [] := by
  obtain ⟨fs, m, lk, m1, m4, efs⟩ := sh_look I ht
  have lf : fs.length ≤ 4 ∧ 1 ≤ fs.length := by rw [efs, List.length_take]; show min m 4 ≤ 4 ∧ 1 ≤ min m 4; omega
  unfold waysF
  split
  · exact ⟨by show 1 ≤ 40; omega, by simp⟩
  · rw [lk]
    refine ⟨?_, by simp⟩
    have a1 : (keyWay ps t ((some fs).getD [])).length ≤ 1 := by
      show (keyWay ps t fs).length ≤ 1
      cases fs with
      | nil => exact Nat.zero_le _
      | cons k r => unfold keyWay; dsimp only; split <;> simp
    have a2 := List.length_filterMap_le (byWay ps il t) ((some fs).getD []).tail
    have a3 := List.length_filterMap_le (eqWay il (((some fs).getD []).headD Str.empty) t early) ps
    have a4 : ((some fs).getD []).tail.length ≤ 3 := by show fs.tail.length ≤ 3; rw [List.length_tail]; omega
    rw [List.length_cons, List.length_append, List.length_append]
    omega
theorem plans_len {sh : List (Str × List Str)} (I : IsShapes sh) (ps : List Tr) (il : List (Str × Str)) (hp : ps.length ≤ 35) : ∀ (o early : List Str), (∀ t ∈ o, t ∈ sh.map (·.1)) → (plansO sh ps il o early).length ≤ 40 ^ o.length ∧ plansO sh ps il o early ≠ []
  | [], _, _ => ⟨Nat.le_refl _, by simp [plansO]⟩
  | t :: r, early, h => by
    obtain ⟨w1, w2⟩ := ways_len I ps il t early hp (h t List.mem_cons_self)
    obtain ⟨r1, r2⟩ := plans_len I ps il hp r (early ++ [t]) fun x m => h x (List.mem_cons_of_mem _ m)
    have := flat_len (fun w => (plansO sh ps il r (early ++ [t])).map (w :: ·)) (40 ^ r.length) (waysF sh ps il t early) fun w _ => by rw [List.length_map]; exact r1
    refine ⟨?_, ?_⟩
    · refine Nat.le_trans this ?_
      rw [List.length_cons, Nat.pow_succ, Nat.mul_comm (40 ^ r.length) 40]
      exact Nat.mul_le_mul_right _ w1
    · obtain ⟨w, wr, ew⟩ := List.exists_cons_of_ne_nil w2
      obtain ⟨p, pr, ep⟩ := List.exists_cons_of_ne_nil r2
      show (waysF sh ps il t early).flatMap _ ≠ []
      rw [ew, ep]
      simp
theorem orders_ne : ∀ (n : Nat) (l : List Str), l.length = n → orders n l ≠ []
  | 0, _, _ => by simp [orders]
  | n + 1, l, h => by
    obtain ⟨x, r, e⟩ := List.exists_cons_of_ne_nil (l := l) (fun e => by rw [e] at h; cases h)
    subst e
    have hr : r.length = n := by rw [List.length_cons] at h; omega
    obtain ⟨o, os, eo⟩ := List.exists_cons_of_ne_nil (orders_ne n r hr)
    show (picks (x :: r)).flatMap _ ≠ []
    unfold picks
    rw [List.flatMap_cons]
    dsimp only
    rw [eo]
    simp
theorem look_memG {β : Type} {cs : List (Str × β)} {t : Str} {n : β} (h : cs.lookup t = some n) : (t, n) ∈ cs := by
  induction cs with
  | nil => cases h
  | cons q r ih =>
    obtain ⟨k, x⟩ := q
    by_cases z : t = k
    · subst z
      simp [List.lookup] at h
      subst h
      exact List.mem_cons_self
    · have zn : (t == k) = false := by simpa using z
      simp only [List.lookup, zn] at h
      exact List.mem_cons_of_mem _ (ih h)
theorem spec_ok {t f : Str} {ps : List Tr} {s : Span} (hp : CdT ps) (h : specF t ps f = some s) : okS s := by
  rw [← look_found] at h
  exact ((okS_found ps hp).1 _ (look_memG h)).1
theorem spec_okL {t f : Str} {ps : List Tr} {s : Span} (hp : CdT ps) (nb : ¬ Bad t ps = true) (h : specF t ps f = some s) : okO s.1 ∧ okO s.2 ∧ okL s.1 s.2 := by
  have o := spec_ok hp h
  refine ⟨o.1, o.2, ?_⟩
  have nb : Bad t ps = false := by simpa using nb
  unfold Bad at nb
  rw [Bool.or_eq_false_iff] at nb
  rw [← look_found] at h
  have g := List.any_eq_false.mp nb.2 _ (look_memG h)
  obtain ⟨a, b⟩ := s
  cases a with
  | none => exact trivial
  | some l =>
    cases b with
    | none => exact trivial
    | some u =>
      have g : ¬ (decide (u < l)) = true := g
      show l ≤ u
      have := of_decide_eq_false (by simpa using g : decide (u < l) = false)
      omega
def WGood (t : Str) (w : Way) : Prop := w.tab = t ∧ WOk w ∧ WLay w
theorem wayOf_ok {il : List (Str × Str)} {k t : Str} {early : List Str} {l r : Tr} {w : Way} (st : PyData.strOk t = true) (il_ok : FlOk il) (hr : Tm r) (dr : r.depth ≤ 20) (h : wayOf il k t early l r = some w) : WGood t w := by
  cases l with
  | field t' f =>
    have h : (if t' = t ∧ tabsIn r ≠ [] ∧ (∀ x ∈ tabsIn r, x ∈ early) then (if f = k then some (Way.keyof t r) else if (t, f) ∈ il then some (.byof t f r) else none) else none) = some w := h
    by_cases c1 : t' = t ∧ tabsIn r ≠ [] ∧ (∀ x ∈ tabsIn r, x ∈ early)
    · rw [if_pos c1] at h
      by_cases c2 : f = k
      · rw [if_pos c2] at h
        cases h
        exact ⟨rfl, trivial, st, hr, dr⟩
      · rw [if_neg c2] at h
        by_cases c3 : (t, f) ∈ il
        · rw [if_pos c3] at h
          cases h
          exact ⟨rfl, trivial, st, (il_ok _ c3).2, hr, dr⟩
        · rw [if_neg c3] at h
          cases h
    · rw [if_neg c1] at h
      cases h
  | num n => cases h
  | bin o a b => cases h
  | not x => cases h
theorem eqWay_ok {il : List (Str × Str)} {k t : Str} {early : List Str} {p : Tr} {w : Way} {ps : List Tr} (st : PyData.strOk t = true) (il_ok : FlOk il) (hp : CdT ps) (m : p ∈ ps) (h : eqWay il k t early p = some w) : WGood t w := by
  obtain ⟨op, l, r, rfl, _, tl, tr, dl, dr⟩ := hp p m
  have h : (if op = gEq then (match wayOf il k t early l r with | some w => some w | none => wayOf il k t early r l) else none) = some w := h
  by_cases c : op = gEq
  · rw [if_pos c] at h
    cases e : wayOf il k t early l r with
    | some w' =>
      rw [e] at h
      have h : some w' = some w := h
      cases h
      exact wayOf_ok st il_ok tr dr e
    | none =>
      rw [e] at h
      exact wayOf_ok st il_ok tl dl h
  · rw [if_neg c] at h
    cases h
theorem ways_ok {sh : List (Str × List Str)} (I : IsShapes sh) {ps : List Tr} {il : List (Str × Str)} {t : Str} {early : List Str} (hp : CdT ps) (il_ok : FlOk il) (ht : t ∈ sh.map (·.1)) : ∀ w ∈ waysF sh ps il t early, WGood t w := by
  intro w m
  have st := ok_tabs _ (sh_names I ht)
  obtain ⟨fs, n, lk, n1, n4, efs⟩ := sh_look I ht
  have okf : ∀ f ∈ fs, PyData.strOk f = true := fun f mf => ok_flds _ (List.mem_of_mem_take (efs ▸ mf))
  unfold waysF at m
  rw [lk] at m
  split at m
  · rw [List.mem_singleton.mp m]
    exact ⟨rfl, trivial, st⟩
  · rename_i nbad
    rcases List.mem_cons.mp m with rfl | m
    · exact ⟨rfl, trivial, st⟩
    · rcases List.mem_append.mp m with m | m
      · have m : w ∈ keyWay ps t fs := m
        cases fs with
        | nil => cases m
        | cons k r =>
          have m : w ∈ (match specF t ps k with | some s => [Way.key t s.1 s.2] | none => []) := m
          cases e : specF t ps k with
          | none => rw [e] at m; cases m
          | some s =>
            rw [e] at m
            rw [List.mem_singleton.mp m]
            have := spec_okL hp nbad e
            exact ⟨rfl, this, st⟩
      · rcases List.mem_append.mp m with m | m
        · obtain ⟨f, mf, e⟩ := List.mem_filterMap.mp m
          have mf : f ∈ fs := List.mem_of_mem_tail mf
          have e : (match specF t ps f with | some s => if (t, f) ∈ il then some (Way.by t f s.1 s.2) else none | none => none) = some w := e
          cases es : specF t ps f with
          | none => rw [es] at e; cases e
          | some s =>
            rw [es] at e
            have e : (if (t, f) ∈ il then some (Way.by t f s.1 s.2) else none) = some w := e
            by_cases c : (t, f) ∈ il
            · rw [if_pos c] at e
              cases e
              have := spec_okL hp nbad es
              exact ⟨rfl, this, st, okf f mf⟩
            · rw [if_neg c] at e
              cases e
        · obtain ⟨p, mp, e⟩ := List.mem_filterMap.mp m
          exact eqWay_ok st il_ok hp mp e
theorem plans_good {sh : List (Str × List Str)} (I : IsShapes sh) {ps : List Tr} {il : List (Str × Str)} (hp : CdT ps) (il_ok : FlOk il) : ∀ (o early : List Str), (∀ t ∈ o, t ∈ sh.map (·.1)) → ∀ ws ∈ plansO sh ps il o early, ∀ w ∈ ws, w.tab ∈ o ∧ WOk w ∧ WLay w
  | [], _, _, ws, m, w, mw => by
    rw [List.mem_singleton.mp m] at mw
    cases mw
  | t :: r, early, h, ws, m, w, mw => by
    obtain ⟨w', m1, m2⟩ := List.mem_flatMap.mp m
    obtain ⟨p, m3, rfl⟩ := List.mem_map.mp m2
    rcases List.mem_cons.mp mw with rfl | mw
    · obtain ⟨e, o1, o2⟩ := ways_ok I hp il_ok (h t List.mem_cons_self) w m1
      exact ⟨by rw [e]; exact List.mem_cons_self, o1, o2⟩
    · obtain ⟨e, o1, o2⟩ := plans_good I hp il_ok r (early ++ [t]) (fun x mx => h x (List.mem_cons_of_mem _ mx)) p m3 w mw
      exact ⟨List.mem_cons_of_mem _ e, o1, o2⟩
theorem fl_ok {sh : List (Str × List Str)} (I : IsShapes sh) {ts : List Str} (ht : ∀ t ∈ ts, t ∈ sh.map (·.1)) : FlOk (flOf sh ts) := fun q mq => by
  obtain ⟨t, mt, mq⟩ := List.mem_flatMap.mp mq
  obtain ⟨fs, n', e, _, _, efs⟩ := sh_look I (ht t mt)
  rw [e] at mq
  obtain ⟨f', mf, rfl⟩ := List.mem_map.mp mq
  exact ⟨ok_tabs _ (sh_names I (ht t mt)), ok_flds _ (List.mem_of_mem_take (efs ▸ mf))⟩
theorem cd_parts {sh : List (Str × List Str)} (I : IsShapes sh) {ts : List Str} (ht : ∀ t ∈ ts, t ∈ sh.map (·.1)) {c : Option Tr} (h : CdIn (flOf sh ts) 8 c) : CdT ((c.map parts).getD []) ∧ ((c.map parts).getD []).length ≤ 35 := by
  cases c with
  | none => exact ⟨fun p m => (by cases m), Nat.zero_le _⟩
  | some t => exact ⟨CdT.of (fl_ok I ht) h.1 (Nat.le_trans h.2.1 (by decide)), h.2.2⟩
theorem plans_AP : Plans AP where
  some := fun {sh ts c il} I tk hc hi => by
    obtain ⟨o, os, eo⟩ := List.exists_cons_of_ne_nil (orders_ne ts.length ts rfl)
    obtain ⟨_, pl⟩ := cd_parts I tk.2.2.2 hc
    have po := orders_mem ts.length ts o rfl (by rw [eo]; exact List.mem_cons_self)
    obtain ⟨p, pr, ep⟩ := List.exists_cons_of_ne_nil (plans_len I _ il pl o [] fun t m => tk.2.2.2 t (po.mem_iff.mp m)).2
    show (orders ts.length ts).flatMap _ ≠ []
    rw [eo, List.flatMap_cons, ep]
    simp
  few := fun {sh ts c il} I tk hc hi => by
    obtain ⟨_, pl⟩ := cd_parts I tk.2.2.2 hc
    have l6 := orders_len ts.length ts rfl tk.2.2.1
    have := flat_len (fun o => plansO sh ((c.map parts).getD []) il o []) 64000 (orders ts.length ts) fun o m => by
      have po := orders_mem ts.length ts o rfl m
      refine Nat.le_trans (plans_len I _ il pl o [] fun t m => tk.2.2.2 t (po.mem_iff.mp m)).1 ?_
      have : o.length ≤ 3 := by rw [po.length_eq]; exact tk.2.2.1
      exact Nat.le_trans (Nat.pow_le_pow_right (by decide) this) (by decide)
    refine Nat.le_trans this ?_
    exact Nat.le_trans (Nat.mul_le_mul_right _ l6) (by decide)
  ok := fun {sh ts c il} I tk hc hi ws m w mw => by
    obtain ⟨ct, _⟩ := cd_parts I tk.2.2.2 hc
    obtain ⟨o, mo, m2⟩ := List.mem_flatMap.mp m
    have po := orders_mem ts.length ts o rfl mo
    obtain ⟨h1, h2, h3⟩ := plans_good I ct (fun q mq => insh_ok I (hi q mq)) o [] (fun t m => tk.2.2.2 t (po.mem_iff.mp m)) ws m2 w mw
    exact ⟨po.mem_iff.mp h1, h2, h3⟩
end K06

set_option maxHeartbeats 1000000
namespace K06
open PySem L2
/-! k24, the pure part: plans of fewer indexes are those of more, filtered by a test on each way -/
def allows (il : List (Str × Str)) : Way → Bool
  | .by t f _ _ => decide ((t, f) ∈ il)
  | .byof t f _ => decide ((t, f) ∈ il)
  | _ => true
def Sub (a b : List (Str × Str)) : Prop := ∀ q ∈ a, q ∈ b
theorem wayOf_fewer {a b : List (Str × Str)} (h : Sub a b) (k t : Str) (early : List Str) (l r : Tr) : wayOf a k t early l r = (wayOf b k t early l r).filter (allows a) := by
  cases l with
  | field t' f =>
    unfold wayOf
    dsimp only
    by_cases c : t' = t ∧ tabsIn r ≠ [] ∧ ∀ x ∈ tabsIn r, x ∈ early
    · rw [if_pos c, if_pos c]
      by_cases e : f = k
      · rw [if_pos e, if_pos e]
        rfl
      · rw [if_neg e, if_neg e]
        by_cases m : (t, f) ∈ a
        · rw [if_pos m, if_pos (h _ m)]
          simp [Option.filter, allows, m]
        · rw [if_neg m]
          by_cases m2 : (t, f) ∈ b
          · rw [if_pos m2]
            simp [Option.filter, allows, m]
          · rw [if_neg m2]
            rfl
    · rw [if_neg c, if_neg c]
      rfl
  | _ => rfl
theorem wayOf_field {b : List (Str × Str)} {k t : Str} {early : List Str} {l r : Tr} {w : Way} (h : wayOf b k t early l r = some w) : ∃ f, l = .field t f := by
  cases l with
  | field t' f =>
    unfold wayOf at h
    dsimp only at h
    by_cases c : t' = t ∧ tabsIn r ≠ [] ∧ ∀ x ∈ tabsIn r, x ∈ early
    · exact ⟨f, by rw [c.1]⟩
    · rw [if_neg c] at h
      cases h
  | _ => cases h
theorem wayOf_back {b : List (Str × Str)} {k t f : Str} {early : List Str} {r : Tr} (ht : t ∉ early) : wayOf b k t early r (.field t f) = none := by
  cases r with
  | field t' g =>
    unfold wayOf
    dsimp only
    rw [if_neg]
    rintro ⟨_, _, h⟩
    exact ht (h t List.mem_cons_self)
  | _ => rfl
theorem eqWay_fewer {a b : List (Str × Str)} (h : Sub a b) {k t : Str} {early : List Str} (ht : t ∉ early) (p : Tr) : eqWay a k t early p = (eqWay b k t early p).filter (allows a) := by
  cases p with
  | bin op l r =>
    unfold eqWay
    dsimp only
    by_cases e : op = gEq
    · rw [if_pos e, if_pos e, wayOf_fewer h k t early l r, wayOf_fewer h k t early r l]
      cases c : wayOf b k t early l r with
      | none => rfl
      | some w =>
        obtain ⟨f, rfl⟩ := wayOf_field c
        rw [wayOf_back ht]
        dsimp only
        cases d : (Option.filter (allows a) (some w)) with
        | none => rfl
        | some v => rfl
    · rw [if_neg e, if_neg e]
      rfl
  | _ => rfl
theorem byWay_fewer {a b : List (Str × Str)} (h : Sub a b) (ps : List Tr) (t f : Str) : byWay ps a t f = (byWay ps b t f).filter (allows a) := by
  unfold byWay
  cases specF t ps f with
  | none => rfl
  | some s =>
    dsimp only
    by_cases m : (t, f) ∈ a
    · rw [if_pos m, if_pos (h _ m)]
      simp [Option.filter, allows, m]
    · rw [if_neg m]
      by_cases m2 : (t, f) ∈ b
      · rw [if_pos m2]
        simp [Option.filter, allows, m]
      · rw [if_neg m2]
        rfl
theorem keyWay_all (il : List (Str × Str)) (ps : List Tr) (t : Str) (fs : List Str) : (keyWay ps t fs).filter (allows il) = keyWay ps t fs := by
  cases fs with
  | nil => rfl
  | cons k _ =>
    unfold keyWay
    dsimp only
    cases specF t ps k <;> rfl
theorem fm_filter {α β : Type} (p : β → Bool) (f g : α → Option β) : ∀ l : List α, (∀ x ∈ l, f x = (g x).filter p) → l.filterMap f = (l.filterMap g).filter p
  | [], _ => rfl
  | x :: l, h => by
    have ih := fm_filter p f g l fun y m => h y (List.mem_cons_of_mem _ m)
    have hx := h x List.mem_cons_self
    cases c : g x with
    | none =>
      rw [c] at hx
      rw [List.filterMap_cons_none hx, List.filterMap_cons_none c, ih]
    | some y =>
      rw [c] at hx
      rw [List.filterMap_cons_some c, List.filter_cons]
      by_cases q : p y = true
      · rw [if_pos q, List.filterMap_cons_some (b := y) (by rw [hx]; simp [Option.filter, q]), ih]
      · rw [if_neg q, List.filterMap_cons_none (by rw [hx]; simp [Option.filter, q]), ih]
theorem ways_fewer {a b : List (Str × Str)} (h : Sub a b) (sh : List (Str × List Str)) (ps : List Tr) {t : Str} {early : List Str} (ht : t ∉ early) : waysF sh ps a t early = (waysF sh ps b t early).filter (allows a) := by
  unfold waysF
  by_cases c : Bad t ps = true
  · rw [if_pos c, if_pos c]
    rfl
  · rw [if_neg c, if_neg c, List.filter_cons, if_pos (show allows a (.all t) = true from rfl), List.filter_append, List.filter_append, keyWay_all]
    rw [fm_filter (allows a) (byWay ps a t) (byWay ps b t) _ fun f _ => byWay_fewer h ps t f]
    rw [fm_filter (allows a) (eqWay a _ t early) (eqWay b _ t early) ps fun p _ => eqWay_fewer h ht p]
def fits24 (il : List (Str × Str)) (p : List Way) : Bool := p.all (allows il)
theorem flat_filter {α β : Type} (p : β → Bool) (q : α → Bool) (f g : α → List β) : ∀ l : List α, (∀ x ∈ l, q x = true → f x = (g x).filter p) → (∀ x ∈ l, q x = false → (g x).filter p = []) → (l.filter q).flatMap f = (l.flatMap g).filter p
  | [], _, _ => rfl
  | x :: l, h1, h2 => by
    have ih := flat_filter p q f g l (fun y m => h1 y (List.mem_cons_of_mem _ m)) (fun y m => h2 y (List.mem_cons_of_mem _ m))
    rw [List.flatMap_cons, List.filter_append, List.filter_cons]
    cases c : q x with
    | true => rw [if_pos rfl, List.flatMap_cons, h1 x List.mem_cons_self c, ih]
    | false => rw [if_neg (by decide), h2 x List.mem_cons_self c, List.nil_append, ih]
theorem cons_filter (il : List (Str × Str)) (w : Way) : ∀ l : List (List Way), (l.map (w :: ·)).filter (fits24 il) = if allows il w = true then (l.filter (fits24 il)).map (w :: ·) else []
  | [] => by split <;> rfl
  | x :: l => by
    have ih := cons_filter il w l
    have e : fits24 il (w :: x) = (allows il w && fits24 il x) := rfl
    rw [List.map_cons, List.filter_cons, List.filter_cons, ih, e]
    cases c : allows il w with
    | false => rfl
    | true =>
      cases d : fits24 il x <;> simp
theorem plans_fewer {a b : List (Str × Str)} (h : Sub a b) (sh : List (Str × List Str)) (ps : List Tr) : ∀ (o early : List Str), o.Nodup → (∀ t ∈ o, t ∉ early) → plansO sh ps a o early = (plansO sh ps b o early).filter (fits24 a)
  | [], _, _, _ => rfl
  | t :: r, early, nd, ne => by
    rw [List.nodup_cons] at nd
    have ih := plans_fewer h sh ps r (early ++ [t]) nd.2 fun x m => by
      rw [List.mem_append, List.mem_singleton]
      rintro (q | q)
      · exact ne x (List.mem_cons_of_mem _ m) q
      · exact nd.1 (q ▸ m)
    show (waysF sh ps a t early).flatMap (fun w => (plansO sh ps a r (early ++ [t])).map (w :: ·)) = ((waysF sh ps b t early).flatMap fun w => (plansO sh ps b r (early ++ [t])).map (w :: ·)).filter (fits24 a)
    rw [ways_fewer h sh ps (ne t List.mem_cons_self)]
    refine flat_filter (fits24 a) (allows a) _ _ _ (fun w _ q => ?_) (fun w _ q => ?_)
    · rw [cons_filter, if_pos q, ih]
    · rw [cons_filter, if_neg (by rw [q]; decide)]
theorem AP_fewer {a b : List (Str × Str)} (h : Sub a b) (sh : List (Str × List Str)) {ts : List Str} (nd : ts.Nodup) (c : Option Tr) : AP sh ts c a = (AP sh ts c b).filter (fits24 a) := by
  unfold AP
  have e := flat_filter (fits24 a) (fun _ => true) (fun o => plansO sh ((c.map parts).getD []) a o []) (fun o => plansO sh ((c.map parts).getD []) b o []) (orders ts.length ts) (fun o m _ => ?_) (fun _ _ q => by cases q)
  · rw [List.filter_eq_self.mpr fun _ _ => rfl] at e
    exact e
  · have pm := orders_mem _ _ _ rfl m
    exact plans_fewer h sh _ o [] (pm.nodup_iff.mpr nd) fun t _ q => by cases q
theorem AP_fits {a b : List (Str × Str)} (h : Sub a b) (sh : List (Str × List Str)) {ts : List Str} (nd : ts.Nodup) (c : Option Tr) : ∀ p ∈ AP sh ts c b, (p ∈ AP sh ts c a ↔ fits24 a p = true) := fun p m => by
  rw [AP_fewer h sh nd c, List.mem_filter]
  exact ⟨fun q => q.2, fun q => ⟨m, q⟩⟩
/-- [p for p in two if p in one] is one -/
theorem AP_left {a b : List (Str × Str)} (h : Sub a b) (sh : List (Str × List Str)) {ts : List Str} (nd : ts.Nodup) (c : Option Tr) (q : List Way → Bool) (hq : ∀ p ∈ AP sh ts c b, q p = true ↔ p ∈ AP sh ts c a) : (AP sh ts c b).filter q = AP sh ts c a := by
  rw [AP_fewer h sh nd c]
  refine List.filter_congr fun p m => ?_
  have e := (hq p m).trans (AP_fits h sh nd c p m)
  cases x : q p <;> cases y : fits24 a p <;> simp_all
theorem AP_sub {a b : List (Str × Str)} (h : Sub a b) (sh : List (Str × List Str)) {ts : List Str} (nd : ts.Nodup) (c : Option Tr) : ∀ p ∈ AP sh ts c a, p ∈ AP sh ts c b := fun p m => by
  rw [AP_fewer h sh nd c, List.mem_filter] at m
  exact m.1
/-- the best of more costs no more -/
theorem best_fewer {a b : List (Str × Str)} (h : Sub a b) (sh : List (Str × List Str)) {ts : List Str} (nd : ts.Nodup) (c : Option Tr) {cs : List (Str × Int)} {p q : List Way} (hp : p ∈ AP sh ts c a) (hq : ∀ x ∈ AP sh ts c b, costF cs q ≤ costF cs x) : costF cs q ≤ costF cs p := hq p (AP_sub h sh nd c p hp)
/-! indexes of other tables change nothing -/
def Alike (ts : List Str) (a b : List (Str × Str)) : Prop := ∀ t ∈ ts, ∀ f, (t, f) ∈ a ↔ (t, f) ∈ b
theorem wayOf_alike {a b : List (Str × Str)} {t : Str} (h : ∀ f, (t, f) ∈ a ↔ (t, f) ∈ b) (k : Str) (early : List Str) (l r : Tr) : wayOf a k t early l r = wayOf b k t early l r := by
  cases l with
  | field t' f =>
    unfold wayOf
    simp only [h f]
  | _ => rfl
theorem ways_alike {a b : List (Str × Str)} {t : Str} (h : ∀ f, (t, f) ∈ a ↔ (t, f) ∈ b) (sh : List (Str × List Str)) (ps : List Tr) (early : List Str) : waysF sh ps a t early = waysF sh ps b t early := by
  have e1 : byWay ps a t = byWay ps b t := funext fun f => by
    unfold byWay
    simp only [h f]
  have e2 : ∀ k, eqWay a k t early = eqWay b k t early := fun k => funext fun p => by
    cases p with
    | bin op l r =>
      unfold eqWay
      dsimp only
      rw [wayOf_alike h k early l r, wayOf_alike h k early r l]
    | _ => rfl
  unfold waysF
  rw [e1, e2]
theorem plans_alike {a b : List (Str × Str)} (sh : List (Str × List Str)) (ps : List Tr) : ∀ (o early : List Str), Alike o a b → plansO sh ps a o early = plansO sh ps b o early
  | [], _, _ => rfl
  | t :: r, early, h => by
    show (waysF sh ps a t early).flatMap (fun w => (plansO sh ps a r (early ++ [t])).map (w :: ·)) = (waysF sh ps b t early).flatMap fun w => (plansO sh ps b r (early ++ [t])).map (w :: ·)
    rw [ways_alike (h t List.mem_cons_self), plans_alike sh ps r _ fun x m => h x (List.mem_cons_of_mem _ m)]
theorem AP_alike {a b : List (Str × Str)} {ts : List Str} (h : Alike ts a b) (sh : List (Str × List Str)) (c : Option Tr) : AP sh ts c a = AP sh ts c b := by
  unfold AP
  have key : ∀ l : List (List Str), (∀ o ∈ l, Alike o a b) → l.flatMap (fun o => plansO sh ((c.map parts).getD []) a o []) = l.flatMap fun o => plansO sh ((c.map parts).getD []) b o [] := by
    intro l
    induction l with
    | nil => intro _; rfl
    | cons o l ih =>
      intro g
      rw [List.flatMap_cons, List.flatMap_cons, plans_alike sh _ o [] (g o List.mem_cons_self), ih fun x m => g x (List.mem_cons_of_mem _ m)]
  refine key _ fun o m t mt => h t ?_
  exact (orders_mem _ _ _ rfl m).mem_iff.mp mt
end K06

set_option maxHeartbeats 1000000
set_option linter.all false
namespace K06
open PySem L2
/-! plans as data: told apart, and lists of them -/
theorem evT (xs ys : List PyData) : PyData.eqv (.tuple xs) (.tuple ys) = PyData.eqvAll xs ys := by rw [PyData.eqv]
theorem evC (x y : PyData) (xs ys : List PyData) : PyData.eqvAll (x :: xs) (y :: ys) = (PyData.eqv x y && PyData.eqvAll xs ys) := by rw [PyData.eqvAll]
theorem evN : PyData.eqvAll [] [] = true := by rw [PyData.eqvAll]
theorem evCN (x : PyData) (xs : List PyData) : PyData.eqvAll (x :: xs) [] = false := by rw [PyData.eqvAll]
theorem evNC (x : PyData) (xs : List PyData) : PyData.eqvAll [] (x :: xs) = false := by rw [PyData.eqvAll]
theorem evS (x y : Str) : PyData.eqv (.str x) (.str y) = (x == y) := by rw [PyData.eqv]
theorem evI (x y : Int) : PyData.eqv (.int x) (.int y) = (x == y) := by rw [PyData.eqv]
theorem evST (x : Str) (ys : List PyData) : PyData.eqv (.str x) (.tuple ys) = false := by rw [PyData.eqv]
theorem evTS (x : Str) (ys : List PyData) : PyData.eqv (.tuple ys) (.str x) = false := by rw [PyData.eqv]
theorem evTI (x : Int) (ys : List PyData) : PyData.eqv (.tuple ys) (.int x) = false := by rw [PyData.eqv]
theorem evIT (x : Int) (ys : List PyData) : PyData.eqv (.int x) (.tuple ys) = false := by rw [PyData.eqv]
theorem enc_tup : ∀ t : Tr, ∃ xs, encD t = .tuple xs
  | .num _ => ⟨_, rfl⟩
  | .field _ _ => ⟨_, rfl⟩
  | .bin _ _ _ => ⟨_, rfl⟩
  | .not _ => ⟨_, rfl⟩
theorem nn : (Str.ofString "num" == Str.ofString "not") = false := by decide +kernel
theorem nn' : (Str.ofString "not" == Str.ofString "num") = false := by decide +kernel
theorem eqv_tr : ∀ (a b : Tr), PyData.eqv (encD a) (encD b) = true → a = b
  | .num n, b, h => by
    cases b with
    | num m => simp only [encD, evT, evC, evN, evS, evI, Bool.and_eq_true, beq_iff_eq] at h; rw [h.2.1]
    | field => simp only [encD, evT, evC, evN, evCN, evNC, Bool.and_false, Bool.false_eq_true] at h
    | bin => simp only [encD, evT, evC, evN, evCN, evNC, Bool.and_false, Bool.false_eq_true] at h
    | not => simp only [encD, evT, evC, evS, nn, Bool.false_and, Bool.false_eq_true] at h
  | .field t f, b, h => by
    cases b with
    | num m => simp only [encD, evT, evC, evN, evCN, evNC, Bool.and_false, Bool.false_eq_true] at h
    | field => simp only [encD, evT, evC, evN, evS, Bool.and_eq_true, beq_iff_eq] at h; rw [h.2.1, h.2.2.1]
    | bin op l r =>
      obtain ⟨xs, e⟩ := enc_tup l
      simp only [encD, evT, evC, e, evST, Bool.false_and, Bool.and_false, Bool.false_eq_true] at h
    | not => simp only [encD, evT, evC, evN, evCN, evNC, Bool.and_false, Bool.false_eq_true] at h
  | .bin op l r, b, h => by
    cases b with
    | num m => simp only [encD, evT, evC, evN, evCN, evNC, Bool.and_false, Bool.false_eq_true] at h
    | field =>
      obtain ⟨xs, e⟩ := enc_tup l
      simp only [encD, evT, evC, e, evTS, Bool.false_and, Bool.and_false, Bool.false_eq_true] at h
    | bin op' l' r' =>
      simp only [encD, evT, evC, evN, evS, Bool.and_eq_true, beq_iff_eq] at h
      rw [h.1, eqv_tr l l' h.2.1, eqv_tr r r' h.2.2.1]
    | not => simp only [encD, evT, evC, evN, evCN, evNC, Bool.and_false, Bool.false_eq_true] at h
  | .not x, b, h => by
    cases b with
    | num m => simp only [encD, evT, evC, evS, nn', Bool.false_and, Bool.false_eq_true] at h
    | field => simp only [encD, evT, evC, evN, evCN, evNC, Bool.and_false, Bool.false_eq_true] at h
    | bin => simp only [encD, evT, evC, evN, evCN, evNC, Bool.and_false, Bool.false_eq_true] at h
    | not y =>
      simp only [encD, evT, evC, evN, evS, Bool.and_eq_true] at h
      rw [eqv_tr x y h.2.1]
theorem eqv_o : ∀ (a b : Option Int), PyData.eqv (oD a) (oD b) = true → a = b
  | .none, .none, _ => rfl
  | .some i, .some j, h => by rw [oD, oD, evI] at h; rw [beq_iff_eq.mp h]
  | .none, .some _, h => by simp [oD, PyData.eqv] at h
  | .some _, .none, h => by simp [oD, PyData.eqv] at h
def tagW : Way → Str
  | .all _ => Str.ofString "all"
  | .none _ => Str.ofString "none"
  | .key _ _ _ => Str.ofString "key"
  | .by _ _ _ _ => Str.ofString "by"
  | .keyof _ _ => Str.ofString "keyof"
  | .byof _ _ _ => Str.ofString "byof"
theorem enc_tag : ∀ a : Way, ∃ xs, encW a = .tuple (.str (tagW a) :: xs)
  | .all _ => ⟨_, rfl⟩
  | .none _ => ⟨_, rfl⟩
  | .key _ _ _ => ⟨_, rfl⟩
  | .by _ _ _ _ => ⟨_, rfl⟩
  | .keyof _ _ => ⟨_, rfl⟩
  | .byof _ _ _ => ⟨_, rfl⟩
theorem tag_eq {a b : Way} (h : PyData.eqv (encW a) (encW b) = true) : (tagW a == tagW b) = true := by
  obtain ⟨xs, e⟩ := enc_tag a
  obtain ⟨ys, f⟩ := enc_tag b
  rw [e, f, evT, evC, evS, Bool.and_eq_true] at h
  exact h.1
theorem eqv_way {a b : Way} (h : PyData.eqv (encW a) (encW b) = true) : a = b := by
  have g := tag_eq h
  cases a <;> cases b <;> first
    | (dsimp only [tagW] at g; exact absurd g (by decide +kernel))
    | (simp only [encW, evT, evC, evN, evS, Bool.and_eq_true, beq_iff_eq] at h
       first
         | rw [h.2.1, eqv_o _ _ h.2.2.1, eqv_o _ _ h.2.2.2.1]
         | rw [h.2.1, h.2.2.1, eqv_o _ _ h.2.2.2.1, eqv_o _ _ h.2.2.2.2.1]
         | rw [h.2.1, h.2.2.1, eqv_tr _ _ h.2.2.2.1]
         | rw [h.2.1, eqv_tr _ _ h.2.2.1]
         | rw [h.2.1])
theorem eqv_ways : ∀ (a b : List Way), PyData.eqvAll (a.map encW) (b.map encW) = true → a = b
  | [], [], _ => rfl
  | x :: a, y :: b, h => by
    rw [List.map_cons, List.map_cons, evC, Bool.and_eq_true] at h
    rw [eqv_way h.1, eqv_ways a b h.2]
  | [], _ :: _, h => by rw [List.map_cons, List.map_nil, evNC] at h; cases h
  | _ :: _, [], h => by rw [List.map_cons, List.map_nil, evCN] at h; cases h
theorem eqv_plan {a b : List Way} (h : PyData.eqv (encP a) (encP b) = true) : a = b := eqv_ways a b (by rw [encP, encP, evT] at h; exact h)
def Laid (ps : List (List Way)) : Prop := ∀ ws ∈ ps, ∀ w ∈ ws, WLay w
def isIn (ps : List (List Way)) (p : List Way) : Bool := (ps.map encP).any fun z => PyData.eqv z (encP p)
theorem isIn_iff {ps : List (List Way)} {p : List Way} (h : ∀ w ∈ p, WLay w) : isIn ps p = true ↔ p ∈ ps := by
  constructor
  · intro e
    obtain ⟨z, mz, e⟩ := List.any_eq_true.mp e
    obtain ⟨q, mq, rfl⟩ := List.mem_map.mp mz
    exact eqv_plan e ▸ mq
  · intro m
    exact List.any_eq_true.mpr ⟨encP p, List.mem_map_of_mem m, eqvP h⟩
theorem dp_plans {K : PySem.W.Frag} {H : Hp} : ∀ {us : List V} {ps : List (List Way)}, Paired (PlanAt K H) us ps → DpAll K H us (ps.map encP)
  | _, _, .nil => .nil
  | _, _, .cons h r => .cons (dpP h) (dp_plans r)
theorem dpL {K : PySem.W.Frag} {H : Hp} {r : Addr} {ps : List (List Way)} (h : PlansAt K H r ps) : Dp K H (.ref r) (.list (ps.map encP)) := by
  obtain ⟨us, hr, p⟩ := h
  exact .lst (SqL.of hr) (dp_plans p)
theorem lay_plans : ∀ {ps : List (List Way)}, Laid ps → PyData.canLayAll0 (ps.map encP) = true ∧ PyData.depthAll (ps.map encP) ≤ 31
  | [], _ => by simp [PyData.canLayAll0, PyData.depthAll]
  | w :: r, h => by
    obtain ⟨h1, h2⟩ := layWs (h w List.mem_cons_self)
    obtain ⟨r1, r2⟩ := lay_plans (ps := r) fun x m => h x (List.mem_cons_of_mem _ m)
    refine ⟨by simp [PyData.canLayAll0, PyData.canLay0, encP, h1, r1], ?_⟩
    simp only [List.map_cons, PyData.depthAll, encP, PyData.depth]
    omega
theorem layL {ps : List (List Way)} (h : Laid ps) : PyData.canLay0 (.list (ps.map encP)) = true ∧ SeqAt.shaped (.list (ps.map encP)) = true := by
  obtain ⟨h1, h2⟩ := lay_plans h
  have c : PyData.canLay0 (.list (ps.map encP)) = true := by simp [PyData.canLay0, h1]
  refine ⟨c, shaped_of c ?_⟩
  simp only [PyData.depth]
  omega
theorem eqvL {ps : List (List Way)} (h : Laid ps) : PyData.eqv (.list (ps.map encP)) (.list (ps.map encP)) = true := SeqAt.eqv_refl _ (layL h).1
end K06

set_option Elab.async false
set_option linter.all false
set_option maxRecDepth 100000
set_option maxHeartbeats 1000000
/-! sets of tuples of texts, up to eighteen: their state, what is asked of them, the search -/
noncomputable section
namespace PT
open PySem PySem.Spec PyProof.Rows L2 PySem.Froz

abbrev hsh (P : Program) (w : World) (k : List Str) : Int := tupleKeyHash (strKind P w) k
/-- q.1 has the texts q.2 -/
abbrev Has (P : Program) (w : World) (h : Heap) (q : Addr × List Str) : Prop := IsTupleKey (strKind P w) h q.2 q.1
def ent (P : Program) (w : World) (q : Addr × List Str) : Int × Value := (hsh P w q.2, .ref q.1)
section
variable {P : Program} {w : World} {A : Around} {E : Value → Shared → Prop} {s : Shared}

/-! ### small asks -/
theorem texts_of {k : List Str} {vs : List Value} (h : ItemsAre (strKind P w) k vs) : StrsAre vs k := by
  induction h with
  | nil => exact .nil
  | @cons c v cs us e _ ih =>
    cases v with
    | str c' u =>
      obtain rfl : c = c' := (strKind P w).inj (.str c' u) c c' e (is_str c' u)
      exact .cons c u ih
    | _ => exact Bool.noConfusion e
theorem str_of {k : List Str} {vs : List Value} (h : ItemsAre (strKind P w) k vs) {v : Value} (m : v ∈ vs) : ∃ c u, v = .str c u := by
  have a := texts_of h
  clear h
  induction a with
  | nil => cases m
  | cons c u _ ih =>
    rcases List.mem_cons.mp m with e | m
    · exact ⟨c, u, e⟩
    · exact ih m
theorem clsStr (n : Nat) (c : Str) (u : Tok) : ofAClassStatement n (.str c u) = pure false := by cases n <;> rfl
theorem byStr (n : Nat) (c : Str) (u : Tok) : hashByValue n (.str c u) = pure false := by cases n <;> rfl
/-- a tuple of texts is of no class statement -/
theorem noClass {q : Addr × List Str} {Q : Bool → Shared → Prop} (x : Has P w s.heap q) (h : Q false s) : wpAny (model P w) A (ofAClassStatement 8 (.ref q.1)) Q E s := by
  have tI := x.typeIs
  obtain ⟨ob, its, n, e1, _, e2, hi⟩ := x
  unfold ofAClassStatement
  refine wpAny_bind (wpAny_typeOf tI ?_)
  dsimp only
  rw [show (("tuple" : String) == "tuple") = true from rfl]
  simp only [if_true, Bool.not_true, Bool.false_eq_true, if_false]
  try refine wpAny_bind (wpAny_pure ?_)
  try simp only [Bool.not_true, Bool.false_eq_true, if_false]
  show wpAny _ _ (seqItems? (.ref q.1) >>= _) _ _ s
  refine wpAny_bind (wpAny_seqItems e1 e2 ?_)
  dsimp only
  refine wpAny_bind ?_
  rw [show its = its.toList.toArray from (Array.toArray_toList (xs := its)).symm, List.forIn_toArray]
  refine wpAny_forIn_list _ (fun left r s' => r.1 = none ∧ s' = s ∧ ∀ v ∈ left, v ∈ its.toList) _ (fun v left r s' ⟨hr, e, hm⟩ => ?_) (fun r s' ⟨hr, e, _⟩ => ?_) _ _ ⟨rfl, rfl, fun v m => m⟩
  · subst e
    obtain ⟨c, u, rfl⟩ := str_of hi (hm v List.mem_cons_self)
    rw [clsStr]
    refine wpAny_bind (wpAny_pure ?_)
    simp only [Bool.false_eq_true, if_false]
    exact wpAny_pure ⟨rfl, rfl, fun y m => hm y (List.mem_cons_of_mem _ m)⟩
  · obtain ⟨r1, r2⟩ := r
    have hr : r1 = none := hr
    subst hr e
    exact wpAny_pure h
/-- whether its hash comes from its value: asked, whatever is told -/
theorem byVal {q : Addr × List Str} {Q : Bool → Shared → Prop} (x : Has P w s.heap q) (h : ∀ b, Q b s) : wpAny (model P w) A (hashByValue 8 (.ref q.1)) Q E s := by
  have tI := x.typeIs
  obtain ⟨ob, its, n, e1, _, e2, hi⟩ := x
  unfold hashByValue
  refine wpAny_bind (wpAny_specialOf tI F.slot_tuple_hash.lookup ?_)
  show wpAny _ _ (seqItems? (.ref q.1) >>= _) _ _ s
  refine wpAny_bind (wpAny_seqItems e1 e2 ?_)
  refine wpAny_bind ?_
  show wpAny _ _ (forIn its _ _) _ _ s
  rw [show its = its.toList.toArray from (Array.toArray_toList (xs := its)).symm, List.forIn_toArray]
  refine wpAny_forIn_list _ (fun left r s' => r.1 = none ∧ s' = s ∧ ∀ v ∈ left, v ∈ its.toList) _ (fun v left r s' ⟨hr, e, hm⟩ => ?_) (fun r s' ⟨hr, e, _⟩ => ?_) _ _ ⟨rfl, rfl, fun v m => m⟩
  · subst e
    obtain ⟨c, u, rfl⟩ := str_of hi (hm v List.mem_cons_self)
    rw [byStr]
    refine wpAny_bind (wpAny_pure ?_)
    simp only [Bool.not_false, if_true]
    refine wpAny_pure ?_
    exact wpAny_pure (h _)
  · obtain ⟨r1, r2⟩ := r
    subst e
    have hr : r1 = none := hr
    subst hr
    exact wpAny_pure (h _)
end
end PT

set_option Elab.async false
set_option linter.all false
set_option maxRecDepth 100000
set_option maxHeartbeats 1000000
/-! the set's state; the search -/
noncomputable section
namespace PT
open PySem PySem.Spec PyProof.Rows L2 PySem.Froz
/-- the set at a: its tuples as they lie in the table -/
structure Here (P : Program) (w : World) (h : Heap) (a : Addr) (L : List (Addr × List Str)) (es : Array (Int × Value)) (ep : Nat) (t : SetTable) : Prop where
  lies : ∃ ob, h.get? a = some ob ∧ ob.ExactSet ∧ ob.data = .set es ep t
  rows : es.toList = L.map (ent P w)
  tabs : TabOk t (L.map fun q => hsh P w q.2)
  once : (L.map Prod.snd).Nodup
  tups : ∀ q ∈ L, Has P w h q
  leds : w.params.followText "set-order" = true ∨ t.led = true
  room : L.length * 5 < t.mask * 3
  most : L.length ≤ 18
section
variable {P : Program} {w : World} {A : Around} {E : Value → Shared → Prop} {s : Shared} {a : Addr} {L : List (Addr × List Str)} {es : Array (Int × Value)} {ep : Nat} {t : SetTable}
theorem Here.many (R : Here P w s.heap a L es ep t) : es.size = L.length := by
  have z := congrArg List.length R.rows
  rwa [Array.length_toList, List.length_map] at z
theorem Here.plen (R : Here P w s.heap a L es ep t) : t.place.toList.length = L.length := by
  have z := R.tabs.sz
  rwa [List.length_map, ← Array.length_toList] at z
theorem Here.fit (R : Here P w s.heap a L es ep t) : t.fits es.size = true := by
  have z := R.plen
  rw [Array.length_toList] at z
  have r := R.room
  unfold SetTable.fits SetTable.fill
  rw [R.tabs.dm, R.many, z]
  simp
  omega
theorem Here.row (R : Here P w s.heap a L es ep t) {i : Nat} {q : Addr × List Str} (e : L[i]? = some q) : es[i]? = some (ent P w q) := by
  have z := congrArg (fun l => l[i]?) R.rows
  have z : es.toList[i]? = (L.map (ent P w))[i]? := z
  rw [List.getElem?_map, e, Array.getElem?_toList] at z
  exact z
theorem Here.noGw (R : Here P w s.heap a L es ep t) : t.gaveWay ≠ true := by
  have o := mask_odd R.tabs.mok
  unfold SetTable.gaveWay
  simp [o]

/-- the c-th step of a search -/
abbrev stp (t : SetTable) (h : Int) (c : Nat) : SetTable.Probe := nth t.mask (runAt t.mask (SetTable.bits h % (t.mask + 1)) (SetTable.bits h)) c
theorem stp_none (t : SetTable) (h : Int) : ∀ c, (stp t h c).dummy = none
  | 0 => rfl
  | c + 1 => by
    have ih := stp_none t h c
    show (nth t.mask _ (c + 1)).dummy = none
    rw [nth_succ]
    unfold adv
    split
    · exact ih
    · exact ih
theorem stp_on (t : SetTable) (h : Int) (c q : Nat) : nth t.mask (stp t h c) q = stp t h (c + q) := (nth_add t.mask c _ q).symm
/-- what lies at the d-th step has another hash -/
def Other (P : Program) (w : World) (L : List (Addr × List Str)) (t : SetTable) (h : Int) (d : Nat) : Prop := ∀ (i : Nat) (q : Addr × List Str), t.place.toList[i]? = some (way t.mask h d) → L[i]? = some q → hsh P w q.2 ≠ h
/-- what the probe answers from the c-th step on, K being the first free one -/
theorem Here.ans (R : Here P w s.heap a L es ep t) {h : Int} {K c : Nat} (kf : K < 10 * SetTable.turns t.mask) (k1 : way t.mask h K ∉ t.place.toList) (k2 : ∀ d, d < K → way t.mask h d ∈ t.place.toList) (hc : c ≤ K) :
    (∃ d i q, c ≤ d ∧ d < K ∧ t.place.toList[i]? = some (way t.mask h d) ∧ L[i]? = some q ∧ hsh P w q.2 = h ∧ (∀ d', c ≤ d' → d' < d → Other P w L t h d') ∧
      t.probe (fun i => (es[i]?.map (·.1)).getD 0) h (stp t h c) = some (.candidate (way t.mask h d) i (stp t h (d + 1)))) ∨
    ((∀ d', c ≤ d' → d' < K → Other P w L t h d') ∧ t.probe (fun i => (es[i]?.map (·.1)).getD 0) h (stp t h c) = some (.empty (way t.mask h K) none)) := by
  have kk : c + (K - c) = K := by omega
  have G := go_spec t R.tabs.ris R.tabs.dm (fun i => (es[i]?.map (·.1)).getD 0) h (10 * SetTable.turns t.mask) (K - c) (stp t h c) (stp_none t h c) (by omega)
    (fun q lt => by rw [stp_on]; exact k2 (c + q) (by omega)) (by rw [stp_on, kk]; exact k1)
  have hash : ∀ {i : Nat} {q : Addr × List Str}, L[i]? = some q → (fun i => (es[i]?.map (·.1)).getD 0) i = hsh P w q.2 := fun {i q} e => by
    show (es[i]?.map (·.1)).getD 0 = _
    rw [R.row e]
    rfl
  have oth : ∀ n : Nat, (∀ (k' i' : Nat), k' < n → t.place.toList[i']? = some (nth t.mask (stp t h c) k').j → (fun i => (es[i]?.map (·.1)).getD 0) i' ≠ h) → ∀ d', c ≤ d' → d' < c + n → Other P w L t h d' := fun n g d' l1 l2 => fun i q e1 e2 => by
    have z := g (d' - c) i (by omega) (by rw [stp_on, show c + (d' - c) = d' by omega]; exact e1)
    rwa [hash e2] at z
  rcases G with ⟨q, i, g1, g2, g3, g4, g5⟩ | ⟨g1, g2⟩
  · left
    rw [stp_on] at g2
    obtain ⟨p, lp⟩ : ∃ p, L[i]? = some p := by
      have z := (List.getElem?_eq_some_iff.mp g2).1
      rw [R.plen] at z
      exact ⟨_, List.getElem?_eq_getElem z⟩
    have g3 : (fun i => (es[i]?.map (·.1)).getD 0) i = h := g3
    rw [hash lp] at g3
    rw [stp_on, stp_on] at g5
    exact ⟨c + q, i, p, by omega, by omega, g2, lp, g3, oth q g4, g5⟩
  · right
    rw [stp_on, kk] at g2
    refine ⟨fun d' l1 l2 => oth (K - c) g1 d' l1 (by omega), g2⟩

/-- nobody sees such a search -/
theorem unseen {q : Addr × List Str} {Q : Bool → Shared → Prop} (x : Has P w s.heap q) {us : List Value} (hu : ∀ u ∈ us, ∃ r, u = .ref r.1 ∧ Has P w s.heap r) (h : Q false s) :
    wpAny (model P w) A (searchCouldBeSeen (.ref q.1) us) Q E s := by
  unfold searchCouldBeSeen
  refine wpAny_bind (wpAny_forIn_list _ (fun left r s' => r.1 = none ∧ s' = s ∧ ∀ u ∈ left, u ∈ us) _ (fun u left r s' ⟨e1, e2, m⟩ => ?_) (fun r s' ⟨e1, e2, _⟩ => ?_) _ _ ⟨rfl, rfl, fun _ m => m⟩)
  · subst e2
    have next : ∀ y ∈ left, y ∈ us := fun y my => m y (List.mem_cons_of_mem _ my)
    obtain ⟨r', rfl, y⟩ := hu u (m u List.mem_cons_self)
    dsimp only
    split
    · exact wpAny_pure ⟨rfl, rfl, next⟩
    · refine wpAny_bind (wpAny_eqIsQuiet_tuple x ?_)
      rw [if_neg (by decide)]
      try refine wpAny_bind (wpAny_pure ?_)
      refine wpAny_bind (wpAny_eqIsQuiet_tuple y ?_)
      rw [if_neg (by decide)]
      try refine wpAny_bind (wpAny_pure ?_)
      refine wpAny_bind (noClass x ?_)
      rw [if_neg (by decide)]
      try refine wpAny_bind (wpAny_pure ?_)
      refine wpAny_bind (noClass y ?_)
      rw [if_neg (by decide)]
      try refine wpAny_bind (wpAny_pure ?_)
      exact wpAny_pure ⟨rfl, rfl, next⟩
  · obtain ⟨r1, r2⟩ := r
    have e1 : r1 = none := e1
    subst e1 e2
    exact wpAny_pure h

/-- the search from the c-th step on -/
theorem Here.seek (R : Here P w s.heap a L es ep t) {x : Addr} {k : List Str} (hx : Has P w s.heap (x, k)) (hu : A.units < cLine) {K : Nat} (kf : K < 10 * SetTable.turns t.mask)
    (k1 : way t.mask (hsh P w k) K ∉ t.place.toList) (k2 : ∀ d, d < K → way t.mask (hsh P w k) d ∈ t.place.toList) {Q : SetFound → Shared → Prop}
    (yes : k ∈ L.map Prod.snd → Q (.there none) s) (no : k ∉ L.map Prod.snd → Q (.free (way t.mask (hsh P w k) K) false) s) :
    ∀ (m c f : Nat) (stand : Option SetTable.Probe), K - c = m → m < f → c ≤ K → stand.getD (t.probeStart (hsh P w k)) = stp t (hsh P w k) c →
      (∀ (i : Nat) q, L[i]? = some q → q.2 = k → ∃ d, c ≤ d ∧ d < K ∧ t.place.toList[i]? = some (way t.mask (hsh P w k) d)) →
      wpAny (model P w) A (setSearchFrom a (.ref x) (hsh P w k) true f stand) Q E s := by
  intro m
  induction m using Nat.strongRecOn with
  | ind m ih =>
    intro c f stand hm hf hc st ahead
    obtain ⟨f, rfl⟩ : ∃ g, f = g + 1 := ⟨f - 1, by omega⟩
    obtain ⟨ob, o1, o2, o3⟩ := R.lies
    rw [setSearchFrom_succ]
    refine wpAny_bind (wpAny_setState_of o1 o3 R.fit ?_)
    dsimp only
    refine wp_if_neg R.noGw ?_
    try refine wpAny_bind (wpAny_pure ?_)
    rw [st]
    rcases R.ans kf k1 k2 hc with ⟨d, i, p, l1, l2, pl, lp, hh, ot, pr⟩ | ⟨ot, pr⟩
    · rw [pr]
      dsimp only
      have pin := List.mem_of_getElem? lp
      have px := R.tups p pin
      have sl := slot_live R.tabs.ris pl
      have go : wpAny (model P w) A (searchRest a (.ref x) (hsh P w k) true f es t (way t.mask (hsh P w k) d) i (stp t (hsh P w k) (d + 1))) Q E s := by
        unfold searchRest
        rw [R.row lp]
        unfold ent
        dsimp only
        refine wpAny_bind (wpAny_holding (wpAny_eqBool_tuple hu px hx (wpAny_bind (wpAny_setState_of o1 o3 R.fit ?_))))
        dsimp only
        by_cases same : p.2 = k
        · refine wp_if_pos (by rw [decide_eq_true same]; rfl) (wpAny_pure (yes ?_))
          rw [← same]
          exact List.mem_map_of_mem pin
        · rw [decide_eq_false same]
          refine wp_if_neg (by decide) ?_
          try refine wpAny_bind (wpAny_pure ?_)
          rw [sameMem]
          dsimp only
          rw [if_pos rfl, sl]
          dsimp only
          rw [R.row lp]
          unfold ent
          dsimp only
          refine wpAny_bind (wpAny_isSame_ref_self (wpAny_bind (wpAny_pure ?_)))
          rw [if_pos rfl]
          dsimp only
          refine wp_if_neg (by decide) ?_
          refine ih (K - (d + 1)) (by omega) (d + 1) f _ rfl (by omega) (by omega) rfl fun i' q' e1 e2 => ?_
          obtain ⟨d', b1, b2, b3⟩ := ahead i' q' e1 e2
          refine ⟨d', ?_, b2, b3⟩
          rcases Nat.lt_trichotomy d' d with z | z | z
          · exact absurd (by rw [e2]) (ot d' b1 z i' q' b3 e1)
          · subst z
            have s2 := slot_live R.tabs.ris b3
            rw [sl] at s2
            injection s2 with s2
            rw [← s2, lp] at e1
            injection e1 with e1
            exact absurd (e1 ▸ e2) same
          · exact z
      by_cases ld : t.led = true
      · refine wp_if_neg (by rw [ld]; decide) ?_
        try refine wpAny_bind (wpAny_pure ?_)
        exact go
      · refine wp_if_pos (by rw [Bool.not_eq_true] at ld; rw [ld]; rfl) ?_
        refine wpAny_bind (unseen hx (fun u mu => ?_) ?_)
        · obtain ⟨e, me, ue⟩ := List.mem_map.mp mu
          have me2 : e ∈ es.toList := by
            have z : e ∈ es ∧ e.1 = hsh P w k := by simpa using me
            simpa using z.1
          rw [R.rows] at me2
          obtain ⟨r, mr, re⟩ := List.mem_map.mp me2
          exact ⟨r, by rw [← ue, ← re]; rfl, R.tups r mr⟩
        · refine wp_if_neg (by decide) ?_
          try refine wpAny_bind (wpAny_pure ?_)
          exact go
    · rw [pr]
      dsimp only
      refine wpAny_pure (no fun mk => ?_)
      obtain ⟨q, mq, e2⟩ := List.mem_map.mp mk
      obtain ⟨i, hi, e1⟩ := List.getElem_of_mem mq
      have e1 : L[i]? = some q := by rw [List.getElem?_eq_getElem hi, e1]
      obtain ⟨d, b1, b2, b3⟩ := ahead i q e1 e2
      exact ot d b1 b2 i q b3 e1 (by rw [e2])
/-- the search as adding asks for it -/
theorem Here.find (R : Here P w s.heap a L es ep t) {x : Addr} {k : List Str} (hx : Has P w s.heap (x, k)) (hu : A.units < cLine) {Q : SetFound → Shared → Prop} (yes : k ∈ L.map Prod.snd → Q (.there none) s)
    (no : ∀ K, k ∉ L.map Prod.snd → way t.mask (hsh P w k) K ∉ t.place.toList → (∀ d, d < K → way t.mask (hsh P w k) d ∈ t.place.toList) → Q (.free (way t.mask (hsh P w k) K) false) s) :
    wpAny (model P w) A (setSearch a (.ref x) (hsh P w k) true) Q E s := by
  have rm := R.room
  obtain ⟨K, kf, k1, k2⟩ := R.tabs.first (h := hsh P w k) (by rw [List.length_map]; omega)
  have big : K < 100000 := by
    have tu : 10 * SetTable.turns t.mask ≤ 1500 := by
      unfold SetTable.turns
      rcases R.tabs.mok with e | e | e <;> omega
    omega
  unfold setSearch
  refine R.seek hx hu kf k1 k2 yes (fun n => no K n k1 k2) (K - 0) 0 100000 none rfl (by omega) (Nat.zero_le _) rfl fun i q e1 e2 => ?_
  have li := (List.getElem?_eq_some_iff.mp e1).1
  rw [← R.plen] at li
  obtain ⟨d, b1, b2⟩ := R.tabs.before (i := i) k1 (by rw [List.getElem?_map, e1, ← e2]; rfl) (List.getElem?_eq_getElem li)
  exact ⟨d, Nat.zero_le _, b1, by rw [List.getElem?_eq_getElem li, b2]⟩
end
end PT

set_option Elab.async false
set_option linter.all false
set_option maxRecDepth 100000
set_option maxHeartbeats 1000000
/-! one tuple of texts added -/
noncomputable section
namespace PT
open PySem PySem.Spec PyProof.Rows L2 PySem.Froz
theorem fm_map {α β : Type} (f : α → Option β) (g : α → β) : ∀ l : List α, (∀ x ∈ l, f x = some (g x)) → l.filterMap f = l.map g
  | [], _ => rfl
  | x :: l, h => by
    rw [List.filterMap_cons_some (h x List.mem_cons_self), fm_map f g l fun y m => h y (List.mem_cons_of_mem _ m)]
    rfl
theorem getD_range {α : Type} (L : List α) (d : α) : (List.range L.length).map (fun i => L.getD i d) = L := by
  refine List.ext_getElem (by rw [List.length_map, List.length_range]) fun i h1 h2 => ?_
  rw [List.getElem_map, List.getElem_range, List.getD_eq_getElem?_getD, List.getElem?_eq_getElem h2]
  rfl
section
variable {P : Program} {w : World} {A : Around} {E : Value → Shared → Prop} {s : Shared} {a : Addr} {L : List (Addr × List Str)} {es : Array (Int × Value)} {ep : Nat} {t : SetTable}
theorem Has.kept {h h' : Heap} {q : Addr × List Str} (x : Has P w h q) (k : ∀ b o, h.get? b = some o → h'.get? b = some o) : Has P w h' q :=
  let ⟨ob, its, n, e, r⟩ := x; ⟨ob, its, n, k _ _ e, r⟩
theorem Has.but {h h' : Heap} {q : Addr × List Str} {ob : Obj} (x : Has P w h q) (e : h.get? a = some ob) (d : ob.data = .set es ep t) (sb : Heap.SameBut a h h') : Has P w h' q := by
  obtain ⟨o2, its, n, e2, c, d2, r⟩ := x
  refine ⟨o2, its, n, (sb.2 _ fun z => ?_).trans e2, c, d2, r⟩
  rw [z, e] at e2
  rw [← Option.some.inj e2, d] at d2
  cases d2
/-- the table of five laid anew, for thirty-two -/
theorem relaid5 {ob : Obj} (o1 : s.heap.get? a = some ob) (o2 : ob.ExactSet) (o3 : ob.data = .set es ep t) (rows : es.toList = L.map (ent P w)) (T : TabOk t (L.map fun q => hsh P w q.2)) (once : (L.map Prod.snd).Nodup) (tups : ∀ q ∈ L, Has P w s.heap q)
    (leds : w.params.followText "set-order" = true ∨ t.led = true) (hl : L.length = 5) (hm : t.mask = 7) {Q : Unit → Shared → Prop}
    (h : ∀ h' L' es' ep' t', Heap.SameBut a s.heap h' → Here P w h' a L' es' ep' t' → L'.Perm L → Q () { s with heap := h' }) : wpAny (model P w) A (setRelay a (SetTable.grown 5)) Q E s := by
  have sz : es.size = 5 := by
    have z := congrArg List.length rows
    rwa [Array.length_toList, List.length_map, hl] at z
  have psz : t.place.size = 5 := by
    have z := T.sz
    rwa [List.length_map, hl] at z
  have fit : t.fits es.size = true := by
    unfold SetTable.fits SetTable.fill
    rw [T.dm, sz, psz, hm]
    rfl
  obtain ⟨t', order, e, pm, T', em, el, _, _⟩ := relaid_ok t (hs := es.map (·.1)) (wanted := SetTable.grown 5) (M := 31) (by rw [size_20]) (.inr (.inl rfl)) (by rw [Array.size_map, sz]; omega)
  rw [Array.size_map, sz, ← hl] at pm
  have lt : ∀ i ∈ order.toList, i < L.length := fun i m => List.mem_range.mp (pm.mem_iff.mp m)
  obtain ⟨d, _⟩ : ∃ d : Addr × List Str, True := ⟨(0, []), trivial⟩
  have at_ : ∀ i ∈ order.toList, es[i]? = some (ent P w (L.getD i d)) := fun i m => by
    have z : es.toList[i]? = (L.map (ent P w))[i]? := congrArg (fun l => l[i]?) rows
    rw [List.getElem?_map, Array.getElem?_toList] at z
    rw [z, List.getD_eq_getElem?_getD, List.getElem?_eq_getElem (lt i m)]
    rfl
  have rows' : (order.filterMap (es[·]?)).toList = (order.toList.map fun i => L.getD i d).map (ent P w) := by
    rw [Array.toList_filterMap, List.map_map]
    exact fm_map _ _ _ at_
  have pmL : (order.toList.map fun i => L.getD i d).Perm L := by
    have z := pm.map (fun i => L.getD i d)
    rwa [getD_range] at z
  have hs' : (order.toList.map fun i => L.getD i d).map (fun q => hsh P w q.2) = order.toList.map fun i => (es.map (·.1)).getD i 0 := by
    rw [List.map_map]
    refine List.map_congr_left fun i m => ?_
    have z : (es.map (·.1))[i]? = some (hsh P w (L.getD i d).2) := by rw [Array.getElem?_map, at_ i m]; rfl
    rw [Array.getD_eq_getD_getElem?, z]
    rfl
  rw [← hs'] at T'
  generalize (order.toList.map fun i => L.getD i d) = L' at rows' pmL T'
  have sz' : (order.filterMap (es[·]?)).size = es.size := by
    have z := congrArg List.length rows'
    rw [Array.length_toList, List.length_map, pmL.length_eq, hl] at z
    rw [z, sz]
  rw [setRelay_eq]
  refine wpAny_bind (wpAny_setState_of o1 o3 fit ?_)
  dsimp only
  refine wp_if_neg (by rw [size_20, sizeLine_eq]; decide) ?_
  try refine wpAny_bind (wpAny_pure ?_)
  rw [e]
  dsimp only
  refine wpAny_bind ?_
  refine wp_if_neg (by rw [sz']; simp) ?_
  try refine wpAny_bind (wpAny_pure ?_)
  refine wpAny_pure ?_
  dsimp only
  refine wpAny_storeSet_of o1 o3 ?_ (by rw [sz', sz, sizeLine_eq]; omega)
  have sb : Heap.SameBut a s.heap (s.heap.update a (Obj.putSet (order.filterMap (es[·]?)) t')) := Heap.SameBut.update ..
  refine h _ L' _ (ep + 1) t' sb ⟨⟨_, store_at o1 o3, ⟨o2.1, o2.2.1, o2.2.2⟩, rfl⟩, rows', T', (pmL.map Prod.snd).nodup_iff.mpr once, fun q m => (tups q (pmL.mem_iff.mp m)).but o1 o3 sb, by rw [el]; exact leds, ?_, ?_⟩ pmL
  · rw [pmL.length_eq, hl, em]
    decide
  · rw [pmL.length_eq, hl]
    decide
/-- one more, or one that is there -/
theorem Here.add (R : Here P w s.heap a L es ep t) {x : Addr} {k : List Str} (hx : Has P w s.heap (x, k)) (hu : A.units < cLine) (hl : L.length < 18) {Q : Bool → Shared → Prop}
    (h : ∀ b h' L' es' ep' t', Heap.SameBut a s.heap h' → Here P w h' a L' es' ep' t' → (k ∈ L.map Prod.snd → L' = L) → (k ∉ L.map Prod.snd → L'.Perm ((x, k) :: L)) → Q b { s with heap := h' }) :
    wpAny (model P w) A (setAddHashed a (.ref x) (hsh P w k)) Q E s := by
  obtain ⟨ob, o1, o2, o3⟩ := R.lies
  have rm := R.room
  unfold setAddHashed
  refine wpAny_holding ?_
  rw [show (100000 : Nat) = 99999 + 1 from rfl, setAddHashedIn_succ]
  refine wpAny_bind (wpAny_setState_of o1 o3 R.fit ?_)
  dsimp only
  refine wp_if_neg (by simp [byScan, Value.scannable]) ?_
  try refine wpAny_bind (wpAny_pure ?_)
  refine wpAny_bind (R.find hx hu (fun y => ?_) fun K n k1 k2 => ?_)
  · dsimp only
    exact wpAny_pure (h false s.heap L es ep t (Heap.SameBut.refl a s.heap) R (fun _ => rfl) fun z => absurd y z)
  · dsimp only
    refine wpAny_bind (wpAny_setState_of o1 o3 R.fit ?_)
    dsimp only
    obtain ⟨q1, q2, q3, q4, q5, _, _, _, q9⟩ := R.tabs.put k1 k2
    rw [List.length_map] at q9
    generalize t.put (way t.mask (hsh P w k) K) = pt at q1 q2 q3 q4 q5 q9 ⊢
    obtain ⟨t1, p⟩ := pt
    dsimp only at q1 q2 q3 q4 q5 q9 ⊢
    subst q1
    have tail : ∀ t2 : SetTable, (t2 = t1 ∨ t2 = { t1 with plain := false }) → wpAny (model P w) A (do
        storeSet a (SetTable.insertAt es (SetTable.below t.place (way t.mask (hsh P w k) K)) (hsh P w k, Value.ref x)) t2
        if !false && t2.tooFull then setRelay a (SetTable.grown (es.size + 1))
        return true) Q E s := by
      intro t2 ht
      have T2 : TabOk t2 ((L.map fun q => hsh P w q.2).take (SetTable.below t.place (way t.mask (hsh P w k) K)) ++ hsh P w k :: (L.map fun q => hsh P w q.2).drop (SetTable.below t.place (way t.mask (hsh P w k) K))) := by
        rcases ht with rfl | rfl
        · exact q3
        · exact ⟨q3.ris, q3.dm, q3.sz, q3.mok, q3.bd, q3.reach⟩
      have m2 : t2.mask = t.mask := by rcases ht with rfl | rfl <;> exact q4
      have l2 : t2.led = t.led := by rcases ht with rfl | rfl <;> exact q5
      have f2 : t2.fill = L.length + 1 := by rcases ht with rfl | rfl <;> exact q9
      clear ht q3 q4 q5 q9
      have rows : (SetTable.insertAt es (SetTable.below t.place (way t.mask (hsh P w k) K)) (hsh P w k, Value.ref x)).toList = (L.take (SetTable.below t.place (way t.mask (hsh P w k) K)) ++ (x, k) :: L.drop (SetTable.below t.place (way t.mask (hsh P w k) K))).map (ent P w) := by
        rw [SetTable.toList_insertAt, R.rows, List.map_append, List.map_cons, List.map_take, List.map_drop]
        rfl
      have pm := put_perm L (SetTable.below t.place (way t.mask (hsh P w k) K)) (x, k)
      rw [← List.map_take, ← List.map_drop, ← List.map_cons (f := fun q : Addr × List Str => hsh P w q.2) (a := (x, k)), ← List.map_append] at T2
      generalize SetTable.insertAt es (SetTable.below t.place (way t.mask (hsh P w k) K)) (hsh P w k, Value.ref x) = es1 at rows ⊢
      generalize L.take (SetTable.below t.place (way t.mask (hsh P w k) K)) ++ (x, k) :: L.drop (SetTable.below t.place (way t.mask (hsh P w k) K)) = L1 at pm T2 rows
      have len : L1.length = L.length + 1 := pm.length_eq
      have sz1 : es1.size = L.length + 1 := by
        have z := congrArg List.length rows
        rwa [Array.length_toList, List.length_map, len] at z
      have once : (L1.map Prod.snd).Nodup := by
        refine (pm.map Prod.snd).nodup_iff.mpr ?_
        rw [List.map_cons]
        exact List.nodup_cons.mpr ⟨n, R.once⟩
      refine wpAny_bind (wpAny_storeSet_of o1 o3 ?_ (by rw [sz1, sizeLine_eq]; omega))
      have sb : Heap.SameBut a s.heap (s.heap.update a (Obj.putSet es1 t2)) := Heap.SameBut.update ..
      have at1 := store_at (es' := es1) (t' := t2) o1 o3
      have tups : ∀ q ∈ L1, Has P w (s.heap.update a (Obj.putSet es1 t2)) q := fun q m => by
        rcases List.mem_cons.mp (pm.mem_iff.mp m) with e | m
        · rw [e]; exact hx.but o1 o3 sb
        · exact (R.tups q m).but o1 o3 sb
      generalize s.heap.update a (Obj.putSet es1 t2) = h1 at sb at1 tups ⊢
      have leds : w.params.followText "set-order" = true ∨ t2.led = true := by rw [l2]; exact R.leds
      have ex1 : ({ ob with data := .set es1 (ep + 1) t2 } : Obj).ExactSet := ⟨o2.1, o2.2.1, o2.2.2⟩
      have tf : t2.tooFull = decide ((L.length + 1) * 5 ≥ t.mask * 3) := by
        unfold SetTable.tooFull
        rw [f2, m2]
      by_cases full : (L.length + 1) * 5 ≥ t.mask * 3
      · have five : t.mask = 7 ∧ L.length = 4 := by
          rcases R.tabs.mok with e | e | e
          · exact ⟨e, by rw [e] at full rm; omega⟩
          · rw [e] at full; omega
          · rw [e] at full; omega
        rw [decide_eq_true full] at tf
        have sz5 : es.size + 1 = 5 := by rw [R.many, five.2]
        rw [tf, sz5]
        have go : wpAny (model P w) A (setRelay a (SetTable.grown 5)) (fun _ s' => wpAny (model P w) A (pure true) Q E s') E { s with heap := h1 } :=
          relaid5 (s := { s with heap := h1 }) at1 ex1 rfl rows T2 once tups leds (by rw [len, five.2]) (by rw [m2, five.1]) fun h2 L2 es2 ep2 t3 sb2 R2 pm2 =>
            wpAny_pure (h true h2 L2 es2 ep2 t3 (sb.trans sb2) R2 (fun z => absurd z n) fun _ => pm2.trans pm)
        first
          | exact wp_if_pos (by decide) (wpAny_bind go)
          | exact wpAny_bind (wp_if_pos (by decide) go)
          | exact wpAny_bind go
      · rw [decide_eq_false full] at tf
        rw [tf]
        have fin : wpAny (model P w) A (pure true) Q E { s with heap := h1 } :=
          wpAny_pure (h true h1 L1 es1 (ep + 1) t2 sb ⟨⟨_, at1, ex1, rfl⟩, rows, T2, once, tups, leds, by rw [len, m2]; omega, by rw [len]; omega⟩ (fun z => absurd z n) fun _ => pm)
        first
          | exact wp_if_neg (by decide) fin
          | exact wp_if_neg (by decide) (wpAny_bind (wpAny_pure fin))
          | exact wpAny_bind (wp_if_neg (by decide) (wpAny_pure fin))
    by_cases pl : t1.plain = true
    · have step : ∀ b : Bool, wpAny (model P w) A (do
          let u := if b then t1 else { t1 with plain := false }
          storeSet a (SetTable.insertAt es (SetTable.below t.place (way t.mask (hsh P w k) K)) (hsh P w k, Value.ref x)) u
          if !false && u.tooFull then setRelay a (SetTable.grown (es.size + 1))
          return true) Q E s := fun b => by
        cases b
        · exact tail _ (.inr rfl)
        · exact tail _ (.inl rfl)
      first
        | (refine wpAny_bind ?_; refine wp_if_pos pl ?_; exact byVal hx fun b => step b)
        | exact wp_if_pos pl (wpAny_bind (byVal hx fun b => step b))
    · have one := tail t1 (.inl rfl)
      first
        | (refine wpAny_bind ?_; refine wp_if_neg pl ?_; exact wpAny_pure one)
        | exact wp_if_neg pl (wpAny_bind (wpAny_pure one))
end
end PT

set_option Elab.async false
set_option linter.all false
set_option maxRecDepth 100000
set_option maxHeartbeats 3200000
/-! set(xs) of a list of tuples of texts -/
noncomputable section
namespace PT
open PySem PySem.Spec PyProof.Rows L2 PySem.Froz
theorem nodup_len {α : Type} [DecidableEq α] : ∀ (l U : List α), l.Nodup → (∀ x ∈ l, x ∈ U) → l.length ≤ U.length
  | [], _, _, _ => Nat.zero_le _
  | x :: l, U, nd, sub => by
    obtain ⟨n1, n2⟩ := List.nodup_cons.mp nd
    have mx := sub x List.mem_cons_self
    have z := nodup_len l (U.erase x) n2 fun y my => (List.mem_erase_of_ne fun (e : y = x) => n1 (e ▸ my)).mpr (sub y (List.mem_cons_of_mem _ my))
    have pos := List.length_pos_of_mem mx
    rw [List.length_erase_of_mem mx] at z
    show l.length + 1 ≤ _
    omega
/-- L has what the first i of ks have -/
def Seen (ks : List (Addr × List Str)) (i : Nat) (L : List (Addr × List Str)) : Prop := (∀ q ∈ L, q ∈ ks) ∧ ∀ q ∈ ks.take i, q.2 ∈ L.map Prod.snd
theorem take_one {α : Type} {l : List α} {i : Nat} {x : α} (h : l[i]? = some x) {y : α} (m : y ∈ l.take (i + 1)) : y ∈ l.take i ∨ y = x := by
  rw [List.take_add_one, h] at m
  rcases List.mem_append.mp m with m | m
  · exact .inl m
  · exact .inr (by simpa using m)
section
variable {P : Program} {w : World} {A : Around} {E : Value → Shared → Prop} {s : Shared}
theorem Here.moved {h h' : Heap} {a : Addr} {L : List (Addr × List Str)} {es : Array (Int × Value)} {ep : Nat} {t : SetTable} (R : Here P w h a L es ep t) (ha : ∀ o, h.get? a = some o → h'.get? a = some o) (tups : ∀ q ∈ L, Has P w h' q) : Here P w h' a L es ep t :=
  let ⟨ob, o1, r⟩ := R.lies
  ⟨⟨ob, ha _ o1, r⟩, R.rows, R.tabs, R.once, tups, R.leds, R.room, R.most⟩
abbrev bare (w : World) : Obj := { cls := .type "set", dict := none, data := .set #[] 0 (.fresh 0 0 (!w.params.followText "set-order")) }
theorem Here.new {h : Heap} {a : Addr} (e : h.get? a = some (bare w)) : Here P w h a [] #[] 0 (.fresh 0 0 (!w.params.followText "set-order")) := by
  refine ⟨⟨_, e, ⟨rfl, rfl, rfl⟩, rfl⟩, rfl, ⟨List.Pairwise.nil, rfl, rfl, .inl rfl, fun x m => absurd m (by intro z; cases z), fun i h j z => by simp at z⟩, List.nodup_nil, fun q m => (by cases m), ?_, (by show 0 * 5 < 7 * 3; decide), Nat.zero_le _⟩
  cases q : w.params.followText "set-order"
  · exact .inr rfl
  · exact .inl rfl
/-- the loop of set.update -/
theorem loop {I S : Addr} {fp wr : List Addr} {G : Array GenState → Array GenState → Prop} {n : Nat} {Pv : Nat → Value → Prop} {St : Nat → Shared → Prop} {R : Result → Shared → Prop} (W : WalksS P w A.in1 I fp wr G n Pv St) (nS : S ∉ fp) {ks : List (Addr × List Str)} (en : n = ks.length)
    {U : List (List Str)} (lU : U.length < 18) (kU : ∀ q ∈ ks, q.2 ∈ U) (vals : ∀ i v, Pv i v → ∃ q, ks[i]? = some q ∧ v = .ref q.1) {h0 : Heap} (hk : ∀ q ∈ ks, Has P w h0 q) (S0 : h0.get? S = none) (w0 : ∀ b ∈ wr, h0.get? b = none) (hu : A.in1.units < cLine)
    (fin : ∀ (s₁ s' : Shared) L es ep t, Moved (S :: wr) G s₁ s' → Here P w s'.heap S L es ep t → Seen ks n L → (∀ b o, h0.get? b = some o → s'.heap.get? b = some o) → s₁ = s → R (.ok (.ret .none)) s') :
    ∀ (m i : Nat) (s₂ : Shared), n - i = m → i ≤ n → St i s₂ → (s₂ = s ∨ Moved (S :: wr) G s s₂) → (∀ b o, h0.get? b = some o → s₂.heap.get? b = some o) → (∃ L es ep t, Here P w s₂.heap S L es ep t ∧ Seen ks i L) →
      codeAny (model P w) A (.builtin "set.update.loop" ⟨[.ref S, .ref I], []⟩) R s₂ := by
  have Sw : S ∉ wr := fun z => nS (W.sub _ z)
  have up : ∀ b ∈ wr, b ∈ S :: wr := fun b m => List.mem_cons_of_mem _ m
  have old : ∀ {u u' : Shared}, Moved wr G u u' → (∀ b o, h0.get? b = some o → u.heap.get? b = some o) → ∀ b o, h0.get? b = some o → u'.heap.get? b = some o := fun mv k b o e =>
    mv.heap b o (fun z => by rw [w0 b z] at e; cases e) (k b o e)
  have chain : ∀ {u u' : Shared}, (u = s ∨ Moved (S :: wr) G s u) → Moved (S :: wr) G u u' → Moved (S :: wr) G s u' := fun c mv => by
    rcases c with rfl | c
    · exact mv
    · exact Moved.trans W.gtrans c mv
  intro m
  induction m with
  | zero =>
    intro i s₂ em hi st ch k0 ⟨L, es, ep, t, R0, sn⟩
    obtain rfl : i = n := by omega
    refine codeAny_builtin F.entry_set_update_loop ?_
    rw [Around.under_plainId F.plain_set_update_loop _]
    show wpAny _ A.in1 (pyNext (.ref I) >>= _) _ _ s₂
    refine wpAny_bind (W.done s₂ _ _ st fun s' mv => ?_)
    have k1 := old mv k0
    show wpAny _ A.in1 (ret Value.none) _ _ s'
    exact wpAny_pure (fin s s' L es ep t (chain ch (mv.mono up)) (R0.moved (fun o e => mv.heap S o Sw e) fun q mq => (hk q (sn.1 q mq)).kept k1) sn k1 rfl)
  | succ m ih =>
    intro i s₂ em hi st ch k0 ⟨L, es, ep, t, R0, sn⟩
    have lt : i < n := by omega
    refine codeAny_builtin F.entry_set_update_loop ?_
    rw [Around.under_plainId F.plain_set_update_loop _]
    show wpAny _ A.in1 (pyNext (.ref I) >>= _) _ _ s₂
    refine wpAny_bind (W.item i s₂ _ _ lt st fun v s' pv st' mv => ?_)
    obtain ⟨⟨x, k⟩, eq, rfl⟩ := vals i v pv
    have mk := List.mem_of_getElem? eq
    have k1 := old mv k0
    have R1 : Here P w s'.heap S L es ep t := R0.moved (fun o e => mv.heap S o Sw e) fun q mq => (hk q (sn.1 q mq)).kept k1
    have hx : Has P w s'.heap (x, k) := (hk _ mk).kept k1
    show wpAny _ A.in1 (holding [Value.ref x] (setAdd S (.ref x)) >>= _) _ _ s'
    refine wpAny_bind (wpAny_holding ?_)
    unfold setAdd
    refine wpAny_holding (wpAny_bind (wpAny_pyHash_tuple hu hx ?_))
    have few : L.length < 18 := by
      have z := nodup_len (L.map Prod.snd) U R0.once fun y my => by
        obtain ⟨q, mq, rfl⟩ := List.mem_map.mp my
        exact kU q (sn.1 q mq)
      rw [List.length_map] at z
      omega
    refine Here.add (s := { s' with toks := s'.toks + (k.length + 1) }) R1 hx hu few fun b h' L' es' ep' t' sb R2 y1 y2 => ?_
    have sn' : Seen ks (i + 1) L' := by
      by_cases c : k ∈ L.map Prod.snd
      · rw [y1 c]
        refine ⟨sn.1, fun q mq => ?_⟩
        rcases take_one eq mq with z | z
        · exact sn.2 q z
        · rw [z]; exact c
      · have pm := y2 c
        refine ⟨fun q mq => ?_, fun q mq => ?_⟩
        · rcases List.mem_cons.mp (pm.mem_iff.mp mq) with z | z
          · rw [z]; exact mk
          · exact sn.1 q z
        · rw [(pm.map Prod.snd).mem_iff, List.map_cons]
          rcases take_one eq mq with z | z
          · exact List.mem_cons_of_mem _ (sn.2 q z)
          · rw [z]; exact List.mem_cons_self
    have k2 : ∀ b o, h0.get? b = some o → h'.get? b = some o := fun b o e => (sb.2 b (fun z => by rw [z, S0] at e; cases e)).trans (k1 b o e)
    have mv2 : Moved (S :: wr) G s₂ { s' with heap := h', toks := s'.toks + (k.length + 1) } := by
      refine (mv.mono up).then_heap (Nat.le_add_right _ _) fun b o nb e => ?_
      rw [sb.2 b fun z => nb (by rw [z]; exact List.mem_cons_self)]
      exact e
    refine wpAny_pure ⟨plainId_quiet F.plain_set_update_loop _, ih (i + 1) _ (by omega) lt (W.frame _ s' _ _ st' (Nat.le_add_right _ _) fun c mc o e => ?_) (.inr (chain ch mv2)) k2 ⟨L', es', ep', t', R2, sn'⟩⟩
    rw [sb.2 c fun z => nS (by rw [← z]; exact mc)]
    exact e
end
end PT

set_option Elab.async false
set_option linter.all false
set_option maxRecDepth 100000
set_option maxHeartbeats 3200000
/-! set(xs), xs a list of tuples of texts; sorted of it -/
noncomputable section
namespace PT
open PySem PySem.Spec PyProof.Rows L2 PySem.Froz
section
variable {P : Program} {w : World} {A : Around} {E : Value → Shared → Prop} {s : Shared}
theorem call_setP {l : Addr} {its : Array Value} {ks : List (Addr × List Str)} {U : List (List Str)} {Q : Value → Shared → Prop} (hh : A.handled = none) (hl : s.heap.IsList l its) (ei : its.toList = ks.map fun q => Value.ref q.1) (hk : ∀ q ∈ ks, Has P w s.heap q)
    (lU : U.length < 18) (kU : ∀ q ∈ ks, q.2 ∈ U) (hu : A.units + 3 < cLine)
    (h : ∀ (h' : Heap) (tk : Nat) L es ep t, Here P w h' s.heap.objs.size L es ep t → Seen ks ks.length L → (∀ b o, s.heap.get? b = some o → h'.get? b = some o) → Q (.ref s.heap.objs.size) { s with heap := h', toks := tk }) :
    wpAny (model P w) A (call (.type "set") [.ref l]) Q E s := by
  have len : its.size = ks.length := by
    have z := congrArg List.length ei
    rwa [Array.length_toList, List.length_map] at z
  obtain ⟨c, tl, hmro⟩ := F.called_set.mro
  have hmade := F.called_set.made
  have hsub := F.called_set.sub
  refine wpAny_call (codeAny_of_tree ?_)
  show wpAny _ _ (callAny (.type "set") _) _ _ _
  refine wpAny_pure ⟨Code.quiet_builtin _ (by decide +kernel), codeAny_builtin F.entry_type_call ?_⟩
  rw [Around.under_plain (weight_type_call_type "set" [.ref l] []) rfl]
  have h1 := F.called_set.notType
  have h2 := F.called_set.canCreate
  have hct := F.typeCall_set_1 (.ref l)
  repeat (any_goals (first | assumption | wp_step))
  refine codeAny_mono (code_set_led1 (.ref l) (E := E) (Q₁ := fun made s₁ => made = .ref s.heap.objs.size ∧ s₁ = { s with heap := s.heap.push (bare w) }) ⟨rfl, rfl⟩) fun r s₁ hr => ?_
  cases r with
  | error e => exact hr
  | ok fl =>
    cases fl with
    | ret made =>
      obtain ⟨rfl, rfl⟩ := hr
      have atS : (s.heap.push (bare w)).get? s.heap.objs.size = some (bare w) := Heap.get?_push_size _ rfl
      have tyS : Shared.TypeIs { s with heap := s.heap.push (bare w) } (.ref s.heap.objs.size) "set" := ⟨_, atS, rfl⟩
      have hli := F.called_set.init.lookup
      have hbi := F.called_set.init.bind (.ref s.heap.objs.size)
      repeat (any_goals (first | assumption | wp_step))
      refine codeAny_mono (codeAny_call_builtin (R := wants (fun r s₂ => r = .none ∧ ∃ h' tk L es ep t, s₂ = { s with heap := h', toks := tk } ∧ Here P w h' s.heap.objs.size L es ep t ∧ Seen ks ks.length L ∧
          ∀ b o, s.heap.get? b = some o → h'.get? b = some o) E) F.called_set.init.plain F.entry_set_init (check_set_init_1 tyS ?_)) fun r₂ s₂ hr₂ => ?_
      · obtain ⟨⟨kc, kd, kt, ksl⟩, e1, e2, ne, e3⟩ := hl
        have e2 : kc = Value.type "list" := e2
        have e3 : kt = .seq its ne := e3
        subst e2 e3
        have onL : (s.heap.push (bare w)).get? l = some { cls := .type "list", dict := kd, data := .seq its ne, slots := ksl } := Heap.get?_push_of_some _ e1
        have hsls := F.sub_list_set
        have hslf := F.sub_list_frozenset
        have nd : (Value.type "list" == Value.type "dict") = false := by decide
        have isL : (s.heap.push (bare w)).IsList l its := ⟨_, onL, rfl, ne, rfl⟩
        unfold Builtin.«set.__init__» noKeywords Builtin.Frozenset.updateFrom
        generalize hPI : pyIter = PI
        wp_walk
        subst hPI
        refine wpAny_pyIter_list isL (wpAny_bind (wpAny_runValue ?_))
        have lt : l < s.heap.objs.size := Heap.lt_size e1
        have h3 : A.in1.in1.in1.handled = none := by simp [hh]
        have neI : l ≠ (s.heap.push (bare w)).objs.size := by rw [Heap.size_push]; exact Nat.ne_of_lt (Nat.lt_succ_of_lt lt)
        have nS : s.heap.objs.size ∉ [(s.heap.push (bare w)).objs.size, l] := by
          rw [Heap.size_push]
          simp only [List.mem_cons, List.not_mem_nil, or_false, not_or]
          exact ⟨Nat.ne_of_lt (Nat.lt_succ_self _), Nat.ne_of_gt lt⟩
        have gone : ∀ b, s.heap.objs.size ≤ b → s.heap.get? b = none := fun b le => by
          cases z : s.heap.get? b with
          | none => rfl
          | some o => exact absurd (Nat.lt_of_lt_of_le (Heap.lt_size z) le) (Nat.lt_irrefl _)
        have vals : ∀ (i : Nat) (v : Value), its[i]? = some v → ∃ q, ks[i]? = some q ∧ v = .ref q.1 := fun i v e => by
          rw [← Array.getElem?_toList, ei, List.getElem?_map] at e
          obtain ⟨q, e, z⟩ := Option.map_eq_some_iff.mp e
          exact ⟨q, e, z.symm⟩
        refine loop (s := { s with heap := (s.heap.push (bare w)).push { cls := .type "list_iterator", data := .fields #[.ref l, .int 0 0] } }) ((Walks.list h3 _ l neI its).toS) nS (n := its.size) len lU kU vals (h0 := s.heap) hk (gone _ (Nat.le_refl _)) (fun b m => gone b (by
          rw [List.mem_singleton.mp m, Heap.size_push]; exact Nat.le_succ _)) hu ?fin (its.size - 0) 0 _ rfl (Nat.zero_le _) ⟨⟨_, Heap.get?_push_size _ rfl, rfl, rfl⟩, isL.push _⟩ (.inl rfl) (fun b o e => Heap.get?_push_of_some _ (Heap.get?_push_of_some _ e)) ⟨[], #[], 0, _, Here.new (Heap.get?_push_of_some _ atS), fun q m => (by cases m), fun q m => (by simp at m)⟩
        case fin =>
          intro s₁ s' L es ep t mv R sn k e
          subst e
          obtain ⟨h', g2, d2, tk2, os2⟩ := s'
          have eg : g2 = s.gens := mv.gens
          have ed : d2 = s.drawn := mv.drawn
          have eo : os2 = s.os := mv.os
          subst eg ed eo
          rw [len] at sn
          show wpAny _ _ _ _ _ _
          refine wpAny_pure ?_
          show wpAny _ _ (ret Value.none) _ _ _
          exact wpAny_pure ⟨rfl, h', tk2, L, es, ep, t, rfl, R, sn, k⟩
      · cases r₂ with
        | error e => exact hr₂
        | ok fl₂ =>
          cases fl₂ with
          | ret r =>
            obtain ⟨rfl, h', tk2, L, es, ep, t, rfl, a1, a2, a3⟩ := hr₂
            repeat (any_goals (first | assumption | wp_step))
            exact h _ _ _ _ _ _ a1 a2 a3
          | _ => exact hr₂.elim
    | _ => exact hr.elim
end
end PT

set_option Elab.async false
set_option linter.all false
set_option maxRecDepth 100000
set_option maxHeartbeats 3200000
/-! sorted of a set of pairs of texts, of twelve that there may be -/
noncomputable section
namespace PT
open PySem PySem.Spec PyProof.Rows L2 PySem.Froz
/-- the pairs that come, rising -/
def U12 : List (List Str) := ["ta", "tb", "tc"].flatMap fun t => ["k", "x", "y", "z"].map fun f => [Str.ofString t, Str.ofString f]
def lower : List Str → List Str → Bool
  | [a, b], [c, d] => if a = c then decide (b.cps.toList < d.cps.toList) else decide (a.cps.toList < c.cps.toList)
  | _, _ => false
def spot (k : List Str) : Nat := U12.idxOf k
theorem U12_ok : (U12.all fun k => U12.all fun j => lower k j == decide (spot k < spot j)) = true := by decide +kernel
theorem U12_two : (U12.all fun k => k.length == 2) = true := by decide +kernel
theorem lower_spot {k j : List Str} (hk : k ∈ U12) (hj : j ∈ U12) : lower k j = decide ((spot k : Int) < spot j) := by
  have z := List.all_eq_true.mp (List.all_eq_true.mp U12_ok k hk) j hj
  rw [beq_iff_eq.mp z]
  exact decide_eq_decide.mpr Int.ofNat_lt.symm
theorem two_of {k : List Str} (hk : k ∈ U12) : ∃ a b, k = [a, b] := by
  have z := List.all_eq_true.mp U12_two k hk
  have z := beq_iff_eq.mp z
  match k, z with
  | [a, b], _ => exact ⟨a, b, rfl⟩
theorem U12_len : U12.length < 18 := by decide +kernel
theorem perm_back {α β : Type} (f : α → β) {l m : List β} (h : l.Perm m) : ∀ L : List α, m = L.map f → ∃ L' : List α, L'.Perm L ∧ l = L'.map f := by
  induction h with
  | nil => intro L e; exact ⟨L, List.Perm.refl _, e⟩
  | cons x _ ih =>
    intro L e
    cases L with
    | nil => cases e
    | cons y L =>
      rw [List.map_cons] at e
      injection e with e1 e2
      obtain ⟨L', p, e3⟩ := ih L e2
      exact ⟨y :: L', p.cons y, by rw [List.map_cons, ← e1, ← e3]⟩
  | swap x y l =>
    intro L e
    match L, e with
    | u :: v :: L, e =>
      rw [List.map_cons, List.map_cons] at e
      injection e with e1 e2
      injection e2 with e2 e3
      exact ⟨v :: u :: L, List.Perm.swap u v L, by rw [List.map_cons, List.map_cons, ← e1, ← e2, ← e3]⟩
  | trans _ _ ih1 ih2 =>
    intro L e
    obtain ⟨L1, p1, e1⟩ := ih2 L e
    obtain ⟨L2, p2, e2⟩ := ih1 L1 e1
    exact ⟨L2, p2.trans p1, e2⟩
section
variable {P : Program} {w : World} {A : Around} {E : Value → Shared → Prop} {s : Shared}
open Classical in
/-- the texts at v -/
def keyAt (P : Program) (w : World) (h : Heap) (v : Value) : List Str := if x : ∃ q : Addr × List Str, v = .ref q.1 ∧ Has P w h q then x.choose.2 else []
theorem keyAt_eq {h : Heap} {q : Addr × List Str} (x : Has P w h q) : keyAt P w h (.ref q.1) = q.2 := by
  have y : ∃ r : Addr × List Str, Value.ref q.1 = .ref r.1 ∧ Has P w h r := ⟨q, rfl, x⟩
  unfold keyAt
  rw [dif_pos y]
  obtain ⟨e, z⟩ := y.choose_spec
  injection e with e
  rw [Has, ← e] at z
  exact z.inj x
def rnk (P : Program) (w : World) (h : Heap) (v : Value) : Int := (spot (keyAt P w h v) : Int)
/-- what is sorted -/
def AllP (P : Program) (w : World) (h : Heap) (vs : List Value) : Prop := ∀ v ∈ vs, ∃ q : Addr × List Str, v = .ref q.1 ∧ Has P w h q ∧ q.2 ∈ U12
theorem firsts {h : Heap} : ∀ vs : List Value, AllP P w h vs → ∃ fs, PySem.W.KatTups h vs fs ∧ fs.length = vs.length ∧ ∀ f ∈ fs, ∃ c u, f = Value.str c u
  | [], _ => ⟨[], PySem.W.KatTups.nil, rfl, fun f m => by cases m⟩
  | v :: vs, x => by
    obtain ⟨fs, g, e, hs⟩ := firsts vs fun y m => x y (List.mem_cons_of_mem _ m)
    obtain ⟨⟨b, k⟩, rfl, ⟨ob, its, n, o1, o2, o3, hi⟩, mk⟩ := x v List.mem_cons_self
    obtain ⟨c, d, rfl⟩ := two_of mk
    have sa := texts_of hi
    generalize hz : its.toList = us at sa
    cases sa with
    | cons _ u sa =>
      refine ⟨.str c u :: fs, PySem.W.KatTups.cons o1 o2 o3 ?_ g, by rw [List.length_cons, List.length_cons, e], fun f m => ?_⟩
      · rw [← Array.getElem?_toList, hz]
        rfl
      · rcases List.mem_cons.mp m with z | z
        · exact ⟨c, u, z⟩
        · exact hs f z
theorem one_lt (c : Bool) {p q : Str} {t u : Tok} {Q : Bool → Shared → Prop} (h : Q (decide (p.cps.toList < q.cps.toList)) s) : wpAny (model P w) A (oneLt' c (.str p t) (.str q u)) Q E s := by
  cases c with
  | true => exact oneLt_str h
  | false => exact PySem.W.kat_one _ _ (PyProof.Rows.lt_str (Q := PySem.W.BoolBack Q) h)
theorem cmpP {vs : List Value} (h2 : 2 ≤ vs.length) (x : AllP P w s.heap vs) {r : Value → Int} (hr : ∀ v ∈ vs, r v = rnk P w s.heap v) (Q : SortKind → Shared → Prop) (h : ∀ κ, TS.Cmp P w A s κ (pairsOf vs) r → Q κ s) : wpAny (model P w) A (keyKind' vs.toArray) Q E s := by
  obtain ⟨fs, g, e, hs⟩ := firsts vs x
  refine PySem.W.kat_kind (T := Value.type "str") g (by omega) (fun f m => ?_) rfl (h _ fun p q hp hq Q' E' hQ => ?_)
  · obtain ⟨c, u, rfl⟩ := hs f m
    exact PySem.W.Looks.of_pure rfl
  · rw [pairsOf_toList] at hp hq
    have mp := (mem_zip_self hp).2
    have mq := (mem_zip_self hq).2
    obtain ⟨⟨b, k⟩, eb, hb, ub⟩ := x _ mp
    obtain ⟨⟨c, j⟩, ec, hc, uc⟩ := x _ mq
    rw [hr _ mp, hr _ mq, eb, ec] at hQ
    unfold rnk at hQ
    rw [keyAt_eq hb, keyAt_eq hc, ← lower_spot ub uc] at hQ
    rw [eb, ec]
    obtain ⟨ob, its, n, o1, o2, o3, hi⟩ := hb
    obtain ⟨oc, jts, m, c1, c2, c3, hj⟩ := hc
    obtain ⟨k1, k2, rfl⟩ := two_of ub
    obtain ⟨j1, j2, rfl⟩ := two_of uc
    refine PySem.W.kat_lt o1 o3 c1 c3 ?_
    have sa := texts_of hi
    have sb := texts_of hj
    have la : its.size = 2 := by rw [← Array.length_toList, ← hi.length]; rfl
    have lb : jts.size = 2 := by rw [← Array.length_toList, ← hj.length]; rfl
    rw [la, lb]
    generalize its.toList = us at sa
    generalize jts.toList = ws at sb
    cases sa with
    | cons _ t1 sa =>
      cases sa with
      | cons _ t2 sa =>
        cases sa
        cases sb with
        | cons _ t3 sb =>
          cases sb with
          | cons _ t4 sb =>
            cases sb
            show PySem.W.KatLex P w A _ _ Q' [(Value.str k1 t1, Value.str j1 t3), (Value.str k2 t2, Value.str j2 t4)] 0 s
            have hQ : Q' (if k1 = j1 then decide (k2.cps.toList < j2.cps.toList) else decide (k1.cps.toList < j1.cps.toList)) s := hQ
            refine PySem.W.kat_cons (wpAny_eqBool_str ?_)
            by_cases e1 : k1 = j1
            · rw [decide_eq_true e1]
              rw [if_pos e1] at hQ
              refine PySem.W.kat_yes (PySem.W.kat_cons (wpAny_eqBool_str ?_))
              by_cases e2 : k2 = j2
              · rw [decide_eq_true e2]
                refine PySem.W.kat_yes (PySem.W.kat_nil ?_)
                have z : ¬ k2.cps.toList < j2.cps.toList := by rw [e2]; exact List.lt_irrefl _
                rw [decide_eq_false z] at hQ
                exact hQ
              · rw [decide_eq_false e2]
                exact PySem.W.kat_no (one_lt _ hQ)
            · rw [decide_eq_false e1]
              rw [if_neg e1] at hQ
              exact PySem.W.kat_no (one_lt _ hQ)
/-- list.sort -/
theorem sortP {a : Addr} {vs : List Value} {n : Nat} {G : PySem.Fin → Shared → Prop} (ho : s.heap.get? a = some (seqObj "list" vs.toArray n)) (h64 : vs.length < 64) (x : AllP P w s.heap vs)
    (h : ∀ out : Array Value, out.toList.Perm vs → G (.done (.ret .none)) { s with heap := sortedHeap s.heap a vs out }) : wpAny (model P w) A (Builtin.«list.sort» ⟨[.ref a], []⟩) G E s := by
  have kp : ∀ {q : Addr × List Str}, Has P w s.heap q → Has P w (TS.midHeap s.heap a vs) q := fun {q} hq => by
    obtain ⟨ob, its, m, o1, o2, r⟩ := hq
    refine ⟨ob, its, m, TS.midHeap_old (fun z => ?_) o1, o2, r⟩
    rw [z, ho] at o1
    rw [← Option.some.inj o1] at o2
    exact absurd (show Value.type "list" = Value.type "tuple" from o2) (by decide)
  refine SK.plain_sort (r := rnk P w (TS.midHeap s.heap a vs)) ho h64 (fun h2 Q hQ => ?_) fun ps out h1 h2 h3 => h out (TS.out_rank h1 h2 h3).1
  refine cmpP (s := { s with heap := TS.midHeap s.heap a vs }) h2 (fun v m => ?_) (fun v _ => rfl) Q hQ
  obtain ⟨q, e, hq, u⟩ := x v m
  exact ⟨q, e, kp hq, u⟩
/-- sorted(x) -/
theorem sortedP {a : Addr} {L : List (Addr × List Str)} {es : Array (Int × Value)} {ep : Nat} {t : SetTable} {Q : Value → Shared → Prop} (R : Here P w s.heap a L es ep t) (hh : A.handled = none) (hU : ∀ q ∈ L, q.2 ∈ U12)
    (h : ∀ s' p (out : Array Value) (c : Nat) (L' : List (Addr × List Str)), (∀ b o, s.heap.get? b = some o → s'.heap.get? b = some o) → s'.gens = s.gens → s'.os = s.os → s.heap.objs.size ≤ p → s'.heap.get? p = some (seqObj "list" out c) →
      out.toList = L'.map (fun q => Value.ref q.1) → L'.Perm L → Q (.ref p) s') : wpAny (model P w) A (call (.builtin "sorted") [.ref a]) Q E s := by
  obtain ⟨ob, o1, o2, o3⟩ := R.lies
  have few := R.most
  refine Calls.call_function_entry kind_sorted plain_sorted entry_sorted (args_sorted1 _) ?_
  unfold Builtin.«sorted»
  refine wpAny_bind (m := checkCount "sorted" 1 1 _) (wpAny_pure ?_)
  refine wpAny_bind (collect_set (A := A.in1) hh ⟨ob, o1, o2.1, o3⟩ R.fit (by rw [R.many]; unfold scanBound; omega) R.tabs.ris R.leds fun s1 vs k1 hz g1 os1 pm => ?_)
  have pm : vs.Perm (L.map fun q => Value.ref q.1) := by
    rw [R.rows, List.map_map] at pm
    exact pm
  have len : vs.length ≤ 18 := by rw [pm.length_eq, List.length_map]; exact few
  refine wpAny_bind (wpAny_newList ?_ (by rw [sizeLine_eq]; omega))
  have atL : (s1.heap.push (seqObj "list" vs.toArray 0)).get? s1.heap.objs.size = some (seqObj "list" vs.toArray 0) := Heap.get?_push_size _ rfl
  have all : AllP P w (s1.heap.push (seqObj "list" vs.toArray 0)) vs := fun v m => by
    obtain ⟨q, mq, e⟩ := List.mem_map.mp (pm.mem_iff.mp m)
    exact ⟨q, e.symm, (R.tups q mq).kept fun b u e => Heap.get?_push_of_some _ (k1 b u e), hU q mq⟩
  refine wpAny_bind (wpAny_holding (wpAny_call_entry slot_list_sort ⟨_, atL, rfl⟩ entry_list_sort (sortP (s := { s1 with heap := s1.heap.push (seqObj "list" vs.toArray 0) }) atL (by omega) all fun out po => ⟨_, rfl, ?_⟩) (args_list_sort _)))
  obtain ⟨c, hc⟩ := sortedHeap_at (vs := vs) (out := out) atL
  obtain ⟨L', pL, eL⟩ := perm_back (fun q : Addr × List Str => Value.ref q.1) (po.trans pm) L rfl
  refine wpAny_pure ⟨_, rfl, h _ s1.heap.objs.size out c L' (fun b u e => ?_) g1 os1 hz hc eL pL⟩
  have q := k1 b u e
  have lt := Heap.lt_size q
  show (sortedHeap (s1.heap.push (seqObj "list" vs.toArray 0)) s1.heap.objs.size vs out).get? b = some u
  rw [sortedHeap_old (Nat.ne_of_lt lt) (by rw [size_push']; exact Nat.lt_succ_of_lt lt)]
  exact Heap.get?_push_of_some _ q
end
end PT

set_option Elab.async false
set_option linter.all false
set_option maxRecDepth 100000
set_option maxHeartbeats 3200000
/-! rules: set(xs) and sorted of it -/
noncomputable section
namespace PT
open PySem PySem.Spec PyProof.Rows L2 PySem.Froz
def SetP (P : Program) (w : World) (a : Addr) (L : List (Addr × List Str)) : HO := .ext fun h => ∃ (es : Array (Int × Value)) (ep : Nat) (t : SetTable), (∃ ob, h.get? a = some ob ∧ ob.ExactSet ∧ ob.data = .set es ep t) ∧ es.toList = L.map (ent P w) ∧ TabOk t (L.map fun q => hsh P w q.2) ∧
  (L.map Prod.snd).Nodup ∧ (w.params.followText "set-order" = true ∨ t.led = true) ∧ L.length * 5 < t.mask * 3 ∧ L.length ≤ 18
theorem setP_new {P : Program} {w : World} {H : Hp} {h : Heap} {a : Addr} {L : List (Addr × List Str)} {es : Array (Int × Value)} {ep : Nat} {t : SetTable} (R : Here P w h a L es ep t) : ObjOk P w H h a (SetP P w a L) := by
  obtain ⟨ob, o1, o2⟩ := R.lies
  refine ⟨⟨es, ep, t, ⟨ob, o1, o2⟩, R.rows, R.tabs, R.once, R.leds, R.room, R.most⟩, ⟨ob, o1⟩, fun h1 h2 p k => ?_⟩
  obtain ⟨es', ep', t', ⟨ob', p1, p2⟩, r⟩ := p
  exact ⟨es', ep', t', ⟨ob', k _ p1, p2⟩, r⟩
section
variable {X : Cx}
theorem strs_items {P : Program} {w : World} : ∀ {k : List Str} {us : List Value}, Vals (k.map V.str) us → ItemsAre (strKind P w) k us
  | [], _, .nil => .nil
  | c :: k, _, .cons r t => by
    obtain ⟨u, rfl⟩ := r
    exact .cons (is_str c u) (strs_items t)
theorem has_of {pins : List (Addr × Obj)} {σ : L2.St} {H : Hp} {s : Shared} {q : Addr × List Str} (I : Inv X pins σ H s) (h : SqT X.K H q.1 (q.2.map V.str)) : Has X.prog X.w s.heap q := by
  obtain ⟨its, r, ⟨ob, o1, o2, n, o3⟩, _⟩ := I.tuple h
  exact ⟨ob, its.toArray, n, o1, o2, o3, by simpa using strs_items r⟩
theorem refs_vals : ∀ {ks : List (Addr × List Str)} {us : List Value}, Vals (ks.map fun q => V.ref q.1) us → us = ks.map fun q => Value.ref q.1
  | [], _, .nil => rfl
  | q :: ks, _, .cons r t => by
    cases r
    rw [refs_vals t, List.map_cons]
theorem vals_refs : ∀ ks : List (Addr × List Str), Vals (ks.map fun q => V.ref q.1) (ks.map fun q => Value.ref q.1)
  | [] => .nil
  | q :: ks => .cons rfl (vals_refs ks)
/-- set(xs) -/
def rSetP (K : PySem.W.Frag) (P : Program) (w : World) : List V → Hp → VK → Prop := fun xs H Q => ∃ (l : Addr) (ks : List (Addr × List Str)), xs = [V.ref l] ∧ SqL K H l (ks.map fun q => V.ref q.1) ∧ (∀ q ∈ ks, SqT K H q.1 (q.2.map V.str)) ∧ (∀ q ∈ ks, q.2 ∈ U12) ∧
  ∀ a L, H a = none → (∀ q ∈ L, q ∈ ks) → (∀ q ∈ ks, q.2 ∈ L.map Prod.snd) → Q (.ref a) (upd H a (SetP P w a L))
theorem cr_setP (hc : X.calm = true) (hu : X.A.units + 3 < cLine) : CallR X (.type "set") (rSetP X.K X.prog X.w) := by
  intro pins s σ H xs us Q I r h
  obtain ⟨l, ks, rfl, hl, hk, kU, q⟩ := h
  rw [Vals.ref1 r]
  obtain ⟨its, rv, pl, hz⟩ := I.list hl
  refine call_setP (P := X.prog) (w := X.w) (ks := ks) (U := U12) (I.ok.hd hc) pl.isList (by simpa using refs_vals rv) (fun p m => has_of I (hk p m)) U12_len kU hu fun h' tk L es ep t R sn k => ?_
  refine ⟨.ref s.heap.objs.size, upd H s.heap.objs.size (SetP X.prog X.w s.heap.objs.size L), I.laid (t' := tk) k (Nat.le_refl _) (setP_new R), rfl, q _ L (I.hok.fresh (Nat.le_refl _)) sn.1 fun p m => sn.2 p ?_⟩
  rw [List.take_length]
  exact m
/-- sorted(x) -/
def rSortP (K : PySem.W.Frag) (P : Program) (w : World) : List V → Hp → VK → Prop := fun vs H Q => ∃ (a : Addr) (L : List (Addr × List Str)), vs = [V.ref a] ∧ H a = some (SetP P w a L) ∧ (∀ q ∈ L, SqT K H q.1 (q.2.map V.str)) ∧ (∀ q ∈ L, q.2 ∈ U12) ∧
  ∀ (L' : List (Addr × List Str)) (p : Addr), L'.Perm L → L.length ≤ 18 → H p = none → Q (.ref p) (upd H p (.lst (L'.map fun q => V.ref q.1)))
theorem cr_sortP (hc : X.calm = true) : CallR X (.builtin "sorted") (rSortP X.K X.prog X.w) := by
  intro pins s σ H vs us Q I r h
  obtain ⟨a, L, rfl, ha, hk, kU, q⟩ := h
  obtain ⟨es, ep, t, r1, r2, r3, r4, r5, r6, r7⟩ := (I.hok a _ ha).1
  have R : Here X.prog X.w s.heap a L es ep t := ⟨r1, r2, r3, r4, fun p m => has_of I (hk p m), r5, r6, r7⟩
  rw [Vals.ref1 r]
  refine sortedP R (I.ok.hd hc) kU fun s' p out c L' k g o hp hg ho pm => ?_
  have len : (L'.map fun q => V.ref q.1).length ≤ sizeLine := by rw [List.length_map, pm.length_eq, sizeLine_eq]; omega
  have hn : H p = none := I.hok.fresh hp
  have hv : Vals (L'.map fun q => V.ref q.1) out.toList := by rw [ho]; exact vals_refs L'
  have J : Inv X pins σ (upd H p (.lst (L'.map fun q => V.ref q.1))) { s with heap := s'.heap, gens := s'.gens, drawn := s'.drawn, toks := s'.toks } :=
    I.call (ch := []) (Un.laid k hp hn) (I.hok.laid k hp ⟨len, out.toList, c, hv, hg⟩) (by rw [g]; exact I.bare) (fun _ z => nomatch z)
  have e : s' = { s with heap := s'.heap, gens := s'.gens, drawn := s'.drawn, toks := s'.toks } := by
    cases s'
    cases s
    cases o
    rfl
  rw [e]
  exact ⟨.ref p, _, J, rfl, q L' p pm r7 hn⟩
end
end PT

set_option maxHeartbeats 1000000
namespace K06
open PySem L2
/-- what a condition's tree is made of, whatever fields -/
inductive Cd : Tr → Prop where
  | cmp {op : Str} {l r : Tr} : op ∈ signs → (∃ fl, FlOk fl ∧ IsTm fl l) → (∃ fl, FlOk fl ∧ IsTm fl r) → Cd (.bin op l r)
  | join {op : Str} {l r : Tr} : op ∈ [sAnd, sOr] → Cd l → Cd r → Cd (.bin op l r)
  | not {x : Tr} : Cd x → Cd (.not x)
theorem Cd.of {fl : List (Str × Str)} {t : Tr} (ok : FlOk fl) (h : IsCd fl t) : Cd t := by
  induction h with
  | cmp h l r => exact .cmp h ⟨_, ok, l⟩ ⟨_, ok, r⟩
  | join h _ _ l r => exact .join h l r
  | not _ x => exact .not x
def CdO : Option Tr → Prop
  | none => True
  | some t => Cd t
def depO : Option Tr → Nat
  | none => 0
  | some t => t.depth
theorem tabs_len : ∀ t : Tr, (tabsIn t).length ≤ 2 ^ t.depth
  | .num _ => Nat.zero_le _
  | .field _ _ => Nat.le_refl _
  | .not x => Nat.le_trans (tabs_len x) (Nat.pow_le_pow_right (by decide) (Nat.le_succ _))
  | .bin op l r => by
    have h1 := tabs_len l
    have h2 := tabs_len r
    have e1 : 2 ^ l.depth ≤ 2 ^ (max l.depth r.depth) := Nat.pow_le_pow_right (by decide) (Nat.le_max_left ..)
    have e2 : 2 ^ r.depth ≤ 2 ^ (max l.depth r.depth) := Nat.pow_le_pow_right (by decide) (Nat.le_max_right ..)
    have e3 : 2 ^ (max l.depth r.depth + 1) = 2 ^ (max l.depth r.depth) + 2 ^ (max l.depth r.depth) := by rw [Nat.pow_succ]; omega
    show (tabsIn l ++ tabsIn r).length ≤ 2 ^ (max l.depth r.depth + 1)
    rw [List.length_append]
    omega
theorem shaped_pair {a : Str} {d : PyData} (h0 : PyData.strOk a = true) (h1 : PyData.canLay0 d = true) (h2 : PyData.depth d ≤ 60) : SeqAt.shaped (.tuple [.str a, d]) = true := by
  refine shaped_of (by simp [PyData.canLay0, PyData.canLayAll0, h0, h1]) ?_
  simp only [PyData.depth, PyData.depthAll]
  omega
theorem eqv_pair (a b : Str) (d e : PyData) : PyData.eqv (.tuple [.str a, d]) (.tuple [.str b, e]) = ((a == b) && PyData.eqv d e) := by
  simp [PyData.eqv, PyData.eqvAll]
theorem eqv_str (a b : Str) : PyData.eqv (.str a) (.str b) = (a == b) := by simp [PyData.eqv]

theorem strs_dp {K : PySem.W.Frag} {H : Hp} : ∀ ws : List Str, DpAll K H (ws.map V.str) (ws.map PyData.str)
  | [] => .nil
  | x :: r => .cons (.str x) (strs_dp r)
theorem strs_lay : ∀ ws : List Str, (∀ x ∈ ws, PyData.strOk x = true) → PyData.canLayAll0 (ws.map PyData.str) = true ∧ PyData.depthAll (ws.map PyData.str) = 0
  | [], _ => by simp [PyData.canLayAll0, PyData.depthAll]
  | x :: r, h => by
    obtain ⟨h1, h2⟩ := strs_lay r fun y m => h y (List.mem_cons_of_mem _ m)
    exact ⟨by simp [PyData.canLayAll0, PyData.canLay0, h1, h x List.mem_cons_self], by simp [PyData.depthAll, PyData.depth, h2]⟩
theorem strs_shaped {ws : List Str} (h : ∀ x ∈ ws, PyData.strOk x = true) : SeqAt.shaped (.list (ws.map PyData.str)) = true := by
  obtain ⟨h1, h2⟩ := strs_lay ws h
  refine shaped_of (by simp only [PyData.canLay0]; exact h1) ?_
  simp only [PyData.depth]
  omega
/-- all but one list stays -/
def KB (r : Addr) (H H' : Hp) : Prop := ∀ b o, b ≠ r → H b = some o → H' b = some o
theorem KB.trans {r : Addr} {H H1 H2 : Hp} (p : KB r H H1) (q : KB r H1 H2) : KB r H H2 := fun b o n h => q b o n (p b o n h)
theorem KB.same {r : Addr} {H H' : Hp} (s : Same H H') : KB r H H' := fun b o _ h => s b o h
theorem KB.n {r : Addr} {H H' : Hp} {us : List V} (hr : H r = some (.lst us)) (k : KB r H H') : KeepN H H' := fun x o no h => k x o (fun e => by rw [e, hr] at h; cases h; exact no _ rfl) h
theorem inV_str (x : Str) : ∀ l : List Str, inV (V.str x) (l.map V.str) = decide (x ∈ l)
  | [] => by simp [inV]
  | y :: r => by
    have ih := inV_str x r
    unfold inV at ih ⊢
    rw [List.map_cons, List.any_cons, ih]
    show ((y == x) || decide (x ∈ r)) = decide (x ∈ y :: r)
    by_cases e : y = x
    · subst e; simp
    · have e' : ¬ x = y := fun z => e z.symm
      simp [e, e']
theorem flat_strs (l : List Str) : (l.map V.str).all flatV = true := by
  rw [List.all_eq_true]
  intro v m
  obtain ⟨x, _, rfl⟩ := List.mem_map.mp m
  rfl
theorem tabs_ok {t : Tr} (h : Tm t) : ∀ x ∈ tabsIn t, PyData.strOk x = true := by
  induction h with
  | num _ _ => intro x m; cases m
  | field h1 _ => intro x m; rw [List.mem_singleton.mp m]; exact h1
  | bin _ _ _ ihl ihr =>
    intro x m
    rcases List.mem_append.mp m with m | m
    · exact ihl x m
    · exact ihr x m
def BdR (K : PySem.W.Frag) (H : Hp) (v : V) (s : Span) : Prop := ∃ t, v = .ref t ∧ SqT K H t [oV s.1, oV s.2]
def BndAt (K : PySem.W.Frag) (H : Hp) (d : Addr) (bs : List (Str × Span)) : Prop := ∃ kvs, H d = some (.dK kvs) ∧ Paired (PR (BdR K) H) kvs bs
def spBnd (K : PySem.W.Frag) : Sp := fun vs H Q _ => ∃ (v : V) (c : Option Tr) (tb : Str), vs = [v, .str tb] ∧ CondAt K H v c ∧ CdO c ∧ CdT (partsO c) ∧ depO c < 16 ∧ PyData.strOk tb = true ∧
  (Bad tb (partsO c) = true → ∀ H', Same H H' → Q .non H') ∧
  (Bad tb (partsO c) = false → ∀ (d : Addr) (H' : Hp) (bs : List (Str × Span)), Same H H' → H d = none → BndAt K H' d bs → (bs.map (·.1)).Nodup → (∀ f, bs.lookup f = specF tb (partsO c) f) → Q (.ref d) H')

theorem room66 {k : Nat} {A : Around} (hr : Room k A) : A.units + 66 < cLine := by
  have := hr.un
  omega
theorem BndAt.keep {K : PySem.W.Frag} {H H' : Hp} (k : KeepN H H') {d : Addr} {bs : List (Str × Span)} (h : BndAt K H d bs) : BndAt K H' d bs := by
  obtain ⟨kvs, hd, p⟩ := h
  exact ⟨kvs, k d _ (fun _ e => nomatch e) hd, pr_mono (fun v x ⟨t, e, q⟩ => ⟨t, e, k.t q⟩) p⟩
theorem any_fl (tb f : Str) : ∀ ix : List (Str × Str), ((ix.map flD).any fun z => PyData.eqv z (.tuple [.str tb, .str f])) = decide ((tb, f) ∈ ix)
  | [] => by simp
  | q :: r => by
    rw [List.map_cons, List.any_cons, any_fl tb f r]
    have e : PyData.eqv (flD q) (.tuple [.str tb, .str f]) = decide (q = (tb, f)) := by
      obtain ⟨a, b⟩ := q
      show PyData.eqv (.tuple [.str a, .str b]) (.tuple [.str tb, .str f]) = _
      rw [eqv_pair, eqv_str]
      by_cases h1 : a = tb <;> by_cases h2 : b = f <;> simp [h1, h2]
    rw [e]
    by_cases h : q = (tb, f)
    · simp [h]
    · have h' : ¬ (tb, f) = q := fun z => h z.symm
      simp [h, h']
theorem oV_is (o : Option Int) : (match o with | .none => V.non | .some i => V.int i) = oV o := by cases o <;> rfl
section
variable {P : Program} {w : World} {K : PySem.W.Frag} {mg : Str → Option Value} {base : Heap}
theorem ifs {c : TT} {t e : TS} {D : Ends} {σ : L2.St} {H : Hp} (h : c σ H fun b H1 => if b = true then t D σ H1 else e D σ H1) : tIfS c t e D σ H := h
theorem and_ {t u : TT} {σ : L2.St} {H : Hp} {Q : Bool → Hp → Prop} (h : t σ H fun b H1 => if b = true then u σ H1 Q else Q false H1) : tAnd t u σ H Q := h
/-- is a field in the bounds -/
theorem te_has {σ : L2.St} {H : Hp} {Q : Bool → Hp → Prop} {f : Str} {ds : Addr} {bs : List (Str × Span)} {j : Nat} (hj : σ[j]? = some (some (.str f))) (h5 : σ[5]? = some (some (.ref ds))) (BD : BndAt K H ds bs) (k : Q (bs.lookup f).isSome H) : tB (tDIn (tVar j) (tVar 5)) σ H Q := by
  obtain ⟨kvs, hd, pr⟩ := BD
  refine ⟨_, hj, _, h5, ds, valV kvs (.inr f), rfl, DGet.k (k := .inr f) hd, _, rfl, ?_⟩
  rcases pr_look f pr with ⟨e1, e2⟩ | ⟨x, v, e1, e2, _⟩
  · rw [e1] at k; rw [e2]; exact k
  · rw [e1] at k; rw [e2]; exact k
end
end K06

set_option maxRecDepth 100000
set_option maxHeartbeats 4000000
namespace K06
open PySem L2
/-! ### the program: bounds -/
structure TxtP (K : PySem.W.Frag) (w : World) (mg : Str → Option Value) (fc ft : Addr) : Prop where
  any : mg "any" = none
  max : mg "max" = none
  min : mg "min" = none
  comp : mg "COMPARISONS" = some (.ref fc)
  compT : ∀ H, SqT K H fc (signs.map V.str)
  turn : mg "TURNED" = some (.ref ft)
  turnD : ∀ op ∈ signs, KDct K w ft op (.str (flip op))
def KeepD (d : Addr) (H H' : Hp) : Prop := ∀ x o, x ≠ d → H x = some o → H' x = some o
theorem KeepD.trans {d : Addr} {H H1 H2 : Hp} (p : KeepD d H H1) (q : KeepD d H1 H2) : KeepD d H H2 := fun x o n h => q x o n (p x o n h)
theorem KeepD.of {d : Addr} {H H' : Hp} (s : Same H H') : KeepD d H H' := fun x o _ h => s x o h
theorem sqT_keepD {K : PySem.W.Frag} {H H' : Hp} {d t : Addr} {xs : List V} {kvs : List (Key × V)} (h : SqT K H t xs) (hd : H d = some (.dK kvs)) (q : KeepD d H H') : SqT K H' t xs := by
  rcases h with (h | ⟨o', h⟩) | h
  · exact .inl (.inl (q _ _ (fun z => by rw [z, hd] at h; cases h) h))
  · exact .inl (.inr ⟨o', q _ _ (fun z => by rw [z, hd] at h; cases h) h⟩)
  · exact .inr h
theorem bd_keepD {K : PySem.W.Frag} {H H' : Hp} {d : Addr} {ks : List (Key × V)} (hd : H d = some (.dK ks)) (q : KeepD d H H') {kvs : List (Key × V)} {bs : List (Str × Span)} (h : Paired (PR (BdR K) H) kvs bs) : Paired (PR (BdR K) H') kvs bs :=
  Paired.mapP h fun _ _ ⟨e, t, e2, ht⟩ => ⟨e, t, e2, sqT_keepD ht hd q⟩
theorem bd_put {K : PySem.W.Frag} {H : Hp} {v : V} {x : Span} {k : Str} {kvs : List (Key × V)} {fs : List (Str × Span)} (h : Paired (PR (BdR K) H) kvs fs) (r : BdR K H v x) : Paired (PR (BdR K) H) (putK kvs (.inr k) v) (putL fs k x) := by
  by_cases m : k ∈ fs.map (·.1)
  · have any : (kvs.any fun kv => decide (kv.1 = (Sum.inr k : Key))) = true := by
      rw [List.any_eq_true]
      have e := pr_keys h
      have m2 : (Sum.inr k : Key) ∈ kvs.map (·.1) := by rw [e]; exact List.mem_map_of_mem m
      obtain ⟨kv, m3, e3⟩ := List.mem_map.mp m2
      exact ⟨kv, m3, decide_eq_true e3⟩
    unfold putK putL
    rw [if_pos any, if_pos m]
    clear any m
    induction h with
    | nil => exact .nil
    | @cons kv p l1 l2 h1 h2 ih =>
      rw [List.map_cons, List.map_cons]
      refine .cons ?_ ih
      obtain ⟨e, q⟩ := h1
      have e : kv.1 = .inr p.1 := e
      by_cases z : p.1 = k
      · rw [if_pos (by rw [e, z]), if_pos z]
        exact ⟨e, r⟩
      · rw [if_neg (fun y => z (Sum.inr.inj (e.symm.trans y))), if_neg z]
        exact ⟨e, q⟩
  · rw [pr_put h m]
    unfold putL
    rw [if_neg m]
    exact pr_snoc h r
def addS (o : Option Span) (e : Span) : Span := match o with
  | none => e
  | some s => (maxO s.1 e.1, minO s.2 e.2)
theorem max_none (b : Option Int) : maxO none b = b := by cases b <;> rfl
theorem min_none (b : Option Int) : minO none b = b := by cases b <;> rfl
theorem narrow_add (o : Option Span) (op : Str) (n : Int) : narrow (o.getD (none, none)) op n = addS o (lowOf op n, highOf op n) := by
  cases o with
  | none => exact Prod.ext (max_none _) (min_none _)
  | some s => rfl
theorem ends_eq (n : Int) : lowOf gEq n = some n ∧ highOf gEq n = some n :=
  ⟨by unfold lowOf; rw [if_pos (.inl rfl), if_neg (by decide +kernel), Int.add_zero], by unfold highOf; rw [if_pos (.inl rfl), if_neg (by decide +kernel), Int.sub_zero]⟩
theorem ends_lt (n : Int) : lowOf gLt n = none ∧ highOf gLt n = some (n - 1) :=
  ⟨by unfold lowOf; rw [if_neg (by decide +kernel)], by unfold highOf; rw [if_pos (.inr (.inl rfl)), if_pos rfl]⟩
theorem ends_gt (n : Int) : lowOf gGt n = some (n + 1) ∧ highOf gGt n = none :=
  ⟨by unfold lowOf; rw [if_pos (.inr (.inl rfl)), if_pos rfl], by unfold highOf; rw [if_neg (by decide +kernel)]⟩
theorem ends_le (n : Int) : lowOf gLe n = none ∧ highOf gLe n = some n :=
  ⟨by unfold lowOf; rw [if_neg (by decide +kernel)], by unfold highOf; rw [if_pos (.inr (.inr rfl)), if_neg (by decide +kernel), Int.sub_zero]⟩
theorem ends_ge (n : Int) : lowOf gGe n = some n ∧ highOf gGe n = none :=
  ⟨by unfold lowOf; rw [if_pos (.inr (.inr rfl)), if_neg (by decide +kernel), Int.add_zero], by unfold highOf; rw [if_neg (by decide +kernel)]⟩
theorem sign_cases {op : Str} (h : op ∈ signs) : op = gEq ∨ op = gLt ∨ op = gGt ∨ op = gLe ∨ op = gGe := by
  simpa only [signs, List.mem_cons, List.mem_nil_iff, or_false] using h
def isOfT (tb : Str) : Tr → Bool
  | .field t _ => decide (t = tb)
  | _ => false
def isNumT : Tr → Bool
  | .num _ => true
  | _ => false
def spIsso : Sp := fun vs H Q _ => ∃ (op : Str) (x y : Int), vs = [.str op, .int x, .int y] ∧ op ∈ signs ∧ Q (.bl (fits op x y)) H
def spIsof (K : PySem.W.Frag) : Sp := fun vs H Q _ => ∃ (v : V) (t : Tr) (tb : Str), vs = [v, .str tb] ∧ TrAt K H v t ∧ Tm t ∧ Q (.bl (isOfT tb t)) H
def spEnds : Sp := fun vs H Q _ => ∃ (op : Str) (n : Int), vs = [.str op, .int n] ∧ op ∈ signs ∧ ∀ p, H p = none → Q (.ref p) (upd H p (.tup [oV (lowOf op n), oV (highOf op n)]))
def spGreater : Sp := fun vs H Q _ => ∃ a b : Option Int, vs = [oV a, oV b] ∧ Q (oV (maxO a b)) H
def spLesser : Sp := fun vs H Q _ => ∃ a b : Option Int, vs = [oV a, oV b] ∧ Q (oV (minO a b)) H
def spCrossed : Sp := fun vs H Q _ => ∃ lo hi : Option Int, vs = [oV lo, oV hi] ∧ Q (.bl (gap (lo, hi))) H
def spNarrow (K : PySem.W.Frag) : Sp := fun vs H Q _ => ∃ (d t : Addr) (f : Str) (kvs : List (Key × V)) (bs : List (Str × Span)) (e : Span), vs = [.ref d, .str f, .ref t] ∧ H d = some (.dK kvs) ∧ Paired (PR (BdR K) H) kvs bs ∧ kvs.length < sizeLine ∧
  SqT K H t [oV e.1, oV e.2] ∧ ∀ (H' : Hp) (ks : List (Key × V)), KeepD d H H' → H' d = some (.dK ks) → Paired (PR (BdR K) H') ks (putL bs f (addS (bs.lookup f) e)) → Q .non H'
def spMusts (K : PySem.W.Frag) : Sp := fun vs H Q _ => ∃ (v : V) (c : Option Tr), vs = [v] ∧ CondAt K H v c ∧ CdO c ∧ depO c < 16 ∧
  ∀ (r : Addr) (H' : Hp) (us : List V), Same H H' → H r = none → H' r = some (.lst us) → Paired (TrAt K H') us (partsO c) → Q (.ref r) H'
section
variable {P : Program} {w : World} {K : PySem.W.Frag} {mg : Str → Option Value} {base : Heap}
theorem sif_str {i : Nat} {x y : Str} {t e u : TS} {D : Ends} {σ : L2.St} {H : Hp} (h : σ[i]? = some (some (.str x))) (h1 : x = y → t { D with nx := u D } σ H) (h2 : x ≠ y → e { D with nx := u D } σ H) :
    tSeq (tIfS (tTest (tOp rEq (tVar i) (tC (.str y)))) t e) u D σ H := by
  refine sif ⟨_, h, rfl, _, rfl, ?_⟩
  show if decide (V.str x = V.str y) = true then t { D with nx := u D } σ H else e { D with nx := u D } σ H
  by_cases c : x = y
  · rw [if_pos (decide_eq_true (congrArg V.str c))]
    exact h1 c
  · rw [if_neg (fun z => c (V.str.inj (of_decide_eq_true z)))]
    exact h2 c
theorem scIsso : FnScope ["sign", "one", "other"] ["sign", "one", "other"] (defScope sisso) := ⟨rfl, rfl, rfl, by decide +kernel, rfl, by decide +kernel, by decide +kernel⟩
theorem ok_isso {f : Addr} {fd : FuncData} (F : Fun K "is_so" "is_so" sisso f fd) : FnOk P w K mg base CX0 1 f fd ["sign", "one", "other"] spIsso := by
  refine F.ok scIsso (fun vs H Q E h => ?_) (fun cdv A outer s H vs Q E hr h => ?_)
  · obtain ⟨op, x, y, rfl, _⟩ := h
    rfl
  · obtain ⟨op, x, y, rfl, hop, k⟩ := h
    refine ⟨_, (pss_cons (ps_if (pt_cmpR op_eq (pv 0) pe_str (nomark _)) (pss_one (ps_ret (pe_cmpR op_eq (pv 1) (pv 2) (nomark _)))) pss_nil)
      (pss_cons (ps_if (pt_cmpR op_eq (pv 0) pe_str (nomark _)) (pss_one (ps_ret (pe_cmpR op_lt (pv 1) (pv 2) (nomark _)))) pss_nil)
      (pss_cons (ps_if (pt_cmpR op_eq (pv 0) pe_str (nomark _)) (pss_one (ps_ret (pe_cmpR op_gt (pv 1) (pv 2) (nomark _)))) pss_nil)
      (pss_cons (ps_if (pt_cmpR op_eq (pv 0) pe_str (nomark _)) (pss_one (ps_ret (pe_cmpR op_le (pv 1) (pv 2) (nomark _)))) pss_nil)
      (pss_one (ps_ret (pe_cmpR op_ge (pv 1) (pv 2) (nomark _)))))))), ?_⟩
    have vx : decide (V.int x = V.int y) = decide (x = y) := decide_eq_decide.mpr ⟨fun e => V.int.inj e, fun e => congrArg V.int e⟩
    unfold fits at k
    refine sif_str rfl (fun e => ?_) (fun n1 => ?_)
    · rw [if_pos e, ← vx] at k
      exact ⟨_, rfl, _, rfl, rfl, k⟩
    rw [if_neg n1] at k
    show tSeq _ _ _ _ _
    refine sif_str rfl (fun e => ?_) (fun n1 => ?_)
    · rw [if_pos e] at k
      exact ⟨_, rfl, _, rfl, _, _, rfl, rfl, k⟩
    rw [if_neg n1] at k
    show tSeq _ _ _ _ _
    refine sif_str rfl (fun e => ?_) (fun n1 => ?_)
    · rw [if_pos e] at k
      exact ⟨_, rfl, _, rfl, _, _, rfl, rfl, k⟩
    rw [if_neg n1] at k
    show tSeq _ _ _ _ _
    refine sif_str rfl (fun e => ?_) (fun n1 => ?_)
    · rw [if_pos e] at k
      exact ⟨_, rfl, _, rfl, _, _, rfl, rfl, k⟩
    rw [if_neg n1] at k
    exact ⟨_, rfl, _, rfl, _, _, rfl, rfl, k⟩
theorem scIsof : FnScope ["term", "table"] ["term", "table"] (defScope sisof) := ⟨rfl, rfl, rfl, by decide +kernel, rfl, by decide +kernel, by decide +kernel⟩
theorem ok_isof {f : Addr} {fd : FuncData} (F : Fun K "is_of" "is_of" sisof f fd) : FnOk P w K mg base CX0 1 f fd ["term", "table"] (spIsof K) := by
  refine F.ok scIsof (fun vs H Q E h => ?_) (fun cdv A outer s H vs Q E hr h => ?_)
  · obtain ⟨v, t, tb, rfl, _⟩ := h
    rfl
  · obtain ⟨v, t, tb, rfl, ht, tm, k⟩ := h
    refine ⟨_, (pss_one (ps_ret (pe_and (pe_cmpR op_eq (pe_ix (RK.ixT (K := K)) (pv 0) pe_int (fun _ _ => rfl)) pe_str (nomark _)) (pe_one (pe_cmpR op_eq (pe_ix (RK.ixT (K := K)) (pv 0) pe_int (fun _ _ => rfl)) (pv 1) (nomark _)))))), ?_⟩
    cases tm with
    | num h1 h2 =>
      obtain ⟨p, rfl, hp⟩ := ht
      refine ⟨_, rfl, p, _, _, _, rfl, rfl, hp, rfl, rfl, _, rfl, ?_⟩
      rw [show decide (V.str (Str.ofString "num") = V.str (Str.ofString "field")) = false by decide +kernel]
      exact iteF k
    | @field t0 g h1 h2 =>
      obtain ⟨p, rfl, hp⟩ := ht
      refine ⟨_, rfl, p, _, _, _, rfl, rfl, hp, rfl, rfl, _, rfl, ?_⟩
      rw [show decide (V.str (Str.ofString "field") = V.str (Str.ofString "field")) = true by decide +kernel]
      refine iteT ⟨_, rfl, p, _, _, _, rfl, rfl, hp, rfl, _, rfl, rfl, ?_⟩
      have e : decide (V.str t0 = V.str tb) = decide (t0 = tb) := decide_eq_decide.mpr ⟨fun e => V.str.inj e, fun e => congrArg V.str e⟩
      show Q (.bl (decide (V.str t0 = V.str tb))) H
      rw [e]
      exact k
    | @bin o l r ho _ _ =>
      obtain ⟨p, x, y, rfl, hp, _⟩ := ht
      refine ⟨_, rfl, p, _, _, _, rfl, rfl, hp, rfl, rfl, _, rfl, ?_⟩
      have e : decide (V.str o = V.str (Str.ofString "field")) = false := by
        simp only [List.mem_cons, List.mem_nil_iff, or_false] at ho
        rcases ho with rfl | rfl | rfl <;> decide +kernel
      rw [e]
      exact iteF k
theorem scEnds : FnScope ["sign", "number"] ["sign", "number"] (defScope sends) := ⟨rfl, rfl, rfl, by decide +kernel, rfl, by decide +kernel, by decide +kernel⟩
theorem ok_ends {f : Addr} {fd : FuncData} (F : Fun K "ends" "ends" sends f fd) : FnOk P w K mg base CX0 1 f fd ["sign", "number"] spEnds := by
  refine F.ok scEnds (fun vs H Q E h => ?_) (fun cdv A outer s H vs Q E hr h => ?_)
  · obtain ⟨op, n, rfl, _⟩ := h
    rfl
  · obtain ⟨op, n, rfl, hop, k⟩ := h
    refine ⟨_, (pss_cons (ps_if (pt_cmpR op_eq (pv 0) pe_str (nomark _)) (pss_one (ps_ret (pe_tup (pa_cons (pv 1) (pa_cons (pv 1) pa_nil))))) pss_nil)
      (pss_cons (ps_if (pt_cmpR op_eq (pv 0) pe_str (nomark _)) (pss_one (ps_ret (pe_tup (pa_cons pe_non (pa_cons (pe_op op_sub (pv 1) pe_int) pa_nil))))) pss_nil)
      (pss_cons (ps_if (pt_cmpR op_eq (pv 0) pe_str (nomark _)) (pss_one (ps_ret (pe_tup (pa_cons (pe_op op_add (pv 1) pe_int) (pa_cons pe_non pa_nil))))) pss_nil)
      (pss_cons (ps_if (pt_cmpR op_eq (pv 0) pe_str (nomark _)) (pss_one (ps_ret (pe_tup (pa_cons pe_non (pa_cons (pv 1) pa_nil))))) pss_nil)
      (pss_one (ps_ret (pe_tup (pa_cons (pv 1) (pa_cons pe_non pa_nil))))))))), ?_⟩
    refine sif_str rfl (fun e => ?_) (fun n1 => ?_)
    · rw [e, (ends_eq n).1, (ends_eq n).2] at k
      exact ⟨_, rfl, _, rfl, (by show 2 ≤ sizeLine; decide), k⟩
    show tSeq _ _ _ _ _
    refine sif_str rfl (fun e => ?_) (fun n2 => ?_)
    · rw [e, (ends_lt n).1, (ends_lt n).2] at k
      exact ⟨_, rfl, _, _, rfl, rfl, (by show 2 ≤ sizeLine; decide), k⟩
    show tSeq _ _ _ _ _
    refine sif_str rfl (fun e => ?_) (fun n3 => ?_)
    · rw [e, (ends_gt n).1, (ends_gt n).2] at k
      exact ⟨_, rfl, _, _, rfl, rfl, (by show 2 ≤ sizeLine; decide), k⟩
    show tSeq _ _ _ _ _
    refine sif_str rfl (fun e => ?_) (fun n4 => ?_)
    · rw [e, (ends_le n).1, (ends_le n).2] at k
      exact ⟨_, rfl, (by show 2 ≤ sizeLine; decide), k⟩
    rcases sign_cases hop with e | e | e | e | e
    · exact absurd e n1
    · exact absurd e n2
    · exact absurd e n3
    · exact absurd e n4
    · rw [e, (ends_ge n).1, (ends_ge n).2] at k
      exact ⟨_, rfl, (by show 2 ≤ sizeLine; decide), k⟩
theorem scGreater : FnScope ["one", "other"] ["one", "other"] (defScope sgreater) := ⟨rfl, rfl, rfl, by decide +kernel, rfl, by decide +kernel, by decide +kernel⟩
theorem ok_greater {fc ft f : Addr} {fd : FuncData} (F : Fun K "greater" "greater" sgreater f fd) (TP : TxtP K w mg fc ft) : FnOk P w K mg base CX0 1 f fd ["one", "other"] spGreater := by
  refine F.ok scGreater (fun vs H Q E h => ?_) (fun cdv A outer s H vs Q E hr h => ?_)
  · obtain ⟨a, b, rfl, _⟩ := h
    rfl
  · obtain ⟨a, b, rfl, k⟩ := h
    refine ⟨_, (pss_cons (ps_if (PW.pt (pw_or (pt_cmpR op_isN (pv 0) pe_non (nomark _)) (pw_or1 (pt_cmpR op_isN (pv 1) pe_non (nomark _))))) (pss_one (ps_ret (pe_ifExp (pt_cmpR op_isN (pv 0) pe_non (nomark _)) (pv 1) (pv 0)))) pss_nil)
      (pss_one (ps_ret (pe_callB (call_max2 rfl) (by rfl) TP.max (by decide +kernel) (pa_cons (pv 0) (pa_cons (pv 1) pa_nil)))))), ?_⟩
    cases a with
    | none =>
      rw [max_none] at k
      exact sif ⟨_, rfl, rfl, _, rfl, iteT (iteT ⟨_, rfl, rfl, _, rfl, iteT ⟨_, rfl, k⟩⟩)⟩
    | some a =>
      refine sif ⟨_, rfl, rfl, _, rfl, iteF ⟨_, rfl, rfl, _, rfl, ?_⟩⟩
      cases b with
      | none => exact iteT ⟨_, rfl, rfl, _, rfl, iteF ⟨_, rfl, k⟩⟩
      | some b => exact iteF ⟨_, rfl, _, rfl, _, _, rfl, k⟩
theorem scLesser : FnScope ["one", "other"] ["one", "other"] (defScope slesser) := ⟨rfl, rfl, rfl, by decide +kernel, rfl, by decide +kernel, by decide +kernel⟩
theorem ok_lesser {fc ft f : Addr} {fd : FuncData} (F : Fun K "lesser" "lesser" slesser f fd) (TP : TxtP K w mg fc ft) : FnOk P w K mg base CX0 1 f fd ["one", "other"] spLesser := by
  refine F.ok scLesser (fun vs H Q E h => ?_) (fun cdv A outer s H vs Q E hr h => ?_)
  · obtain ⟨a, b, rfl, _⟩ := h
    rfl
  · obtain ⟨a, b, rfl, k⟩ := h
    refine ⟨_, (pss_cons (ps_if (PW.pt (pw_or (pt_cmpR op_isN (pv 0) pe_non (nomark _)) (pw_or1 (pt_cmpR op_isN (pv 1) pe_non (nomark _))))) (pss_one (ps_ret (pe_ifExp (pt_cmpR op_isN (pv 0) pe_non (nomark _)) (pv 1) (pv 0)))) pss_nil)
      (pss_one (ps_ret (pe_callB (call_min2 rfl) (by rfl) TP.min (by decide +kernel) (pa_cons (pv 0) (pa_cons (pv 1) pa_nil)))))), ?_⟩
    cases a with
    | none =>
      rw [min_none] at k
      exact sif ⟨_, rfl, rfl, _, rfl, iteT (iteT ⟨_, rfl, rfl, _, rfl, iteT ⟨_, rfl, k⟩⟩)⟩
    | some a =>
      refine sif ⟨_, rfl, rfl, _, rfl, iteF ⟨_, rfl, rfl, _, rfl, ?_⟩⟩
      cases b with
      | none => exact iteT ⟨_, rfl, rfl, _, rfl, iteF ⟨_, rfl, k⟩⟩
      | some b => exact iteF ⟨_, rfl, _, rfl, _, _, rfl, k⟩
theorem scCrossed : FnScope ["least", "greatest"] ["least", "greatest"] (defScope siscrossed) := ⟨rfl, rfl, rfl, by decide +kernel, rfl, by decide +kernel, by decide +kernel⟩
theorem ok_crossed {f : Addr} {fd : FuncData} (F : Fun K "is_crossed" "is_crossed" siscrossed f fd) : FnOk P w K mg base CX0 1 f fd ["least", "greatest"] spCrossed := by
  refine F.ok scCrossed (fun vs H Q E h => ?_) (fun cdv A outer s H vs Q E hr h => ?_)
  · obtain ⟨lo, hi, rfl, _⟩ := h
    rfl
  · obtain ⟨lo, hi, rfl, k⟩ := h
    refine ⟨_, (pss_one (ps_ret (pe_and (pe_cmpR op_notN (pv 0) pe_non (nomark _)) (pe_and (pe_cmpR op_notN (pv 1) pe_non (nomark _)) (pe_one (pe_cmpR op_gt (pv 0) (pv 1) (nomark _))))))), ?_⟩
    cases lo with
    | none => exact ⟨_, rfl, rfl, _, rfl, k⟩
    | some l =>
      refine ⟨_, rfl, rfl, _, rfl, iteT ?_⟩
      cases hi with
      | none => exact ⟨_, rfl, rfl, _, rfl, k⟩
      | some m => exact ⟨_, rfl, rfl, _, rfl, iteT ⟨_, rfl, _, rfl, _, _, rfl, rfl, k⟩⟩
theorem scNarrow : FnScope ["told", "field", "both", "least", "greatest"] ["told", "field", "both"] (defScope snarrow) := ⟨rfl, rfl, rfl, by decide +kernel, rfl, by decide +kernel, by decide +kernel⟩
theorem ok_narrow2 {f fg fl : Addr} {fd fdg fdl : FuncData} (F : Fun K "narrow" "narrow" snarrow f fd) (Cgreater : Cal P w K mg base 1 "greater" ["one", "other"] spGreater fg fdg) (Clesser : Cal P w K mg base 1 "lesser" ["one", "other"] spLesser fl fdl) :
    FnOk P w K mg base CX0 2 f fd ["told", "field", "both"] (spNarrow K) := by
  refine F.ok scNarrow (fun vs H Q E h => ?_) (fun cdv A outer s H vs Q E hr h => ?_)
  · obtain ⟨d, t, f, kvs, bs, e, rfl, _⟩ := h
    rfl
  · obtain ⟨d, t, g, kvs, bs, e, rfl, hd, pr, few, ht, k⟩ := h
    have hr1 : Room 1 _ := hr.mono (by decide)
    refine ⟨_, (pss_cons (ps_if (pt_cmp (pc_dnotin (hu_of hr) (pv 1) (pv 0))) (pss_cons (ps_dput (hu_of hr) (pv 0) (pv 1) (pv 2) rfl)
        (pss_one ps_retN)) pss_nil)
      (pss_cons (ps_asg (pe_dget (hu_of hr) (pv 0) (pv 1) (fun _ _ => rfl)) (RK.pgTup (K := K) (n := 2) rfl (pgs_cons (pg_name (i := 3) scNarrow.nd rfl (Or.inl rfl)) (pgs_cons (pg_name (i := 4) scNarrow.nd rfl (Or.inl rfl)) pgs_nil))))
      (pss_one (ps_dput (hu_of hr) (pv 0) (pv 1) (pe_tup (pa_cons (pe_call Cgreater.G hr1 rfl Cgreater.g Cgreater.kp Cgreater.b .nil pass0 (pa_cons (pv 3) (pa_cons (pe_ix (RK.ixT (K := K)) (pv 2) pe_int (fun _ _ => rfl)) pa_nil))) (pa_cons (pe_call Clesser.G hr1 rfl Clesser.g Clesser.kp Clesser.b .nil pass0 (pa_cons (pv 4) (pa_cons (pe_ix (RK.ixT (K := K)) (pv 2) pe_int (fun _ _ => rfl)) pa_nil))) pa_nil))) rfl)))), ?_⟩
    refine sif ⟨_, rfl, _, rfl, d, _, rfl, DGet.k (k := Sum.inr g) hd, _, rfl, ?_⟩
    rcases pr_look g pr with ⟨e1, e2⟩ | ⟨sp, v0, e1, e2, t0, rfl, h0⟩
    · rw [e2]
      refine iteT ⟨_, rfl, _, rfl, _, rfl, d, _, rfl, DPut.k (k := Sum.inr g) hd few, ?_⟩
      have kd : KeepD d H (upd H d (.dK (putK kvs (Sum.inr g) (.ref t)))) := fun x o n q => by rw [upd_ne n]; exact q
      rw [e1] at k
      exact k _ _ kd upd_same (bd_put (bd_keepD hd kd pr) ⟨t, rfl, sqT_keepD ht hd kd⟩)
    · rw [e2]
      refine iteF ?_
      have dg : DGet H d (.str g) (some (.ref t0)) := e2 ▸ DGet.k (k := Sum.inr g) hd
      dsimp only [tNext]
      refine sa1 ?_
      refine ⟨_, rfl, _, rfl, d, _, rfl, dg, ?_⟩
      refine ⟨t0, _, rfl, h0, rfl, _, _, rfl, _, _, rfl, rfl, ?_⟩
      refine ⟨_, rfl, _, rfl, t, _, _, _, rfl, rfl, ht, rfl, sp.1, e.1, rfl, _, rfl, _, rfl, t, _, _, _, rfl, rfl, ht, rfl, sp.2, e.2, rfl, (by show 2 ≤ sizeLine; decide), fun p hp => ?_⟩
      have s1 := Same.new (o := .tup [oV (maxO sp.1 e.1), oV (minO sp.2 e.2)]) hp
      refine ⟨_, rfl, _, rfl, d, _, rfl, DPut.k (k := Sum.inr g) (s1 _ _ hd) few, ?_⟩
      have kd : KeepD d H (upd (upd H p (.tup [oV (maxO sp.1 e.1), oV (minO sp.2 e.2)])) d (.dK (putK kvs (Sum.inr g) (.ref p)))) := fun x o n q => by rw [upd_ne n]; exact s1 _ _ q
      rw [e1] at k
      refine k _ _ kd upd_same (bd_put (bd_keepD hd kd pr) ⟨p, rfl, .inl (.inl ?_)⟩)
      rw [upd_ne (fun z => by rw [z, hd] at hp; cases hp), upd_same]
      rfl
end
end K06

set_option maxRecDepth 100000
set_option maxHeartbeats 4000000
namespace K06
open PySem L2
/-! ### musts -/
def nd : Tr → Nat
  | .bin op l r => if op = sAnd then nd l + nd r + 1 else 1
  | _ => 1
theorem nd_le : ∀ t : Tr, nd t + 1 ≤ 2 ^ (t.depth + 1)
  | .num _ => by show 1 + 1 ≤ 2 ^ (0 + 1); decide
  | .field _ _ => by show 1 + 1 ≤ 2 ^ (0 + 1); decide
  | .not x => by
    have := Nat.one_le_two_pow (n := x.depth)
    show 1 + 1 ≤ 2 ^ (x.depth + 1 + 1)
    rw [Nat.pow_succ, Nat.pow_succ]
    omega
  | .bin op l r => by
    have h1 := nd_le l
    have h2 := nd_le r
    have e1 : 2 ^ (l.depth + 1) ≤ 2 ^ (max l.depth r.depth + 1) := Nat.pow_le_pow_right (by decide) (by omega)
    have e2 : 2 ^ (r.depth + 1) ≤ 2 ^ (max l.depth r.depth + 1) := Nat.pow_le_pow_right (by decide) (by omega)
    show (if op = sAnd then nd l + nd r + 1 else 1) + 1 ≤ 2 ^ (max l.depth r.depth + 1 + 1)
    rw [Nat.pow_succ 2 (max l.depth r.depth + 1)]
    split
    · omega
    · have := Nat.one_le_two_pow (n := max l.depth r.depth + 1)
      omega
def todo (st : List Tr) : List Tr := st.reverse.flatMap parts
theorem todo_snoc (st : List Tr) (t : Tr) : todo (st ++ [t]) = parts t ++ todo st := by
  unfold todo
  rw [List.reverse_append]
  rfl
def sumN (st : List Tr) : Nat := (st.map nd).sum
theorem sum_snoc (st : List Tr) (t : Tr) : sumN (st ++ [t]) = sumN st + nd t := by
  unfold sumN
  rw [List.map_append, List.sum_append]
  rfl
theorem nd_pos (t : Tr) : 1 ≤ nd t := by
  cases t with
  | bin op l r =>
    show 1 ≤ (if op = sAnd then nd l + nd r + 1 else 1)
    split <;> omega
  | _ => exact Nat.le_refl 1
theorem len_sum : ∀ st : List Tr, st.length ≤ sumN st
  | [] => Nat.zero_le _
  | t :: r => by
    have h := len_sum r
    have p := nd_pos t
    show r.length + 1 ≤ nd t + sumN r
    omega
theorem pair_unsnoc {α β : Type} {F : α → β → Prop} : ∀ {l1 : List α} {l2 : List β} {b : β}, Paired F l1 (l2 ++ [b]) → ∃ l a, l1 = l ++ [a] ∧ Paired F l l2 ∧ F a b
  | _, [], _, .cons r .nil => ⟨[], _, rfl, .nil, r⟩
  | _, _ :: l2, _, .cons r q => by
    obtain ⟨l, a, e, p, z⟩ := pair_unsnoc (l2 := l2) q
    exact ⟨_ :: l, a, by rw [e]; rfl, .cons r p, z⟩
theorem sign_str {op : Str} (h : op ∈ signs) : PyData.strOk op = true := by
  rcases sign_cases h with rfl | rfl | rfl | rfl | rfl <;> decide +kernel
theorem layCd {t : Tr} (h : Cd t) : PyData.canLay0 (encD t) = true ∧ PyData.depth (encD t) ≤ t.depth + 1 := by
  induction h with
  | @cmp op l r ho hl hr =>
    obtain ⟨f1, k1, t1⟩ := hl
    obtain ⟨f2, k2, t2⟩ := hr
    have a1 := layTm (Tm.of k1 t1)
    have a2 := layTm (Tm.of k2 t2)
    refine ⟨by simp [encD, PyData.canLay0, PyData.canLayAll0, sign_str ho, a1.1, a2.1], ?_⟩
    have e1 := a1.2
    have e2 := a2.2
    simp only [encD, PyData.depth, PyData.depthAll, Tr.depth]
    omega
  | @join op l r ho _ _ h1 h2 =>
    have so : PyData.strOk op = true := by
      simp only [List.mem_cons, List.mem_nil_iff, or_false] at ho
      rcases ho with rfl | rfl <;> decide +kernel
    refine ⟨by simp [encD, PyData.canLay0, PyData.canLayAll0, so, h1.1, h2.1], ?_⟩
    have e1 := h1.2
    have e2 := h2.2
    simp only [encD, PyData.depth, PyData.depthAll, Tr.depth]
    omega
  | @not x _ h1 =>
    have so : PyData.strOk (Str.ofString "not") = true := by decide +kernel
    refine ⟨by simp [encD, PyData.canLay0, PyData.canLayAll0, so, h1.1], ?_⟩
    have e1 := h1.2
    simp only [encD, PyData.depth, PyData.depthAll, Tr.depth]
    omega
theorem cds_dp {K : PySem.W.Frag} {H : Hp} : ∀ {vs : List V} {st : List Tr}, Paired (TrAt K H) vs st → DpAll K H vs (st.map encD)
  | _, _, .nil => .nil
  | _, _, .cons h r => .cons (dpTr h) (cds_dp r)
theorem cds_lay : ∀ st : List Tr, (∀ t ∈ st, Cd t ∧ t.depth < 16) → PyData.canLayAll0 (st.map encD) = true ∧ PyData.depthAll (st.map encD) ≤ 20
  | [], _ => by simp [PyData.canLayAll0, PyData.depthAll]
  | t :: r, ok => by
    obtain ⟨h1, h2⟩ := cds_lay r fun x m => ok x (List.mem_cons_of_mem _ m)
    obtain ⟨o1, o2⟩ := ok t List.mem_cons_self
    obtain ⟨a1, a2⟩ := layCd o1
    refine ⟨by simp [PyData.canLayAll0, h1, a1], ?_⟩
    simp only [List.map_cons, PyData.depthAll]
    omega
theorem cds_shaped {st : List Tr} (ok : ∀ t ∈ st, Cd t ∧ t.depth < 16) : SeqAt.shaped (.list (st.map encD)) = true := by
  obtain ⟨h1, h2⟩ := cds_lay st ok
  refine shaped_of (by simp only [PyData.canLay0]; exact h1) ?_
  simp only [PyData.depth]
  omega
section
variable {P : Program} {w : World} {K : PySem.W.Frag} {mg : Str → Option Value} {base : Heap}
structure MuInv (K : PySem.W.Frag) (H H' : Hp) (r wl : Addr) (ps : List Tr) (st : List Tr) : Prop where
  same : Same H H'
  two : r ≠ wl
  all : ∃ us dn, H' r = some (.lst us) ∧ Paired (TrAt K H') us dn ∧ dn ++ todo st = ps
  wait : ∃ ws, H' wl = some (.lst ws) ∧ Paired (TrAt K H') ws st
  ok : ∀ t ∈ st, Cd t ∧ t.depth < 16
theorem trs_same {H H' : Hp} (s : Same H H') {us : List V} {ts : List Tr} (h : Paired (TrAt K H) us ts) : Paired (TrAt K H') us ts := Paired.mapP h fun _ _ z => z.keep (KeepN.of s)
def tPop (K : PySem.W.Frag) : TE := tBM0 K "list" rPop (tVar 2)
def tPush (K : PySem.W.Frag) (i : Nat) (te : TE) : TS := tDrop (tBM K "list" rAppend (tVar i) (tCons te tNil))
def tMu (K : PySem.W.Frag) (fc : Addr) : TS :=
  tSeq (tWhile (tTest (tOp (rNeD K) (tVar 2) (tLst tNil)))
    (tSeq (tAsg (tPop K) (gName 3))
      (tIfS (tTest (tOp rEq (tOp (rIxT K) (tVar 3) (tC (V.int 0))) (tC (V.str (Str.ofString "and")))))
        (tSeq (tPush K 2 (tOp (rIxT K) (tVar 3) (tC (V.int 2)))) (tPush K 2 (tOp (rIxT K) (tVar 3) (tC (V.int 1)))))
        (tIfS (tTest (tOp (rIn K false) (tOp (rIxT K) (tVar 3) (tC (V.int 0))) (tC (V.ref fc)))) (tPush K 1 (tVar 3)) tNext))))
  (tRet (tVar 1))
theorem push_run {i : Nat} {te : TE} {D : Ends} {σ : L2.St} {H : Hp} {l : Addr} {xs : List V} {y : V} (hi : σ[i]? = some (some (.ref l))) (hl : H l = some (.lst xs)) (few : xs.length < sizeLine) (ht : ∀ Q : VK, Q y H → te σ H Q) (q : D.nx σ (upd H l (.lst (xs ++ [y])))) :
    tPush K i te D σ H := ⟨_, hi, .inl ⟨rfl, _, SqL.of hl⟩, ht _ ⟨l, xs, y, rfl, rfl, hl, few, q⟩⟩
theorem ix_run {p : Addr} {σ : L2.St} {H : Hp} {Q : VK} {j : Nat} {xs : List V} {y : V} (hs : σ[3]? = some (some (.ref p))) (hp : SqT K H p xs) (hj : xs[j]? = some y) (q : Q y H) : tOp (rIxT K) (tVar 3) (tC (V.int (j : Nat))) σ H Q :=
  ⟨_, hs, p, _, _, _, rfl, rfl, hp, atI_nat hj, q⟩
theorem tag_run {p : Addr} {σ : L2.St} {H : Hp} {Qb : Bool → Hp → Prop} {xs : List V} {op z : Str} {b : Bool} (hs : σ[3]? = some (some (.ref p))) (hp : SqT K H p (.str op :: xs)) (hb : decide (V.str op = V.str z) = b) (q : Qb b H) :
    tTest (tOp rEq (tOp (rIxT K) (tVar 3) (tC (V.int 0))) (tC (V.str z))) σ H Qb := ⟨_, hs, p, _, _, _, rfl, rfl, hp, atI_nat (j := 0) rfl, rfl, b, by rw [← hb], q⟩
theorem in_run {p fc : Addr} {σ : L2.St} {H : Hp} {Qb : Bool → Hp → Prop} {xs : List V} {op : Str} {b : Bool} (hs : σ[3]? = some (some (.ref p))) (hp : SqT K H p (.str op :: xs)) (hc : SqT K H fc (signs.map V.str)) (hb : inV (V.str op) (signs.map V.str) = b) (q : Qb b H) :
    tTest (tOp (rIn K false) (tOp (rIxT K) (tVar 3) (tC (V.int 0))) (tC (V.ref fc))) σ H Qb := ⟨_, hs, p, _, _, _, rfl, rfl, hp, atI_nat (j := 0) rfl, fc, _, rfl, .inr hc, rfl, rfl, b, by rw [← hb]; rfl, q⟩
theorem mu_run {D : Ends} {fc : Addr} (hc : ∀ H, SqT K H fc (signs.map V.str)) {v3 : Option V} {v : V} {H H1 : Hp} {r wl : Addr} {ps st : List Tr} (I : MuInv K H H1 r wl ps st) (hr0 : H r = none) (hw0 : H wl = none) (sm : sumN st ≤ 2 ^ 17) (small : ps.length ≤ 2 ^ 16)
    (k : ∀ (H' : Hp) (us : List V), Same H H' → H' r = some (.lst us) → Paired (TrAt K H') us ps → D.rt (.ref r) H') : tMu K fc D [some v, some (.ref r), some (.ref wl), v3] H1 := by
  refine ⟨fun m σ H' => ∃ v3 st, m = sumN st ∧ m ≤ 2 ^ 17 ∧ σ = [some v, some (.ref r), some (.ref wl), v3] ∧ MuInv K H H' r wl ps st, ⟨_, v3, st, rfl, sm, rfl, I⟩, ?_⟩
  rintro m σ H2 ⟨u3, st, rfl, sm, rfl, I⟩
  obtain ⟨same, two, ⟨us, dn, hr, pu, eq⟩, ⟨ws, hw, pw⟩, ok⟩ := I
  refine ⟨_, rfl, (by show 0 ≤ sizeLine; decide), fun q hq => ?_⟩
  have sq := Same.new (o := .lst []) hq
  refine ⟨.list (st.map encD), .list [], .lst (SqL.of (sq _ _ hw)) (cds_dp (trs_same sq pw)), .lst (SqL.of upd_same) .nil, cds_shaped ok, rfl, _, rfl, ?_⟩
  rw [eqv_nil]
  have same2 := same.trans sq
  have hr2 := sq _ _ hr
  have hw2 := sq _ _ hw
  have pu2 := trs_same sq pu
  have pw2 := trs_same sq pw
  generalize upd H2 q (.lst []) = H3 at same2 hr2 hw2 pu2 pw2 ⊢
  clear sq hq hr hw pu pw same
  rcases List.eq_nil_or_concat st with rfl | ⟨st0, t, rfl⟩
  · refine iteF ⟨_, rfl, ?_⟩
    have e : dn = ps := by
      have z : dn ++ todo [] = ps := eq
      rw [show todo [] = [] from rfl, List.append_nil] at z
      exact z
    exact k H3 us same2 hr2 (e ▸ pu2)
  rw [List.concat_eq_append] at *
  have ne : (!(List.map encD (st0 ++ [t])).isEmpty) = true := by simp
  rw [ne]
  obtain ⟨ws0, x, rfl, pw0, hx⟩ := pair_unsnoc pw2
  have okt := ok t (List.mem_append.mpr (.inr List.mem_cons_self))
  have ok0 : ∀ z ∈ st0, Cd z ∧ z.depth < 16 := fun z m => ok z (List.mem_append.mpr (.inl m))
  rw [todo_snoc] at eq
  rw [sum_snoc] at sm
  have ldn : dn.length ≤ ps.length := by rw [← eq, List.length_append]; omega
  have lws : ws0.length ≤ sumN st0 := by rw [Paired.length pw0]; exact len_sum st0
  have lus : us.length ≤ ps.length := by rw [Paired.length pu2]; exact ldn
  have fin : ∀ {D' : Ends} {σ' : L2.St} {H' : Hp} {st' : List Tr}, True := fun {_ _ _ _} => trivial
  refine iteT ⟨fun σ' H' => ∃ m', m' < sumN (st0 ++ [t]) ∧ ∃ v3 st, m' = sumN st ∧ m' ≤ 2 ^ 17 ∧ σ' = [some v, some (.ref r), some (.ref wl), v3] ∧ MuInv K H H' r wl ps st, fun _ _ h => h, ?_⟩
  refine sa1 ?_
  refine ⟨_, rfl, .inl ⟨rfl, _, SqL.of hw2⟩, wl, _, x, rfl, rfl, hw2, by simp, ?_⟩
  rw [List.dropLast_concat]
  -- the list is shorter now
  have kn : KeepN H3 (upd H3 wl (.lst ws0)) := KeepN.lst hw2
  have h4r : upd H3 wl (.lst ws0) r = some (.lst us) := by rw [upd_ne two]; exact hr2
  have h4w : upd H3 wl (.lst ws0) wl = some (.lst ws0) := upd_same
  have p4u : Paired (TrAt K (upd H3 wl (.lst ws0))) us dn := Paired.mapP pu2 fun _ _ z => z.keep kn
  have p4w : Paired (TrAt K (upd H3 wl (.lst ws0))) ws0 st0 := Paired.mapP pw0 fun _ _ z => z.keep kn
  have s4 : Same H (upd H3 wl (.lst ws0)) := fun y o e => by
    rw [upd_ne (fun z => by rw [z, hw0] at e; cases e)]
    exact same2 y o e
  have hx4 := hx.keep kn
  generalize upd H3 wl (.lst ws0) = H4 at kn h4r h4w p4u p4w s4 hx4 ⊢
  refine gn ?_
  have bigW : ∀ n : Nat, n ≤ 2 ^ 17 + 2 → n < sizeLine := fun n h => Nat.lt_of_le_of_lt h (by decide)
  -- the next turn, nothing more in wait
  have done : ∀ p : Addr, (∀ (us' : List V) (dn' : List Tr) (H' : Hp), Same H H' → H' r = some (.lst us') → H' wl = some (.lst ws0) → Paired (TrAt K H') us' dn' → Paired (TrAt K H') ws0 st0 → dn' ++ todo st0 = ps →
      ∃ m', m' < sumN (st0 ++ [t]) ∧ ∃ v3 st, m' = sumN st ∧ m' ≤ 2 ^ 17 ∧ [some v, some (V.ref r), some (.ref wl), some (.ref p)] = [some v, some (.ref r), some (.ref wl), v3] ∧ MuInv K H H' r wl ps st) := fun p us' dn' H' sm' e1 e2 e3 e4 e5 =>
    ⟨sumN st0, by rw [sum_snoc]; have := nd_pos t; omega, _, st0, rfl, by omega, rfl, ⟨sm', two, ⟨us', dn', e1, e3, e5⟩, ⟨ws0, e2, e4⟩, ok0⟩⟩
  obtain ⟨cdt, dpt⟩ := okt
  cases cdt with
  | @not z cz =>
    obtain ⟨p, x0, rfl, hp, hz⟩ := hx4
    refine tag_run rfl hp (by decide +kernel) (iteF ?_)
    refine in_run rfl hp (hc _) (b := false) (by decide +kernel) (iteF ?_)
    exact done p us dn H4 s4 h4r h4w p4u p4w eq
  | @cmp op l r' hop hl hr' =>
    obtain ⟨p, y, z, rfl, hp, hy, hz⟩ := hx4
    have no : decide (V.str op = V.str (Str.ofString "and")) = false ∧ inV (V.str op) (signs.map V.str) = true ∧ parts (.bin op l r') = [.bin op l r'] := by
      rcases sign_cases hop with rfl | rfl | rfl | rfl | rfl <;> exact ⟨by decide +kernel, by decide +kernel, by rw [parts, if_neg (by decide +kernel), if_neg (by decide +kernel)]⟩
    refine tag_run rfl hp no.1 (iteF ?_)
    refine in_run rfl hp (hc _) no.2.1 (iteT ?_)
    refine push_run rfl h4r (bigW _ (Nat.le_trans lus (Nat.le_trans small (by decide)))) (fun Q q => ⟨_, rfl, q⟩) ?_
    have kn5 : KeepN H4 (upd H4 r (.lst (us ++ [.ref p]))) := KeepN.lst h4r
    rw [no.2.2] at eq
    refine done p (us ++ [.ref p]) (dn ++ [.bin op l r']) _ (fun y' o e => ?_) upd_same (by rw [upd_ne two.symm]; exact h4w) (Paired.snoc (Paired.mapP p4u fun _ _ q => q.keep kn5) ?_) (Paired.mapP p4w fun _ _ q => q.keep kn5) (by rw [List.append_assoc]; exact eq)
    · rw [upd_ne (fun q => by rw [q, hr0] at e; cases e)]
      exact s4 y' o e
    · exact TrAt.keep kn5 (show TrAt K H4 (.ref p) (.bin op l r') from ⟨p, y, z, rfl, hp, hy, hz⟩)
  | @join op l r' hop cl cr =>
    obtain ⟨p, y, z, rfl, hp, hy, hz⟩ := hx4
    simp only [List.mem_cons, List.mem_nil_iff, or_false] at hop
    rcases hop with rfl | rfl
    · refine tag_run rfl hp (b := true) (by decide +kernel) (iteT ?_)
      have d2 : l.depth < 16 ∧ r'.depth < 16 := by
        have : max l.depth r'.depth + 1 < 16 := dpt
        omega
      have nde : nd (.bin sAnd l r') = nd l + nd r' + 1 := by rw [nd, if_pos rfl]
      rw [nde] at sm
      have pe : parts (.bin sAnd l r') = parts l ++ parts r' := by rw [parts, if_pos rfl]
      rw [pe] at eq
      refine push_run rfl h4w (bigW _ (by omega)) (fun Q q => ix_run (j := 2) rfl hp rfl q) ?_
      have kn5 : KeepN H4 (upd H4 wl (.lst (ws0 ++ [z]))) := KeepN.lst h4w
      have h5 : upd H4 wl (.lst (ws0 ++ [z])) wl = some (.lst (ws0 ++ [z])) := upd_same
      refine push_run rfl h5 (bigW _ (by rw [List.length_append]; show ws0.length + 1 ≤ _; omega)) (fun Q q => ix_run (j := 1) rfl (kn5.t hp) rfl q) ?_
      have kn6 : KeepN (upd H4 wl (.lst (ws0 ++ [z]))) (upd (upd H4 wl (.lst (ws0 ++ [z]))) wl (.lst (ws0 ++ [z] ++ [y]))) := KeepN.lst h5
      have kn := kn5.trans kn6
      refine ⟨sumN (st0 ++ [r'] ++ [l]), by rw [sum_snoc, sum_snoc, sum_snoc, nde]; omega, _, st0 ++ [r'] ++ [l], rfl, by rw [sum_snoc, sum_snoc]; omega, rfl, ⟨fun y' o e => ?_, two, ⟨us, dn, ?_, Paired.mapP p4u fun _ _ q => q.keep kn, ?_⟩, ⟨_, upd_same, ?_⟩, fun q m => ?_⟩⟩
      · have ne : y' ≠ wl := fun q => by rw [q, hw0] at e; cases e
        rw [upd_ne ne, upd_ne ne]
        exact s4 y' o e
      · rw [upd_ne two, upd_ne two]
        exact h4r
      · rw [todo_snoc, todo_snoc, ← eq, List.append_assoc]
      · exact Paired.snoc (Paired.snoc (Paired.mapP p4w fun _ _ q => q.keep kn) (hz.keep kn)) (hy.keep kn)
      · rcases List.mem_append.mp m with m | m
        · rcases List.mem_append.mp m with m | m
          · exact ok0 q m
          · obtain rfl := List.mem_singleton.mp m
            exact ⟨cr, d2.2⟩
        · obtain rfl := List.mem_singleton.mp m
          exact ⟨cl, d2.1⟩
    · refine tag_run rfl hp (b := false) (by decide +kernel) (iteF ?_)
      refine in_run rfl hp (hc _) (b := false) (by decide +kernel) (iteF ?_)
      have pe : parts (.bin sOr l r') = [] := by rw [parts, if_neg (by decide +kernel), if_pos rfl]
      rw [pe] at eq
      exact done p us dn H4 s4 h4r h4w p4u p4w eq
theorem scMusts : FnScope ["cond", "found", "waiting", "tree"] ["cond"] (defScope smusts) := ⟨rfl, rfl, rfl, by decide +kernel, rfl, by decide +kernel, by decide +kernel⟩
theorem ok_musts {fc ft f : Addr} {fd : FuncData} (F : Fun K "musts" "musts" smusts f fd) (TP : TxtP K w mg fc ft) : FnOk P w K mg base CX0 1 f fd ["cond"] (spMusts K) := by
  refine F.ok scMusts (fun vs H Q E h => ?_) (fun cdv A outer s H vs Q E hr h => ?_)
  · obtain ⟨v, c, rfl, _⟩ := h
    rfl
  · obtain ⟨v, c, rfl, C, cd, dp, k⟩ := h
    refine ⟨_, (pss_cons (ps_set (i := 1) scMusts.nd rfl (Or.inl rfl) (pe_lst pa_nil))
      (pss_cons (ps_set (i := 2) scMusts.nd rfl (Or.inl rfl) (pe_ifExp (pt_cmpR op_isN (pv 0) pe_non (nomark _)) (pe_lst pa_nil) (pe_lst (pa_cons (pv 0) pa_nil))))
      (pss_cons (ps_while PassesOwn.never (pt_cmpR (RK.neD (K := K) hr.units) (pv 2) (pe_lst pa_nil) (nomark _))
        (pss_cons (ps_set (i := 3) scMusts.nd rfl (Or.inl rfl) (RK.bm0 (K := K) PySem.F.plainAttrs_list PySem.F.slot_list_pop PySem.F.type_list_pop mt_pop (pv 2)))
        (pss_one (ps_if (pt_cmpR op_eq (pe_ix (RK.ixT (K := K)) (pv 3) pe_int (fun _ _ => rfl)) pe_str (nomark _)) (pss_cons (ps_expr (RK.bm (K := K) PySem.F.plainAttrs_list PySem.F.slot_list_append PySem.F.type_list_append mt_append (pv 2) (pa_cons (pe_ix (RK.ixT (K := K)) (pv 3) pe_int (fun _ _ => rfl)) pa_nil)))
          (pss_one (ps_expr (RK.bm (K := K) PySem.F.plainAttrs_list PySem.F.slot_list_append PySem.F.type_list_append mt_append (pv 2) (pa_cons (pe_ix (RK.ixT (K := K)) (pv 3) pe_int (fun _ _ => rfl)) pa_nil))))) (pss_one (ps_if (pt_cmpR (RK.inQ (K := K)) (pe_ix (RK.ixT (K := K)) (pv 3) pe_int (fun _ _ => rfl)) (pe_glob (v := .ref fc) (by rfl) TP.comp rfl) (by rfl)) (pss_one (ps_expr (RK.bm (K := K) PySem.F.plainAttrs_list PySem.F.slot_list_append PySem.F.type_list_append mt_append (pv 1) (pa_cons (pv 3) pa_nil)))) pss_nil))))))
      (pss_one (ps_ret (pv 1)))))), ?_⟩
    have small : (partsO c).length ≤ 2 ^ 16 := by
      cases c with
      | none => exact Nat.zero_le _
      | some t => exact Nat.le_trans (parts_len t) (Nat.pow_le_pow_right (by decide) (Nat.le_of_lt dp))
    refine sa1 ⟨(by show 0 ≤ sizeLine; decide), fun r hr0 => ?_⟩
    have sr := Same.new (o := .lst []) hr0
    refine gn ?_
    refine sa1 ?_
    cases c with
    | none =>
      obtain rfl : v = .non := C
      refine ⟨_, rfl, rfl, _, rfl, iteT ⟨(by show 0 ≤ sizeLine; decide), fun wl hw => ?_⟩⟩
      have sw := Same.new (o := .lst []) hw
      have two : r ≠ wl := fun z => by rw [← z, upd_same] at hw; cases hw
      exact mu_run (K := K) (st := []) TP.compT ⟨sr.trans sw, two, ⟨[], [], sw _ _ upd_same, .nil, rfl⟩, ⟨[], upd_same, .nil⟩, fun _ m => by cases m⟩ hr0 (by rw [upd_ne two.symm] at hw; exact hw) (Nat.zero_le _) small fun H' us s1 h1 p1 => k r H' us s1 hr0 h1 p1
    | some t =>
      have nn : decide (v = V.non) = false := by
        cases cd with
        | not _ => obtain ⟨p, x0, rfl, _⟩ := C; rfl
        | cmp _ _ _ => obtain ⟨p, x0, y0, rfl, _⟩ := C; rfl
        | join _ _ _ => obtain ⟨p, x0, y0, rfl, _⟩ := C; rfl
      refine ⟨_, rfl, rfl, _, rfl, ?_⟩
      rw [nn]
      refine iteF ⟨_, rfl, (by show 1 ≤ sizeLine; decide), fun wl hw => ?_⟩
      have sw := Same.new (o := .lst [v]) hw
      have two : r ≠ wl := fun z => by rw [← z, upd_same] at hw; cases hw
      have b1 : nd t ≤ 2 ^ 17 := by
        have h1 := nd_le t
        have h2 : 2 ^ (t.depth + 1) ≤ 2 ^ 17 := Nat.pow_le_pow_right (by decide) (show t.depth + 1 ≤ 17 from Nat.succ_le_succ (Nat.le_of_lt dp))
        omega
      exact mu_run (K := K) (st := [t]) TP.compT ⟨sr.trans sw, two, ⟨[], [], sw _ _ upd_same, .nil, List.append_nil _⟩, ⟨[v], upd_same, .cons (TrAt.keep (KeepN.of (sr.trans sw)) C) .nil⟩, fun q m => (List.mem_singleton.mp m) ▸ ⟨cd, dp⟩⟩ hr0
        (by rw [upd_ne two.symm] at hw; exact hw) (by show nd t + 0 ≤ 2 ^ 17; omega) small fun H' us s1 h1 p1 => k r H' us s1 hr0 h1 p1
end
end K06

set_option maxRecDepth 100000
set_option maxHeartbeats 4000000
namespace K06
open PySem L2
/-! ### bounds -/
theorem at0 {x : V} {xs : List V} : atI (x :: xs) 0 = some x := atI_nat (j := 0) rfl
theorem pair_get {α β : Type} {F : α → β → Prop} : ∀ {l₁ : List α} {l₂ : List β} {i : Nat}, Paired F l₁ l₂ → (h : i < l₂.length) → ∃ a, l₁[i]? = some a ∧ F a l₂[i]
  | _, _, 0, .cons r _, _ => ⟨_, rfl, r⟩
  | _, _, i + 1, .cons _ q, h => pair_get (i := i) q (Nat.lt_of_succ_lt_succ h)
theorem same_of {H H1 H2 : Hp} {d : Addr} (hd : H d = none) (s : Same H H1) (k : KeepD d H1 H2) : Same H H2 := fun x o e => k x o (fun z => by rw [z, hd] at e; cases e) (s x o e)
theorem same_back {H : Hp} {d D : Addr} {u o l : HO} (hd : H d = some u) (hD : upd H d o D = none) : Same H (upd (upd (upd H d o) D l) d u) := fun x v e => by
  by_cases c : x = d
  · subst c
    rw [upd_same, ← hd, e]
  · have c2 : x ≠ D := fun z => by rw [← z, upd_ne c, e] at hD; cases hD
    rw [upd_ne c, upd_ne c2, upd_ne c]
    exact e
section
variable {P : Program} {w : World} {K : PySem.W.Frag} {mg : Str → Option Value} {base : Heap}
def tNumT (K : PySem.W.Frag) (i : Nat) : TT := tTest (tOp rEq (tOp (rIxT K) (tVar i) (tC (V.int 0))) (tC (V.str (Str.ofString "num"))))
def tOfT (K : PySem.W.Frag) (i : Nat) : TT := tB (tCall (spIsof K) [] E0 (tCons (tVar i) (tCons (tVar 1) tNil)))
def tIxI (K : PySem.W.Frag) (i : Nat) (j : Int) : TE := tOp (rIxT K) (tVar i) (tC (V.int j))
def tNarrowT (K : PySem.W.Frag) (i j : Nat) (sg : TE) : TS := tDrop (tCall (spNarrow K) [] E0 (tCons (tVar 2) (tCons (tIxI K i 2) (tCons (tCall spEnds [] E0 (tCons sg (tCons (tIxI K j 1) tNil))) tNil))))
def tBd (K : PySem.W.Frag) (w : World) (ft : Addr) : TS :=
  tIfS (tAnd (tNumT K 4) (tNumT K 5)) (tIfS (tNot (tB (tCall spIsso [] E0 (tCons (tVar 3) (tCons (tIxI K 4 1) (tCons (tIxI K 5 1) tNil)))))) (tRet (tC .non)) tNext)
    (tIfS (tAnd (tOfT K 4) (tNumT K 5)) (tNarrowT K 4 5 (tVar 3))
      (tIfS (tAnd (tNumT K 4) (tOfT K 5)) (tNarrowT K 5 4 (tOp (rIxD K w) (tC (V.ref ft)) (tVar 3))) tNext))
theorem num_run {σ : L2.St} {H : Hp} {Qb : Bool → Hp → Prop} {i : Nat} {v : V} {t : Tr} (hi : σ[i]? = some (some v)) (h : TrAt K H v t) (tm : Tm t) (q : Qb (isNumT t) H) : tNumT K i σ H Qb := by
  cases tm with
  | num h1 h2 =>
    obtain ⟨p, rfl, hp⟩ := h
    exact ⟨_, hi, p, _, _, _, rfl, rfl, hp, at0, rfl, true, by decide +kernel, q⟩
  | field h1 h2 =>
    obtain ⟨p, rfl, hp⟩ := h
    exact ⟨_, hi, p, _, _, _, rfl, rfl, hp, at0, rfl, false, by decide +kernel, q⟩
  | @bin op l r ho _ _ =>
    obtain ⟨p, x, y, rfl, hp, _⟩ := h
    have e : V.bl (decide (V.str op = V.str (Str.ofString "num"))) = V.bl false := by
      simp only [List.mem_cons, List.mem_nil_iff, or_false] at ho
      rcases ho with rfl | rfl | rfl <;> decide +kernel
    exact ⟨_, hi, p, _, _, _, rfl, rfl, hp, at0, rfl, false, e, q⟩
theorem of_run {σ : L2.St} {H : Hp} {Qb : Bool → Hp → Prop} {i : Nat} {v : V} {t : Tr} {tb : Str} (hi : σ[i]? = some (some v)) (h1 : σ[1]? = some (some (.str tb))) (h : TrAt K H v t) (tm : Tm t) (q : Qb (isOfT tb t) H) : tOfT K i σ H Qb :=
  ⟨_, hi, _, h1, v, t, tb, rfl, h, tm, _, rfl, q⟩
theorem and_run {t u : TT} {σ : L2.St} {H : Hp} {Qb : Bool → Hp → Prop} {b c : Bool} (h1 : ∀ Q : Bool → Hp → Prop, Q b H → t σ H Q) (h2 : ∀ Q : Bool → Hp → Prop, Q c H → u σ H Q) (q : Qb (b && c) H) : tAnd t u σ H Qb := by
  refine h1 _ ?_
  cases b with
  | true => exact iteT (h2 _ q)
  | false => exact iteF q
/-- the ends of what narrows are taken in -/
theorem narrow_run {D : Ends} {σ : L2.St} {H : Hp} {i j : Nat} {d pF pN : Addr} {tb t0 f op sg : Str} {n : Int} {te : TE} {kvs : List (Key × V)} {fs : List (Str × Span)} (h2 : σ[2]? = some (some (.ref d))) (hi : σ[i]? = some (some (.ref pF))) (hj : σ[j]? = some (some (.ref pN)))
    (hF : SqT K H pF [.str sField, .str t0, .str f]) (hN : SqT K H pN [.str sNum, .int n]) (hop : op ∈ signs) (ht : ∀ Q : VK, Q (.str op) H → te σ H Q) (hd : H d = some (.dK kvs)) (pr : Paired (PR (BdR K) H) kvs fs) (few : kvs.length < sizeLine)
    (go : ∀ (H' : Hp) (ks : List (Key × V)), KeepD d H H' → H' d = some (.dK ks) → Paired (PR (BdR K) H') ks (stepC fs (some (f, op, n))) → D.nx σ H') : tNarrowT K i j te D σ H := by
  refine ⟨_, h2, _, hi, pF, _, _, _, rfl, rfl, hF, atI_nat (j := 2) rfl, ?_⟩
  refine ht _ ⟨_, hj, pN, _, _, _, rfl, rfl, hN, atI_nat (j := 1) rfl, op, n, rfl, hop, fun p hp => ?_⟩
  have s1 := Same.new (o := .tup [oV (lowOf op n), oV (highOf op n)]) hp
  refine ⟨d, p, f, kvs, fs, (lowOf op n, highOf op n), rfl, s1 _ _ hd, bd_keepD hd (KeepD.of s1) pr, few, SqT.of upd_same, fun H' ks kd hk pk => go H' ks ((KeepD.of s1).trans kd) hk ?_⟩
  show Paired (PR (BdR K) H') ks (putL fs f (narrow ((fs.lookup f).getD (none, none)) op n))
  rw [narrow_add]
  exact pk
theorem turn_bd {D : Ends} {v0 v6 v7 : Option V} {tb op : Str} {d ft : Addr} {vL vR : V} {L R : Tr} {H : Hp} {kvs : List (Key × V)} {fs : List (Str × Span)} (TD : ∀ x ∈ signs, KDct K w ft x (.str (flip x))) (hop : op ∈ signs)
    (hL : TrAt K H vL L) (hR : TrAt K H vR R) (tL : Tm L) (tR : Tm R) (hd : H d = some (.dK kvs)) (pr : Paired (PR (BdR K) H) kvs fs) (few : kvs.length < sizeLine)
    (bad : falseNum (.bin op L R) = true → D.rt .non H)
    (go : falseNum (.bin op L R) = false → ∀ (H' : Hp) (ks : List (Key × V)), KeepD d H H' → H' d = some (.dK ks) → Paired (PR (BdR K) H') ks (stepC fs (con tb (.bin op L R))) → D.nx [v0, some (.str tb), some (.ref d), some (.str op), some vL, some vR, v6, v7] H') :
    tBd K w ft D [v0, some (.str tb), some (.ref d), some (.str op), some vL, some vR, v6, v7] H := by
  have same : KeepD d H H := fun _ _ _ h => h
  have fl : flip op ∈ signs := by
    rcases sign_cases hop with rfl | rfl | rfl | rfl | rfl <;> decide +kernel
  refine and_run (b := isNumT L) (c := isNumT R) (fun Q q => num_run rfl hL tL q) (fun Q q => num_run rfl hR tR q) ?_
  have two : ∀ Q : Bool → Hp → Prop, Q (isOfT tb L && isNumT R) H → tAnd (tOfT K 4) (tNumT K 5) [v0, some (.str tb), some (.ref d), some (.str op), some vL, some vR, v6, v7] H Q := fun Q q =>
    and_run (fun Q q => of_run rfl rfl hL tL q) (fun Q q => num_run rfl hR tR q) q
  have three : ∀ Q : Bool → Hp → Prop, Q (isNumT L && isOfT tb R) H → tAnd (tNumT K 4) (tOfT K 5) [v0, some (.str tb), some (.ref d), some (.str op), some vL, some vR, v6, v7] H Q := fun Q q =>
    and_run (fun Q q => num_run rfl hL tL q) (fun Q q => of_run rfl rfl hR tR q) q
  cases tL with
  | @num a l1 l2 =>
    obtain ⟨pL, rfl, hpL⟩ := hL
    cases tR with
    | @num b r1 r2 =>
      obtain ⟨pR, rfl, hpR⟩ := hR
      refine iteT ?_
      refine ⟨_, rfl, _, rfl, pL, _, _, _, rfl, rfl, hpL, atI_nat (j := 1) rfl, _, rfl, pR, _, _, _, rfl, rfl, hpR, atI_nat (j := 1) rfl, op, a, b, rfl, hop, _, rfl, ?_⟩
      have e : falseNum (.bin op (.num a) (.num b)) = !fits op a b := rfl
      rw [e] at bad go
      cases c : fits op a b with
      | true => exact iteF (go (by rw [c]; rfl) H kvs same hd pr)
      | false => exact iteT (bad (by rw [c]; rfl))
    | @field t0 f r1 r2 =>
      obtain ⟨pR, rfl, hpR⟩ := hR
      refine iteF (two _ (iteF (three _ ?_)))
      have e : con tb (.bin op (.num a) (.field t0 f)) = if t0 = tb then some (f, flip op, a) else none := rfl
      rw [e] at go
      show if (decide (t0 = tb)) = true then _ else _
      by_cases c : t0 = tb
      · rw [if_pos c] at go
        rw [if_pos (decide_eq_true c)]
        exact narrow_run (tb := tb) (sg := op) rfl rfl rfl hpR hpL fl (fun Q q => ⟨_, rfl, ft, op, _, rfl, rfl, TD op hop, q⟩) hd pr few (go rfl)
      · rw [if_neg c] at go
        rw [if_neg (fun z => c (of_decide_eq_true z))]
        exact go rfl H kvs same hd pr
    | bin _ _ _ => exact iteF (two _ (iteF (three _ (iteF (go rfl H kvs same hd pr)))))
  | @field t0 f l1 l2 =>
    obtain ⟨pL, rfl, hpL⟩ := hL
    cases tR with
    | @num b r1 r2 =>
      obtain ⟨pR, rfl, hpR⟩ := hR
      have e : con tb (.bin op (.field t0 f) (.num b)) = if t0 = tb then some (f, op, b) else none := rfl
      rw [e] at go
      refine iteF (two _ ?_)
      show if (decide (t0 = tb) && true) = true then _ else _
      by_cases c : t0 = tb
      · rw [if_pos c] at go
        rw [if_pos (by rw [decide_eq_true c]; rfl)]
        exact narrow_run (tb := tb) (sg := op) rfl rfl rfl hpL hpR hop (fun Q q => ⟨_, rfl, q⟩) hd pr few (go rfl)
      · rw [if_neg c] at go
        rw [if_neg (by rw [decide_eq_false c]; decide)]
        exact three _ (iteF (go rfl H kvs same hd pr))
    | field _ _ =>
      refine iteF (two _ ?_)
      show if (isOfT tb (.field t0 f) && false) = true then _ else _
      rw [Bool.and_false]
      exact iteF (three _ (iteF (go rfl H kvs same hd pr)))
    | bin _ _ _ =>
      refine iteF (two _ ?_)
      show if (isOfT tb (.field t0 f) && false) = true then _ else _
      rw [Bool.and_false]
      exact iteF (three _ (iteF (go rfl H kvs same hd pr)))
  | bin _ _ _ =>
    cases tR with
    | num _ _ => exact iteF (two _ (iteF (three _ (iteF (go rfl H kvs same hd pr)))))
    | field _ _ => exact iteF (two _ (iteF (three _ (iteF (go rfl H kvs same hd pr)))))
    | bin _ _ _ => exact iteF (two _ (iteF (three _ (iteF (go rfl H kvs same hd pr)))))
theorem scBounds : FnScope ["cond", "table", "told", "sign", "left", "right", "least", "greatest"] ["cond", "table"] (defScope sbounds) := ⟨rfl, rfl, rfl, by decide +kernel, rfl, by decide +kernel, by decide +kernel⟩
theorem ok_bounds {fc ft f f1 f2 f3 f4 f5 f6 : Addr} {fd fd1 fd2 fd3 fd4 fd5 fd6 : FuncData} (F : Fun K "bounds" "bounds" sbounds f fd) (TP : TxtP K w mg fc ft) (Cis_so : Cal P w K mg base 2 "is_so" ["sign", "one", "other"] spIsso f1 fd1)
    (Cmusts : Cal P w K mg base 2 "musts" ["cond"] (spMusts K) f2 fd2) (Cis_of : Cal P w K mg base 2 "is_of" ["term", "table"] (spIsof K) f3 fd3) (Cends : Cal P w K mg base 2 "ends" ["sign", "number"] spEnds f4 fd4)
    (Cnarrow : Cal P w K mg base 2 "narrow" ["told", "field", "both"] (spNarrow K) f5 fd5) (Cis_crossed : Cal P w K mg base 2 "is_crossed" ["least", "greatest"] spCrossed f6 fd6) : FnOk P w K mg base CX0 3 f fd ["cond", "table"] (spBnd K) := by
  refine F.ok scBounds (fun vs H Q E h => ?_) (fun cdv A outer s H vs Q E hr h => ?_)
  · obtain ⟨v, c, tb, rfl, _⟩ := h
    rfl
  · obtain ⟨v, c, tb, rfl, C, cd, ct, dp, hok, k1, k2⟩ := h
    have hr1 : Room 2 _ := hr.mono (by decide)
    refine ⟨_, (pss_cons (ps_set (i := 2) scBounds.nd rfl (Or.inl rfl) pe_dnewK)
      (pss_cons (ps_for PassesOwn.never rfl (RK.piL (K := K) (pe_call Cmusts.G hr1 (by rfl) Cmusts.g Cmusts.kp Cmusts.b .nil pass0 (pa_cons (pv 0) pa_nil))) (RK.pgTup (K := K) (n := 3) rfl (pgs_cons (pg_name (i := 3) scBounds.nd rfl (Or.inl rfl)) (pgs_cons (pg_name (i := 4) scBounds.nd rfl (Or.inl rfl)) (pgs_cons (pg_name (i := 5) scBounds.nd rfl (Or.inl rfl)) pgs_nil))))
        (pss_one (ps_if (PW.pt (pw_and (pt_cmpR op_eq (pe_ix (RK.ixT (K := K)) (pv 4) pe_int (fun _ _ => rfl)) pe_str (nomark _)) (pw_and1 (pt_cmpR op_eq (pe_ix (RK.ixT (K := K)) (pv 5) pe_int (fun _ _ => rfl)) pe_str (nomark _))))) (pss_one (ps_if (pt_not (pt_val (pe_call Cis_so.G hr1 (by rfl) Cis_so.g Cis_so.kp Cis_so.b .nil pass0 (pa_cons (pv 3) (pa_cons (pe_ix (RK.ixT (K := K)) (pv 4) pe_int (fun _ _ => rfl)) (pa_cons (pe_ix (RK.ixT (K := K)) (pv 5) pe_int (fun _ _ => rfl)) pa_nil)))))) (pss_one (ps_ret pe_non)) pss_nil)) (pss_one (ps_if (PW.pt (pw_and (pt_val (pe_call Cis_of.G hr1 (by rfl) Cis_of.g Cis_of.kp Cis_of.b .nil pass0 (pa_cons (pv 4) (pa_cons (pv 1) pa_nil)))) (pw_and1 (pt_cmpR op_eq (pe_ix (RK.ixT (K := K)) (pv 5) pe_int (fun _ _ => rfl)) pe_str (nomark _))))) (pss_one (ps_expr (pe_call Cnarrow.G hr1 (by rfl) Cnarrow.g Cnarrow.kp Cnarrow.b .nil pass0 (pa_cons (pv 2) (pa_cons (pe_ix (RK.ixT (K := K)) (pv 4) pe_int (fun _ _ => rfl)) (pa_cons (pe_call Cends.G hr1 (by rfl) Cends.g Cends.kp Cends.b .nil pass0 (pa_cons (pv 3) (pa_cons (pe_ix (RK.ixT (K := K)) (pv 5) pe_int (fun _ _ => rfl)) pa_nil))) pa_nil)))))) (pss_one (ps_if (PW.pt (pw_and (pt_cmpR op_eq (pe_ix (RK.ixT (K := K)) (pv 4) pe_int (fun _ _ => rfl)) pe_str (nomark _)) (pw_and1 (pt_val (pe_call Cis_of.G hr1 (by rfl) Cis_of.g Cis_of.kp Cis_of.b .nil pass0 (pa_cons (pv 5) (pa_cons (pv 1) pa_nil))))))) (pss_one (ps_expr (pe_call Cnarrow.G hr1 (by rfl) Cnarrow.g Cnarrow.kp Cnarrow.b .nil pass0 (pa_cons (pv 2) (pa_cons (pe_ix (RK.ixT (K := K)) (pv 5) pe_int (fun _ _ => rfl)) (pa_cons (pe_call Cends.G hr1 (by rfl) Cends.g Cends.kp Cends.b .nil pass0 (pa_cons (pe_ix ix_kdict (pe_glob (v := .ref ft) (by rfl) TP.turn rfl) (pv 3) (fun _ _ => rfl)) (pa_cons (pe_ix (RK.ixT (K := K)) (pv 4) pe_int (fun _ _ => rfl)) pa_nil))) pa_nil)))))) pss_nil)))))))
      (pss_cons (ps_if (pt_val (pe_callB (RK.anyQ (K := K) rfl) (by rfl) TP.any (by decide +kernel) (pa_cons (pe_lock (pe_lc (own := [("least", 6), ("greatest", 7)]) rfl scBounds.nd (pi_values (pv 2)) (blkOk_by (N := ["cond", "table", "told", "sign", "left", "right", "least", "greatest"]) (sc := defScope sbounds) (by decide +kernel)) (fun _ _ _ _ _ => (RK.pgTup (K := K) (n := 2) rfl (pgs_cons (pg_name (i := 6) scBounds.nd rfl (Or.inl rfl)) (pgs_cons (pg_name (i := 7) scBounds.nd rfl (Or.inl rfl)) pgs_nil)))) (fun _ _ _ _ _ => pts_nil) (fun _ _ _ _ _ => (pe_call Cis_crossed.G hr1 (by rfl) Cis_crossed.g Cis_crossed.kp Cis_crossed.b .nil pass0 (pa_cons (pv 6) (pa_cons (pv 7) pa_nil)))))) pa_nil))) (pss_one (ps_ret pe_non)) pss_nil)
      (pss_one (ps_ret (pv 2)))))), ?_⟩
    intro d hd
    have s0 := Same.new (o := .dK []) hd
    refine gn ?_
    refine ⟨_, rfl, v, c, rfl, C.keep (KeepN.of s0), cd, dp, fun r H1 us s1 hr0 h1 p1 => ?_⟩
    have hd1 : H1 d = some (.dK []) := s1 _ _ upd_same
    have rd : r ≠ d := fun e => by rw [e, upd_same] at hr0; cases hr0
    have small : (partsO c).length ≤ 2 ^ 16 := by
      cases c with
      | none => exact Nat.zero_le _
      | some t => exact Nat.le_trans (parts_len t) (Nat.pow_le_pow_right (by decide) (Nat.le_of_lt dp))
    have lu : us.length = (partsO c).length := Paired.length p1
    have found := okS_found (tb := tb) (partsO c) ct
    refine ⟨r, rfl, ⟨_, SqL.of h1⟩, for_list (K := K) (a := r) (xs := us) (fun i σ H' => ∃ v3 v4 v5 kvs, σ = [some v, some (.str tb), some (.ref d), v3, v4, v5, none, none] ∧ KeepD d H1 H' ∧ H' d = some (.dK kvs) ∧
      Paired (PR (BdR K) H') kvs (foundL tb ((partsO c).take i)) ∧ ((partsO c).take i).any falseNum = false)
      ⟨none, none, none, [], rfl, fun _ _ _ h => h, hd1, .nil, rfl⟩ (fun i σ H' _ ⟨_, _, _, _, _, kd, _⟩ => SqL.of (kd _ _ rd h1)) ?_ ?_⟩
    · rintro i x σ H' hx ⟨v3, v4, v5, kvs, rfl, kd, hdd, pr, nf⟩
      have hi : i < (partsO c).length := by have q := (List.getElem?_eq_some_iff.mp hx).1; omega
      obtain ⟨op, L, R, ep, hop, tL, tR, _, _⟩ := ct _ (List.getElem_mem hi)
      have hx1 : TrAt K H1 x (.bin op L R) := by
        obtain ⟨y, e, ht⟩ := pair_get p1 hi
        rw [hx] at e
        cases e
        rw [ep] at ht
        exact ht
      obtain ⟨p, xL, xR, rfl, hp, hL, hR⟩ := TrAt.mono (fun t xs z => sqT_keepD z hd1 kd) hx1
      refine ⟨p, _, rfl, hp, rfl, _, _, rfl, _, _, rfl, _, _, rfl, rfl, ?_⟩
      have tk : (partsO c).take (i + 1) = (partsO c).take i ++ [.bin op L R] := by rw [List.take_add_one, List.getElem?_eq_getElem hi, ep]; rfl
      have fl : foundL tb ((partsO c).take (i + 1)) = stepC (foundL tb ((partsO c).take i)) (con tb (.bin op L R)) := by
        unfold foundL
        rw [tk, List.foldl_append]
        rfl
      have few : kvs.length < sizeLine := by
        have := (okS_found (tb := tb) ((partsO c).take i) fun z m => ct z (List.mem_of_mem_take m)).2.2
        have e2 := pr_len pr
        rw [List.length_take] at this
        exact Nat.lt_of_le_of_lt (show kvs.length ≤ 2 ^ 16 by omega) (by decide)
      refine turn_bd (K := K) TP.turnD hop hL hR tL tR hdd pr few (fun b => ?_) (fun b H2 ks kd2 hk pk => ?_)
      · have bd : Bad tb (partsO c) = true := by
          unfold Bad
          rw [Bool.or_eq_true]
          refine .inl (List.any_eq_true.mpr ⟨_, List.getElem_mem hi, ?_⟩)
          rw [ep]
          exact b
        exact k1 bd _ (same_of hd (s0.trans s1) kd)
      · refine ⟨_, _, _, ks, rfl, kd.trans kd2, hk, ?_, ?_⟩
        · rw [fl]
          exact pk
        · rw [tk, List.any_append, nf]
          show (false || (falseNum (.bin op L R) || false)) = false
          rw [b]
          rfl
    · rintro σ H' ⟨v3, v4, v5, kvs, rfl, kd, hdd, pr, nf⟩
      rw [lu, List.take_length] at pr nf
      have sm := same_of hd (s0.trans s1) kd
      dsimp only
      refine sif ?_
      refine ⟨d, _, hdd, trivial, fun od => ?_⟩
      refine ⟨_, rfl, d, od, kvs, rfl, upd_same, fun D hD => ?_⟩
      have hne : D ≠ d := fun e => by rw [e, upd_same] at hD; cases hD
      have len : kvs.length = (foundL tb (partsO c)).length := pr_len pr
      have few : (foundL tb (partsO c)).length ≤ 2 ^ 16 := Nat.le_trans found.2.2 small
      refine lc_it (walk_values (kvs := kvs)) (fun i H2 => i ≤ kvs.length ∧ H2 = upd (upd H' d (.frz od (.dK kvs))) D (.lst ((((foundL tb (partsO c)).take i).map fun p => gap p.2).map V.bl))) ⟨Nat.zero_le _, rfl⟩ ?_ ?_ ?_
      · rintro i H2 _ ⟨_, rfl⟩
        rw [upd_ne hne.symm, upd_same]
      · rintro i x H0 H2 hi ⟨_, rfl⟩ ⟨rfl, k0, hx⟩
        have hi2 : i < (foundL tb (partsO c)).length := len ▸ hi
        obtain ⟨kv, hkv, _, t, et, ht⟩ := pair_get pr hi2
        rw [hkv] at hx
        cases hx
        subst et
        have ht2 : SqT K (upd (upd H' d (.frz od (.dK kvs))) D (.lst ((((foundL tb (partsO c)).take i).map fun p => gap p.2).map V.bl))) t [oV (foundL tb (partsO c))[i].2.1, oV (foundL tb (partsO c))[i].2.2] :=
          (KeepN.of (Same.new hD)).t (sqT_keepD ht hdd fun x o n q => by rw [upd_ne n]; exact q)
        refine ⟨t, _, rfl, ht2, rfl, _, _, rfl, _, _, rfl, rfl, rfl, ?_⟩
        refine ⟨_, rfl, _, rfl, (foundL tb (partsO c))[i].2.1, (foundL tb (partsO c))[i].2.2, rfl, _, upd_same, ?_, hi, ?_⟩
        · rw [List.length_map, List.length_map, List.length_take]
          exact Nat.lt_of_le_of_lt (show min i _ ≤ 2 ^ 16 by omega) (by decide)
        · rw [upd_upd]
          have tk : (foundL tb (partsO c)).take (i + 1) = (foundL tb (partsO c)).take i ++ [(foundL tb (partsO c))[i]] := by rw [List.take_add_one, List.getElem?_eq_getElem hi2]; rfl
          rw [tk, List.map_append, List.map_append]
          rfl
      · rintro H2 ⟨_, rfl⟩
        rw [len, List.take_length]
        refine ⟨by rw [upd_ne hne.symm, upd_same], D, _, rfl, SqL.of (by rw [upd_ne hne, upd_same]), _, rfl, ?_⟩
        have e : ((foundL tb (partsO c)).map fun p => gap p.2).any id = (foundL tb (partsO c)).any fun p => gap p.2 := by
          rw [List.any_map]
          rfl
        rw [e]
        have sb : Same H (upd (upd (upd H' d (.frz od (.dK kvs))) D (.lst (((foundL tb (partsO c)).map fun p => gap p.2).map V.bl))) d (.dK kvs)) := sm.trans (same_back hdd hD)
        have be : Bad tb (partsO c) = (foundL tb (partsO c)).any fun p => gap p.2 := by
          unfold Bad
          rw [nf]
          rfl
        rw [be] at k1 k2
        cases g : (foundL tb (partsO c)).any fun p => gap p.2 with
        | true => exact iteT (k1 g _ sb)
        | false =>
          refine iteF ⟨_, rfl, ?_⟩
          refine k2 g d _ (foundL tb (partsO c)) sb hd ⟨kvs, upd_same, ?_⟩ found.2.1 (look_found tb (partsO c))
          exact bd_keepD hdd (KeepD.of (same_back hdd hD)) pr
end
end K06

set_option Elab.async false
set_option maxRecDepth 100000
set_option maxHeartbeats 1000000
namespace K06
open PySem L2
/-! ### the program: the tables of a term, ways by comparisons -/
abbrev joins : List Str := [Str.ofString "or", Str.ofString "and", Str.ofString "=", Str.ofString "<", Str.ofString ">", Str.ofString "<=", Str.ofString ">=", Str.ofString "+", Str.ofString "-", Str.ofString "*"]
structure TxtJ (K : PySem.W.Frag) (mg : Str → Option Value) (fj : Addr) : Prop where
  all : mg "all" = none
  join : mg "JOINING" = some (.ref fj)
  joinT : ∀ H, SqT K H fj (joins.map V.str)
def nt : Tr → Nat
  | .bin _ l r => nt l + nt r + 1
  | _ => 1
theorem nt_le : ∀ t : Tr, nt t + 1 ≤ 2 ^ (t.depth + 1)
  | .num _ => by show 1 + 1 ≤ 2 ^ (0 + 1); decide
  | .field _ _ => by show 1 + 1 ≤ 2 ^ (0 + 1); decide
  | .not x => by
    have := Nat.one_le_two_pow (n := x.depth)
    show 1 + 1 ≤ 2 ^ (x.depth + 1 + 1)
    rw [Nat.pow_succ, Nat.pow_succ]
    omega
  | .bin op l r => by
    have h1 := nt_le l
    have h2 := nt_le r
    have e1 : 2 ^ (l.depth + 1) ≤ 2 ^ (max l.depth r.depth + 1) := Nat.pow_le_pow_right (by decide) (by omega)
    have e2 : 2 ^ (r.depth + 1) ≤ 2 ^ (max l.depth r.depth + 1) := Nat.pow_le_pow_right (by decide) (by omega)
    show nt l + nt r + 1 + 1 ≤ 2 ^ (max l.depth r.depth + 1 + 1)
    rw [Nat.pow_succ 2 (max l.depth r.depth + 1)]
    omega
theorem nt_pos (t : Tr) : 1 ≤ nt t := by
  cases t with
  | bin op l r => show 1 ≤ nt l + nt r + 1; omega
  | _ => exact Nat.le_refl 1
def tabsAll (st : List Tr) : List Str := st.flatMap tabsIn
theorem tabsAll_snoc (st : List Tr) (t : Tr) (x : Str) : x ∈ tabsAll (st ++ [t]) ↔ x ∈ tabsAll st ∨ x ∈ tabsIn t := by
  unfold tabsAll
  rw [List.flatMap_append, List.mem_append]
  simp
def sumT (st : List Tr) : Nat := (st.map nt).sum
theorem sumT_snoc (st : List Tr) (t : Tr) : sumT (st ++ [t]) = sumT st + nt t := by
  unfold sumT
  rw [List.map_append, List.sum_append]
  rfl
theorem len_sumT : ∀ st : List Tr, st.length ≤ sumT st
  | [] => Nat.zero_le _
  | t :: r => by
    have h := len_sumT r
    have p := nt_pos t
    show r.length + 1 ≤ nt t + sumT r
    omega
theorem tms_lay : ∀ st : List Tr, (∀ t ∈ st, Tm t ∧ t.depth ≤ 21) → PyData.canLayAll0 (st.map encD) = true ∧ PyData.depthAll (st.map encD) ≤ 24
  | [], _ => by simp [PyData.canLayAll0, PyData.depthAll]
  | t :: r, ok => by
    obtain ⟨h1, h2⟩ := tms_lay r fun x m => ok x (List.mem_cons_of_mem _ m)
    obtain ⟨o1, o2⟩ := ok t List.mem_cons_self
    obtain ⟨a1, a2⟩ := layTm o1
    refine ⟨by simp [PyData.canLayAll0, h1, a1], ?_⟩
    simp only [List.map_cons, PyData.depthAll]
    omega
theorem tms_shaped {st : List Tr} (ok : ∀ t ∈ st, Tm t ∧ t.depth ≤ 21) : SeqAt.shaped (.list (st.map encD)) = true := by
  obtain ⟨h1, h2⟩ := tms_lay st ok
  refine shaped_of (by simp only [PyData.canLay0]; exact h1) ?_
  simp only [PyData.depth]
  omega
def spTabsIn (K : PySem.W.Frag) : Sp := fun vs H Q _ => ∃ (v : V) (t : Tr), vs = [v] ∧ TrAt K H v t ∧ Tm t ∧ t.depth ≤ 21 ∧ ∀ (r : Addr) (H' : Hp) (l : List Str), Same H H' → H r = none → H' r = some (.lst (l.map V.str)) → (∀ x, x ∈ l ↔ x ∈ tabsIn t) → l.length ≤ 2 ^ 22 → Q (.ref r) H'
def wayBy (t f : Str) (k : Str) (x : Tr) : Way := if f = k then .keyof t x else .byof t f x
def spWayOf (K : PySem.W.Frag) : Sp := fun vs H Q _ => ∃ (v vx : V) (t f key : Str) (x : Tr), vs = [v, vx, .str key] ∧ TrAt K H v (.field t f) ∧ TrAt K H vx x ∧ ∀ (u : V) (H' : Hp), Same H H' → WayAt K H' u (wayBy t f key x) → Q u H'
def isWay (tb : Str) (early fields : List Str) : Tr → Tr → Bool
  | .field t f, r => decide (t = tb ∧ f ∈ fields ∧ tabsIn r ≠ [] ∧ ∀ x ∈ tabsIn r, x ∈ early)
  | _, _ => false
def spIsWay (K : PySem.W.Frag) : Sp := fun vs H Q _ => ∃ (v1 v2 : V) (t1 t2 : Tr) (tb : Str) (pa pf : Addr) (early fields : List Str), vs = [v1, v2, .str tb, .ref pa, .ref pf] ∧ TrAt K H v1 t1 ∧ Tm t1 ∧ TrAt K H v2 t2 ∧ Tm t2 ∧ t2.depth ≤ 21 ∧
  SqT K H pa (early.map V.str) ∧ SqL K H pf (fields.map V.str) ∧ ∀ H', Same H H' → Q (.bl (isWay tb early fields t1 t2)) H'
section
variable {P : Program} {w : World} {K : PySem.W.Frag} {mg : Str → Option Value} {base : Heap}
structure TaInv (K : PySem.W.Frag) (H H' : Hp) (r wl : Addr) (t : Tr) (st : List Tr) : Prop where
  same : Same H H'
  two : r ≠ wl
  all : ∃ l : List Str, H' r = some (.lst (l.map V.str)) ∧ (∀ x, x ∈ tabsIn t ↔ x ∈ l ∨ x ∈ tabsAll st) ∧ l.length + sumT st ≤ nt t
  wait : ∃ ws, H' wl = some (.lst ws) ∧ Paired (TrAt K H') ws st
  ok : ∀ q ∈ st, Tm q ∧ q.depth ≤ 21
def tTa (K : PySem.W.Frag) (fj : Addr) : TS :=
  tSeq (tWhile (tTest (tOp (rNeD K) (tVar 2) (tLst tNil)))
    (tSeq (tAsg (tPop K) (gName 3))
      (tIfS (tTest (tOp rEq (tOp (rIxT K) (tVar 3) (tC (V.int 0))) (tC (V.str (Str.ofString "field"))))) (tPush K 1 (tOp (rIxT K) (tVar 3) (tC (V.int 1))))
        (tIfS (tTest (tOp (rIn K false) (tOp (rIxT K) (tVar 3) (tC (V.int 0))) (tC (V.ref fj)))) (tSeq (tPush K 2 (tOp (rIxT K) (tVar 3) (tC (V.int 1)))) (tPush K 2 (tOp (rIxT K) (tVar 3) (tC (V.int 2))))) tNext))))
  (tRet (tVar 1))
theorem in_runJ {p fj : Addr} {σ : L2.St} {H : Hp} {Qb : Bool → Hp → Prop} {xs : List V} {op : Str} {b : Bool} (hs : σ[3]? = some (some (.ref p))) (hp : SqT K H p (.str op :: xs)) (hc : SqT K H fj (joins.map V.str)) (hb : inV (V.str op) (joins.map V.str) = b) (q : Qb b H) :
    tTest (tOp (rIn K false) (tOp (rIxT K) (tVar 3) (tC (V.int 0))) (tC (V.ref fj))) σ H Qb := ⟨_, hs, p, _, _, _, rfl, rfl, hp, atI_nat (j := 0) rfl, fj, _, rfl, .inr hc, rfl, rfl, b, by rw [← hb]; rfl, q⟩
theorem ta_run {D : Ends} {fj : Addr} (hc : ∀ H, SqT K H fj (joins.map V.str)) {v3 : Option V} {v : V} {H H1 : Hp} {r wl : Addr} {t : Tr} {st : List Tr} (I : TaInv K H H1 r wl t st) (hr0 : H r = none) (hw0 : H wl = none) (small : nt t ≤ 2 ^ 22)
    (k : ∀ (H' : Hp) (l : List Str), Same H H' → H' r = some (.lst (l.map V.str)) → (∀ x, x ∈ l ↔ x ∈ tabsIn t) → l.length ≤ 2 ^ 22 → D.rt (.ref r) H') : tTa K fj D [some v, some (.ref r), some (.ref wl), v3] H1 := by
  refine ⟨fun m σ H' => ∃ v3 st, m = sumT st ∧ σ = [some v, some (.ref r), some (.ref wl), v3] ∧ TaInv K H H' r wl t st, ⟨_, v3, st, rfl, rfl, I⟩, ?_⟩
  rintro m σ H2 ⟨u3, st, rfl, rfl, I⟩
  obtain ⟨same, two, ⟨l, hr, mem, sz⟩, ⟨ws, hw, pw⟩, ok⟩ := I
  refine ⟨_, rfl, (by show 0 ≤ sizeLine; decide), fun q hq => ?_⟩
  have sq := Same.new (o := .lst []) hq
  refine ⟨.list (st.map encD), .list [], .lst (SqL.of (sq _ _ hw)) (cds_dp (trs_same sq pw)), .lst (SqL.of upd_same) .nil, tms_shaped ok, rfl, _, rfl, ?_⟩
  rw [eqv_nil]
  have same2 := same.trans sq
  have hr2 := sq _ _ hr
  have hw2 := sq _ _ hw
  have pw2 := trs_same sq pw
  generalize upd H2 q (.lst []) = H3 at same2 hr2 hw2 pw2 ⊢
  clear sq hq hr hw pw same
  have bigW : ∀ n : Nat, n ≤ 2 ^ 22 + 2 → n < sizeLine := fun n h => Nat.lt_of_le_of_lt h (by decide)
  rcases List.eq_nil_or_concat st with rfl | ⟨st0, t0, rfl⟩
  · refine iteF ⟨_, rfl, ?_⟩
    exact k H3 l same2 hr2 (fun x => by rw [mem x]; simp [tabsAll]) (by have := sz; omega)
  rw [List.concat_eq_append] at *
  have ne : (!(List.map encD (st0 ++ [t0])).isEmpty) = true := by simp
  rw [ne]
  obtain ⟨ws0, x, rfl, pw0, hx⟩ := pair_unsnoc pw2
  have okt := ok t0 (List.mem_append.mpr (.inr List.mem_cons_self))
  have ok0 : ∀ z ∈ st0, Tm z ∧ z.depth ≤ 21 := fun z m => ok z (List.mem_append.mpr (.inl m))
  rw [sumT_snoc] at sz
  have lws : ws0.length ≤ sumT st0 := by rw [Paired.length pw0]; exact len_sumT st0
  refine iteT ⟨fun σ' H' => ∃ m', m' < sumT (st0 ++ [t0]) ∧ ∃ v3 st, m' = sumT st ∧ σ' = [some v, some (.ref r), some (.ref wl), v3] ∧ TaInv K H H' r wl t st, fun _ _ h => h, ?_⟩
  refine sa1 ?_
  refine ⟨_, rfl, .inl ⟨rfl, _, SqL.of hw2⟩, wl, _, x, rfl, rfl, hw2, by simp, ?_⟩
  rw [List.dropLast_concat]
  have kn : KeepN H3 (upd H3 wl (.lst ws0)) := KeepN.lst hw2
  have h4r : upd H3 wl (.lst ws0) r = some (.lst (l.map V.str)) := by rw [upd_ne two]; exact hr2
  have h4w : upd H3 wl (.lst ws0) wl = some (.lst ws0) := upd_same
  have p4w : Paired (TrAt K (upd H3 wl (.lst ws0))) ws0 st0 := Paired.mapP pw0 fun _ _ z => z.keep kn
  have s4 : Same H (upd H3 wl (.lst ws0)) := fun y o e => by
    rw [upd_ne (fun z => by rw [z, hw0] at e; cases e)]
    exact same2 y o e
  have hx4 := hx.keep kn
  generalize upd H3 wl (.lst ws0) = H4 at kn h4r h4w p4w s4 hx4 ⊢
  refine gn ?_
  have done : ∀ (p : Addr) (l' : List Str) (H' : Hp), Same H H' → H' r = some (.lst (l'.map V.str)) → H' wl = some (.lst ws0) → Paired (TrAt K H') ws0 st0 → (∀ x, x ∈ tabsIn t ↔ x ∈ l' ∨ x ∈ tabsAll st0) → l'.length + sumT st0 ≤ nt t →
      ∃ m', m' < sumT (st0 ++ [t0]) ∧ ∃ v3 st, m' = sumT st ∧ [some v, some (V.ref r), some (.ref wl), some (.ref p)] = [some v, some (.ref r), some (.ref wl), v3] ∧ TaInv K H H' r wl t st := fun p l' H' sm' e1 e2 e4 e5 e6 =>
    ⟨sumT st0, by rw [sumT_snoc]; have := nt_pos t0; omega, _, st0, rfl, rfl, ⟨sm', two, ⟨l', e1, e5, e6⟩, ⟨ws0, e2, e4⟩, ok0⟩⟩
  obtain ⟨tmt, dpt⟩ := okt
  cases tmt with
  | @num n h1 h2 =>
    obtain ⟨p, rfl, hp⟩ := hx4
    refine tag_run rfl hp (b := false) (by decide +kernel) (iteF ?_)
    refine in_runJ rfl hp (hc _) (b := false) (by decide +kernel) (iteF ?_)
    exact done p l H4 s4 h4r h4w p4w (fun x => by rw [mem x, tabsAll_snoc]; simp [tabsIn]) (by omega)
  | @field t' f h1 h2 =>
    obtain ⟨p, rfl, hp⟩ := hx4
    refine tag_run rfl hp (b := true) (by decide +kernel) (iteT ?_)
    refine push_run rfl h4r (bigW _ (by rw [List.length_map]; omega)) (fun Q q => ix_run (j := 1) rfl hp rfl q) ?_
    have kn5 : KeepN H4 (upd H4 r (.lst (l.map V.str ++ [.str t']))) := KeepN.lst h4r
    refine done p (l ++ [t']) _ (fun y o e => ?_) (by rw [upd_same, List.map_append]; rfl) (by rw [upd_ne two.symm]; exact h4w) (Paired.mapP p4w fun _ _ q => q.keep kn5) (fun x => ?_) ?_
    · rw [upd_ne (fun q => by rw [q, hr0] at e; cases e)]
      exact s4 y o e
    · rw [mem x, tabsAll_snoc, List.mem_append]
      simp only [tabsIn, List.mem_singleton]
      constructor
      · rintro (h | h | h)
        · exact .inl (.inl h)
        · exact .inr h
        · exact .inl (.inr h)
      · rintro ((h | h) | h)
        · exact .inl h
        · exact .inr (.inr h)
        · exact .inr (.inl h)
    · rw [List.length_append]
      have : nt (.field t' f) = 1 := rfl
      show l.length + 1 + sumT st0 ≤ nt t
      omega
  | @bin op a b hop ta tb =>
    obtain ⟨p, y, z, rfl, hp, hy, hz⟩ := hx4
    have no : decide (V.str op = V.str (Str.ofString "field")) = false ∧ inV (V.str op) (joins.map V.str) = true := by
      simp only [List.mem_cons, List.mem_nil_iff, or_false] at hop
      rcases hop with rfl | rfl | rfl <;> exact ⟨by decide +kernel, by decide +kernel⟩
    refine tag_run rfl hp no.1 (iteF ?_)
    refine in_runJ rfl hp (hc _) no.2 (iteT ?_)
    have d2 : a.depth ≤ 21 ∧ b.depth ≤ 21 := by
      have : max a.depth b.depth + 1 ≤ 21 := dpt
      omega
    have nte : nt (.bin op a b) = nt a + nt b + 1 := rfl
    rw [nte] at sz
    refine push_run rfl h4w (bigW _ (by omega)) (fun Q q => ix_run (j := 1) rfl hp rfl q) ?_
    have kn5 : KeepN H4 (upd H4 wl (.lst (ws0 ++ [y]))) := KeepN.lst h4w
    have h5 : upd H4 wl (.lst (ws0 ++ [y])) wl = some (.lst (ws0 ++ [y])) := upd_same
    refine push_run rfl h5 (bigW _ (by rw [List.length_append]; show ws0.length + 1 ≤ _; omega)) (fun Q q => ix_run (j := 2) rfl (kn5.t hp) rfl q) ?_
    have kn6 : KeepN (upd H4 wl (.lst (ws0 ++ [y]))) (upd (upd H4 wl (.lst (ws0 ++ [y]))) wl (.lst (ws0 ++ [y] ++ [z]))) := KeepN.lst h5
    have kn := kn5.trans kn6
    refine ⟨sumT (st0 ++ [a] ++ [b]), by rw [sumT_snoc, sumT_snoc, sumT_snoc, nte]; omega, _, st0 ++ [a] ++ [b], rfl, rfl, ⟨fun y' o e => ?_, two, ⟨l, ?_, fun x => ?_, ?_⟩, ⟨_, upd_same, ?_⟩, fun q m => ?_⟩⟩
    · have ne : y' ≠ wl := fun q => by rw [q, hw0] at e; cases e
      rw [upd_ne ne, upd_ne ne]
      exact s4 y' o e
    · rw [upd_ne two, upd_ne two]
      exact h4r
    · rw [mem x, tabsAll_snoc, tabsAll_snoc, tabsAll_snoc]
      simp only [tabsIn, List.mem_append]
      constructor
      · rintro (h | h | h | h)
        · exact .inl h
        · exact .inr (.inl (.inl h))
        · exact .inr (.inl (.inr h))
        · exact .inr (.inr h)
      · rintro (h | (h | h) | h)
        · exact .inl h
        · exact .inr (.inl h)
        · exact .inr (.inr (.inl h))
        · exact .inr (.inr (.inr h))
    · rw [sumT_snoc, sumT_snoc]
      omega
    · exact Paired.snoc (Paired.snoc (Paired.mapP p4w fun _ _ q => q.keep kn) (hy.keep kn)) (hz.keep kn)
    · rcases List.mem_append.mp m with m | m
      · rcases List.mem_append.mp m with m | m
        · exact ok0 q m
        · obtain rfl := List.mem_singleton.mp m
          exact ⟨ta, d2.1⟩
      · obtain rfl := List.mem_singleton.mp m
        exact ⟨tb, d2.2⟩
theorem scTabsin : FnScope ["term", "tables", "waiting", "tree"] ["term"] (defScope stablesin) := ⟨rfl, rfl, rfl, by decide +kernel, rfl, by decide +kernel, by decide +kernel⟩
theorem ok_tabsin {fj f : Addr} {fd : FuncData} (F : Fun K "tables_in" "tables_in" stablesin f fd) (TJ : TxtJ K mg fj) : FnOk P w K mg base CX0 1 f fd ["term"] (spTabsIn K) := by
  refine F.ok scTabsin (fun vs H Q E h => ?_) (fun cdv A outer s H vs Q E hr h => ?_)
  · obtain ⟨v, t, rfl, _⟩ := h
    rfl
  · obtain ⟨v, t, rfl, C, tm, dp, k⟩ := h
    refine ⟨_, (pss_cons (ps_set (i := 1) scTabsin.nd rfl (Or.inl rfl) (pe_lst pa_nil))
      (pss_cons (ps_set (i := 2) scTabsin.nd rfl (Or.inl rfl) (pe_lst (pa_cons (pv 0) pa_nil)))
      (pss_cons (ps_while PassesOwn.never (pt_cmpR (RK.neD (K := K) hr.units) (pv 2) (pe_lst pa_nil) (nomark _))
        (pss_cons (ps_set (i := 3) scTabsin.nd rfl (Or.inl rfl) (RK.bm0 (K := K) PySem.F.plainAttrs_list PySem.F.slot_list_pop PySem.F.type_list_pop mt_pop (pv 2)))
        (pss_one (ps_if (pt_cmpR op_eq (pe_ix (RK.ixT (K := K)) (pv 3) pe_int (fun _ _ => rfl)) pe_str (nomark _)) (pss_one (ps_expr (RK.bm (K := K) PySem.F.plainAttrs_list PySem.F.slot_list_append PySem.F.type_list_append mt_append (pv 1) (pa_cons (pe_ix (RK.ixT (K := K)) (pv 3) pe_int (fun _ _ => rfl)) pa_nil)))) (pss_one (ps_if (pt_cmpR (RK.inQ (K := K)) (pe_ix (RK.ixT (K := K)) (pv 3) pe_int (fun _ _ => rfl)) (pe_glob (v := .ref fj) (by rfl) TJ.join rfl) (by rfl)) (pss_cons (ps_expr (RK.bm (K := K) PySem.F.plainAttrs_list PySem.F.slot_list_append PySem.F.type_list_append mt_append (pv 2) (pa_cons (pe_ix (RK.ixT (K := K)) (pv 3) pe_int (fun _ _ => rfl)) pa_nil)))
            (pss_one (ps_expr (RK.bm (K := K) PySem.F.plainAttrs_list PySem.F.slot_list_append PySem.F.type_list_append mt_append (pv 2) (pa_cons (pe_ix (RK.ixT (K := K)) (pv 3) pe_int (fun _ _ => rfl)) pa_nil))))) pss_nil))))))
      (pss_one (ps_ret (pv 1)))))), ?_⟩
    refine sa1 ⟨(by show 0 ≤ sizeLine; decide), fun r hr0 => ?_⟩
    have sr := Same.new (o := .lst []) hr0
    refine gn ?_
    refine sa1 ⟨_, rfl, (by show 1 ≤ sizeLine; decide), fun wl hw => ?_⟩
    have sw := Same.new (o := .lst [v]) hw
    have two : r ≠ wl := fun z => by rw [← z, upd_same] at hw; cases hw
    have b1 : nt t ≤ 2 ^ 22 := by
      have h1 := nt_le t
      have h2 : 2 ^ (t.depth + 1) ≤ 2 ^ 22 := Nat.pow_le_pow_right (by decide) (Nat.succ_le_succ dp)
      omega
    refine gn ?_
    exact ta_run (K := K) (st := [t]) TJ.joinT ⟨sr.trans sw, two, ⟨[], sw _ _ upd_same, fun x => by simp [tabsAll], by show 0 + (nt t + 0) ≤ nt t; omega⟩, ⟨[v], upd_same, .cons (TrAt.keep (KeepN.of (sr.trans sw)) C) .nil⟩, fun q m => (List.mem_singleton.mp m) ▸ ⟨tm, dp⟩⟩ hr0
      (by rw [upd_ne two.symm] at hw; exact hw) b1 fun H' l s1 h1 m1 l1 => k r H' l s1 hr0 h1 m1 l1
theorem scWayof : FnScope ["field", "term", "key", "_", "table", "name"] ["field", "term", "key"] (defScope swayof) := ⟨rfl, rfl, rfl, by decide +kernel, rfl, by decide +kernel, by decide +kernel⟩
theorem ok_wayof {f : Addr} {fd : FuncData} (F : Fun K "way_of" "way_of" swayof f fd) : FnOk P w K mg base CX0 1 f fd ["field", "term", "key"] (spWayOf K) := by
  refine F.ok scWayof (fun vs H Q E h => ?_) (fun cdv A outer s H vs Q E hr h => ?_)
  · obtain ⟨v, vx, t, g, key, x, rfl, _⟩ := h
    rfl
  · obtain ⟨v, vx, t, g, key, x, rfl, ⟨p, rfl, hp⟩, hx, k⟩ := h
    refine ⟨_, (pss_cons (ps_asg (pv 0) (RK.pgTup (K := K) (n := 3) rfl (pgs_cons (pg_name (i := 3) scWayof.nd rfl (Or.inl rfl)) (pgs_cons (pg_name (i := 4) scWayof.nd rfl (Or.inl rfl)) (pgs_cons (pg_name (i := 5) scWayof.nd rfl (Or.inl rfl)) pgs_nil)))))
      (pss_cons (ps_if (pt_cmpR op_eq (pv 5) (pv 2) (nomark _)) (pss_one (ps_ret (pe_tup (pa_cons pe_str (pa_cons (pv 4) (pa_cons (pv 1) pa_nil)))))) pss_nil)
      (pss_one (ps_ret (pe_tup (pa_cons pe_str (pa_cons (pv 4) (pa_cons (pv 5) (pa_cons (pv 1) pa_nil))))))))), ?_⟩
    refine sa1 ?_
    refine ⟨_, rfl, p, _, rfl, hp, rfl, _, _, rfl, gn ⟨_, _, rfl, gn ⟨_, _, rfl, gn ⟨rfl, ?_⟩⟩⟩⟩
    refine sif ⟨_, rfl, _, rfl, rfl, _, rfl, ?_⟩
    by_cases e : g = key
    · rw [show decide (V.str g = V.str key) = true from decide_eq_true (congrArg V.str e)]
      refine iteT ⟨_, rfl, _, rfl, (by show 3 ≤ sizeLine; decide), fun q hq => k _ _ (Same.new hq) ?_⟩
      unfold wayBy
      rw [if_pos e]
      exact ⟨q, vx, rfl, SqT.of upd_same, hx.keep (KeepN.of (Same.new hq))⟩
    · rw [show decide (V.str g = V.str key) = false from decide_eq_false fun z => e (V.str.inj z)]
      refine iteF ⟨_, rfl, _, rfl, _, rfl, (by show 4 ≤ sizeLine; decide), fun q hq => k _ _ (Same.new hq) ?_⟩
      unfold wayBy
      rw [if_neg e]
      exact ⟨q, vx, rfl, SqT.of upd_same, hx.keep (KeepN.of (Same.new hq))⟩
theorem scIsway : FnScope ["one", "other", "table", "ahead", "fields", "tables", "name"] ["one", "other", "table", "ahead", "fields"] (defScope sisway) := ⟨rfl, rfl, rfl, by decide +kernel, rfl, by decide +kernel, by decide +kernel⟩
theorem isWay_no {tb : Str} {early fields : List Str} {t1 t2 : Tr} (h : isOfT tb t1 = false) : isWay tb early fields t1 t2 = false := by
  cases t1 with
  | field t f =>
    have h : decide (t = tb) = false := h
    exact decide_eq_false fun z => of_decide_eq_false h z.1
  | _ => rfl
theorem ok_isway {fj f f1 f2 : Addr} {fd fd1 fd2 : FuncData} (F : Fun K "is_way" "is_way" sisway f fd) (TJ : TxtJ K mg fj) (Cis_of : Cal P w K mg base 1 "is_of" ["term", "table"] (spIsof K) f1 fd1) (Ctables_in : Cal P w K mg base 1 "tables_in" ["term"] (spTabsIn K) f2 fd2) :
    FnOk P w K mg base CX0 2 f fd ["one", "other", "table", "ahead", "fields"] (spIsWay K) := by
  refine F.ok scIsway (fun vs H Q E h => ?_) (fun cdv A outer s H vs Q E hr h => ?_)
  · obtain ⟨v1, v2, t1, t2, tb, pa, pf, early, fields, rfl, _⟩ := h
    rfl
  · obtain ⟨v1, v2, t1, t2, tb, pa, pf, early, fields, rfl, h1, m1, h2, m2, d2, ha, hf, k⟩ := h
    have hr1 : Room 1 _ := hr.mono (by decide)
    refine ⟨_, (pss_cons (ps_if (PW.pt (pw_or (pt_not (pt_val (pe_call Cis_of.G hr1 (by rfl) Cis_of.g Cis_of.kp Cis_of.b .nil pass0 (pa_cons (pv 0) (pa_cons (pv 2) pa_nil))))) (pw_or1 (pt_cmpR (RK.notInQ (K := K)) (pe_ix (RK.ixT (K := K)) (pv 0) pe_int (fun _ _ => rfl)) (pv 4) (by rfl))))) (pss_one (ps_ret pe_bl)) pss_nil)
      (pss_cons (ps_set (i := 5) scIsway.nd rfl (Or.inl rfl) (pe_call Ctables_in.G hr1 (by rfl) Ctables_in.g Ctables_in.kp Ctables_in.b .nil pass0 (pa_cons (pv 1) pa_nil)))
      (pss_one (ps_ret (pe_and (pe_cmpR (RK.neD (K := K) hr.units) (pv 5) (pe_lst pa_nil) (nomark _)) (pe_one (pe_callB (RK.allQ (K := K) rfl) (by rfl) TJ.all (by decide +kernel) (pa_cons (pe_lc (own := [("name", 6)]) rfl scIsway.nd (RK.piL (K := K) (pv 5)) (blkOk_by (N := ["one", "other", "table", "ahead", "fields", "tables", "name"]) (sc := defScope sisway) (by decide +kernel)) (fun _ _ _ _ _ => (pg_name (i := 6) scIsway.nd rfl (Or.inl rfl))) (fun _ _ _ _ _ => pts_nil) (fun _ _ _ _ _ => (pe_cmpR (RK.inQ (K := K)) (pv 6) (pv 3) (by rfl)))) pa_nil)))))))), ?_⟩
    refine ifs ?_
    refine ⟨_, rfl, _, rfl, v1, t1, tb, rfl, h1, m1, _, rfl, ?_⟩
    cases e1 : isOfT tb t1 with
    | false => exact iteT (iteT (by rw [isWay_no e1] at k; exact k H (Same.refl _)))
    | true =>
      obtain ⟨fl, rfl⟩ : ∃ fl, t1 = .field tb fl := by
        cases t1 with
        | field t f => exact ⟨f, by rw [show t = tb from of_decide_eq_true e1]⟩
        | _ => cases e1
      obtain ⟨p, rfl, hp⟩ := h1
      refine iteF ⟨_, rfl, p, _, _, _, rfl, rfl, hp, atI_nat (j := 2) rfl, _, rfl, pf, _, rfl, .inl hf, rfl, flat_strs _, _, rfl, ?_⟩
      rw [inV_str]
      by_cases mf : fl ∈ fields
      · rw [show (if true = true then !decide (fl ∈ fields) else decide (fl ∈ fields)) = false by simp [mf]]
        refine iteF ?_
        dsimp only [tNext]
        refine sa1 ?_
        refine ⟨_, rfl, v2, t2, rfl, h2, m2, d2, fun r H1 l s1 hr0 hl mem few => ?_⟩
        refine gn ?_
        refine ⟨_, rfl, (by show 0 ≤ sizeLine; decide), fun e he => ?_⟩
        have se := Same.new (o := .lst []) he
        have okl : ∀ x ∈ l, PyData.strOk x = true := fun x m => tabs_ok m2 x ((mem x).mp m)
        refine ⟨_, _, .lst (SqL.of (se _ _ hl)) (strs_dp l), .lst (SqL.of upd_same) .nil, strs_shaped okl, rfl, _, rfl, ?_⟩
        rw [eqv_nil, show (l.map PyData.str).isEmpty = l.isEmpty by cases l <;> rfl]
        have s2 := s1.trans se
        cases hle : l.isEmpty with
        | true =>
          have le : l = [] := List.isEmpty_iff.mp hle
          have z : isWay tb early fields (.field tb fl) t2 = false := decide_eq_false fun z => by
            cases ht : tabsIn t2 with
            | nil => exact z.2.2.1 ht
            | cons y ys =>
              have q := (mem y).mpr (by rw [ht]; exact List.mem_cons_self)
              rw [le] at q
              cases q
          rw [z] at k
          exact iteF (k _ s2)
        | false =>
          refine iteT ?_
          have hl2 := se _ _ hl
          have ha2 : SqT K (upd H1 e (.lst [])) pa (early.map V.str) := (KeepN.of s2).t ha
          generalize upd H1 e (.lst []) = H2 at s2 hl2 ha2
          have lm : (l.map V.str).length = l.length := List.length_map ..
          refine ⟨_, rfl, r, rfl, ⟨_, SqL.of hl2⟩, fun D hD => ?_⟩
          refine lc_list (K := K) (a := r) (xs := l.map V.str) (fun j H3 => Same H2 H3 ∧ H3 D = some (.lst (((l.take j).map fun x => decide (x ∈ early)).map V.bl))) ⟨Same.new hD, upd_same⟩ (fun j H3 _ ⟨sm, _⟩ => SqL.of (sm _ _ hl2)) ?_ ?_
          · rintro j x H3 hj ⟨s3, hD3⟩
            have hj1 : j < l.length := by have q := (List.getElem?_eq_some_iff.mp hj).1; omega
            obtain rfl : x = .str l[j] := by rw [List.getElem?_map, List.getElem?_eq_getElem hj1] at hj; exact (Option.some.inj hj).symm
            have tk : l.take (j + 1) = l.take j ++ [l[j]] := by rw [List.take_add_one, List.getElem?_eq_getElem hj1]; rfl
            refine ⟨rfl, ?_⟩
            refine ⟨_, rfl, _, rfl, pa, _, rfl, .inr ((KeepN.of s3).t ha2), rfl, flat_strs _, ?_⟩
            rw [inV_str]
            refine ⟨_, hD3, Nat.lt_of_le_of_lt (show _ ≤ 2 ^ 22 by rw [List.length_map, List.length_map, List.length_take]; omega) (by decide), fun b o h => ?_, ?_⟩
            · rw [upd_ne (ne_of_none h hD)]
              exact s3 _ _ h
            · rw [upd_same, tk, List.map_append, List.map_append]
              rfl
          · rintro H3 ⟨s3, hD3⟩
            rw [lm, List.take_length] at hD3
            refine ⟨D, _, rfl, SqL.of hD3, ?_⟩
            have e2 : (l.map fun x => decide (x ∈ early)).all id = isWay tb early fields (.field tb fl) t2 := by
              rw [Bool.eq_iff_iff, List.all_eq_true]
              constructor
              · intro h
                refine decide_eq_true ⟨rfl, mf, fun z => ?_, fun x m => ?_⟩
                · cases l with
                  | nil => cases hle
                  | cons y ys =>
                    have q := (mem y).mp List.mem_cons_self
                    rw [z] at q
                    cases q
                · have q := h (decide (x ∈ early)) (List.mem_map_of_mem ((mem x).mpr m))
                  exact of_decide_eq_true q
              · intro h b m
                have h := of_decide_eq_true (show decide _ = true from h)
                obtain ⟨x, mx, rfl⟩ := List.mem_map.mp m
                exact decide_eq_true (h.2.2.2 x ((mem x).mp mx))
            rw [e2]
            exact k _ (s2.trans s3)
      · rw [show (if true = true then !decide (fl ∈ fields) else decide (fl ∈ fields)) = true by simp [mf]]
        refine iteT ?_
        have z : isWay tb early fields (.field tb fl) t2 = false := decide_eq_false fun z => mf z.2.1
        rw [z] at k
        exact k H (Same.refl _)
end
end K06

set_option Elab.async false
set_option maxRecDepth 100000
set_option maxHeartbeats 1000000
namespace K06
open PySem L2
/-! ### all ways to a table -/
def IxAt (K : PySem.W.Frag) (H : Hp) (l : Addr) (il : List (Str × Str)) : Prop := ∃ vs, (SqT K H l vs ∨ H l = some (.lst vs)) ∧ Paired (FlR K H) vs il ∧ FlOk il
theorem IxAt.same {K : PySem.W.Frag} {H H' : Hp} (s : Same H H') {l : Addr} {il : List (Str × Str)} (h : IxAt K H l il) : IxAt K H' l il := by
  obtain ⟨vs, hl, p, ok⟩ := h
  exact ⟨vs, hl.imp (fun q => (KeepN.of s).t q) (fun q => s _ _ q), fl_mono (fun _ _ q => (KeepN.of s).t q) p, ok⟩
def spWaysOf (K : PySem.W.Frag) : Sp := fun vs H Q _ => ∃ (tb : Str) (pa d il : Addr) (cv : V) (c : Option Tr) (early : List Str) (sh : List (Str × List Str)) (ix : List (Str × Str)), vs = [.str tb, .ref pa, cv, .ref d, .ref il] ∧ CondAt K H cv c ∧ CdO c ∧ CdT (partsO c) ∧ depO c < 16 ∧ (partsO c).length ≤ 35 ∧
  SqT K H pa (early.map V.str) ∧ ShapesAt K H d sh ∧ IsShapes sh ∧ tb ∈ sh.map (·.1) ∧ IxAt K H il ix ∧ (∀ q ∈ ix, q.1 ∈ sh.map (·.1) → InSh sh q) ∧ ∀ (r : Addr) (H' : Hp) (us : List V), Same H H' → H r = none → H' r = some (.lst us) → Paired (WayAt K H') us (waysF sh (partsO c) ix tb early) → Q (.ref r) H'
section
variable {P : Program} {w : World} {K : PySem.W.Frag} {mg : Str → Option Value} {base : Heap}
theorem tabs_str : True := trivial
/-- the fields that have an index -/
theorem te_idx {tb main : Str} {pa d il ds : Addr} {cv : V} {x7 x8 x9 x10 x11 x12 x13 x14 : Option V} {H : Hp} {Q : VK} {fs rest : List Str} {t : Addr} {ix : List (Str × Str)} (ef : fs = main :: rest) (dg : DGet H d (V.str tb) (some (.ref t))) (ht : SqT K H t (fs.map V.str)) (l4 : fs.length ≤ 4)
    (Ix : IxAt K H il ix) (st : PyData.strOk tb = true) (okf : ∀ f ∈ fs, PyData.strOk f = true)
    (k : ∀ (D : Addr) (H' : Hp), Same H H' → H D = none → H' D = some (.lst ((rest.filter fun f => decide ((tb, f) ∈ ix)).map V.str)) → Q (.ref D) H') :
    tLc (iTup K (tSl (rSlA K) (tDGet (tVar 3) (tVar 0)) (tPart (tC (V.int 1))) tNoPart)) (gName 8) (tTest (tOp (SX.rInDB K) (tTup (tCons (tVar 0) (tCons (tVar 8) tNil))) (tVar 4))) (tVar 8) (List.map (fun x => x.snd) [(Str.ofString "field", 8)])
      [some (.str tb), some (.ref pa), some cv, some (.ref d), some (.ref il), some (.ref ds), some (.str main), x7, x8, x9, x10, x11, x12, x13, x14] H Q := by
  have lr3 : rest.length ≤ 3 := by rw [ef, List.length_cons] at l4; omega
  have ec : cutV (fs.map V.str) (some 1) none = rest.map V.str := by
    subst ef
    match rest, lr3 with
    | [], _ => rfl
    | [_], _ => rfl
    | [_, _], _ => rfl
    | [_, _, _], _ => rfl
    | _ :: _ :: _ :: _ :: _, h => exact absurd h (by simp only [List.length_cons]; omega)
  refine ⟨_, rfl, _, rfl, d, _, rfl, dg, _, rfl, t, _, rfl, ht, fun hw => ?_, fun hw u hu => ?_⟩
  · exfalso
    have h1 := hw.1
    rw [show (some (1 : Int)) = some ((1 : Nat) : Int) from rfl, HT.sIx_nat, List.length_map, ef, List.length_cons] at h1
    omega
  rw [ec]
  have su := Same.new (o := .tup (rest.map V.str)) hu
  have lrm : (rest.map V.str).length = rest.length := List.length_map ..
  refine ⟨u, rfl, ⟨_, SqT.of upd_same⟩, fun D hD => ?_⟩
  have hDH : H D = none := su.free hD
  have Ix2 := Ix.same su
  generalize hH2 : upd H u (.tup (rest.map V.str)) = H2 at su hD Ix2
  have hu2 : SqT K H2 u (rest.map V.str) := by rw [← hH2]; exact SqT.of upd_same
  refine lc_tup (K := K) (a := u) (xs := rest.map V.str) (fun j H3 => Same H2 H3 ∧ H3 D = some (.lst (((rest.take j).filter fun f => decide ((tb, f) ∈ ix)).map V.str))) ⟨Same.new hD, upd_same⟩ (fun j H3 _ ⟨sm, _⟩ => (KeepN.of sm).t hu2) ?_ ?_
  · rintro j x H3 hj ⟨s3, hD3⟩
    have hj1 : j < rest.length := by have q := (List.getElem?_eq_some_iff.mp hj).1; omega
    obtain rfl : x = .str rest[j] := by rw [List.getElem?_map, List.getElem?_eq_getElem hj1] at hj; exact (Option.some.inj hj).symm
    have tk : rest.take (j + 1) = rest.take j ++ [rest[j]] := by rw [List.take_add_one, List.getElem?_eq_getElem hj1]; rfl
    have sf : PyData.strOk rest[j] = true := okf _ (by rw [ef]; exact List.mem_cons_of_mem _ (List.getElem_mem hj1))
    refine ⟨rfl, _, rfl, _, rfl, (by show 2 ≤ sizeLine; decide), fun p hp => ⟨_, rfl, ?_⟩⟩
    have s4 := Same.new (o := .tup [.str tb, .str rest[j]]) hp
    obtain ⟨vs, hl, pr, ok⟩ := Ix2.same (s3.trans s4)
    have dpy : Dp K (upd H3 p (.tup [.str tb, .str rest[j]])) (.ref il) (.list (ix.map flD)) ∨ Dp K (upd H3 p (.tup [.str tb, .str rest[j]])) (.ref il) (.tuple (ix.map flD)) := by
      rcases hl with hl | hl
      · exact .inr (.tup hl (fl_dp pr))
      · exact .inl (.lst (SqL.of hl) (fl_dp pr))
    refine ⟨_, _, .tup (SqT.of upd_same) (.cons (.str _) (.cons (.str _) .nil)), dpy, shaped_pair st (by simp [PyData.canLay0, sf]) (by simp [PyData.depth]), fl_shaped ok, _, rfl, ?_⟩
    rw [any_fl]
    have hD4 := s4 _ _ hD3
    by_cases mem : (tb, rest[j]) ∈ ix
    · rw [decide_eq_true mem]
      refine iteT ⟨_, rfl, _, hD4, ?_, fun b o h => ?_, ?_⟩
      · refine Nat.lt_of_le_of_lt (show _ ≤ 3 from ?_) (by decide)
        rw [List.length_map]
        refine Nat.le_trans (List.length_filter_le _ _) ?_
        rw [List.length_take]
        omega
      · rw [upd_ne (ne_of_none h hD)]
        exact s4 _ _ (s3 _ _ h)
      · rw [upd_same, tk, List.filter_append, List.filter_cons, if_pos (by simpa using mem), List.map_append]
        rfl
    · rw [decide_eq_false mem]
      refine iteF ⟨s3.trans s4, ?_⟩
      rw [hD4, tk, List.filter_append, List.filter_cons, if_neg (by simpa using mem)]
      simp
  · rintro H3 ⟨s3, hD3⟩
    rw [lrm, List.take_length] at hD3
    exact k D H3 (su.trans s3) hDH hD3
def byW (bs : List (Str × Span)) (tb f : Str) : Option Way := (bs.lookup f).map fun s => .by tb f s.1 s.2
/-- ways by indexes -/
theorem te_bys {tb main : Str} {pa d il ds li : Addr} {cv : V} {x8 x9 x10 x11 x12 x13 x14 : Option V} {H : Hp} {Q : VK} {fl : List Str} {bs : List (Str × Span)} (hli : H li = some (.lst (fl.map V.str))) (l4 : fl.length ≤ 4) (BD : BndAt K H ds bs)
    (k : ∀ (D : Addr) (H' : Hp) (us : List V), Same H H' → H D = none → H' D = some (.lst us) → Paired (WayAt K H') us (fl.filterMap (byW bs tb)) → us.length ≤ 4 → Q (.ref D) H') :
    tLc (iList K (tVar 7)) (gName 8) (tB (tDIn (tVar 8) (tVar 5))) (tTup (tCons (tC (V.str (Str.ofString "by"))) (tCons (tVar 0) (tCons (tVar 8) (tCons (tOp (rIxT K) (tDGet (tVar 5) (tVar 8)) (tC (V.int 0))) (tCons (tOp (rIxT K) (tDGet (tVar 5) (tVar 8)) (tC (V.int 1))) tNil)))))) (List.map (fun x => x.snd) [(Str.ofString "field", 8)])
      [some (.str tb), some (.ref pa), some cv, some (.ref d), some (.ref il), some (.ref ds), some (.str main), some (.ref li), x8, x9, x10, x11, x12, x13, x14] H Q := by
  refine ⟨_, rfl, li, rfl, ⟨_, SqL.of hli⟩, fun D hD => ?_⟩
  have lm : (fl.map V.str).length = fl.length := List.length_map ..
  refine lc_list (K := K) (a := li) (xs := fl.map V.str) (fun j H3 => Same H H3 ∧ ∃ us, H3 D = some (.lst us) ∧ Paired (WayAt K H3) us ((fl.take j).filterMap (byW bs tb)) ∧ us.length ≤ j) ⟨Same.new hD, [], upd_same, .nil, Nat.le_refl _⟩ (fun j H3 _ ⟨sm, _⟩ => SqL.of (sm _ _ hli)) ?_ ?_
  · rintro j x H3 hj ⟨s3, us, hD3, pu, lu⟩
    have hj1 : j < fl.length := by have q := (List.getElem?_eq_some_iff.mp hj).1; omega
    obtain rfl : x = .str fl[j] := by rw [List.getElem?_map, List.getElem?_eq_getElem hj1] at hj; exact (Option.some.inj hj).symm
    have tk : fl.take (j + 1) = fl.take j ++ [fl[j]] := by rw [List.take_add_one, List.getElem?_eq_getElem hj1]; rfl
    obtain ⟨kvs, hd, pr⟩ := BD.keep (KeepN.of s3)
    refine ⟨rfl, ?_⟩
    refine ⟨_, rfl, _, rfl, ds, valV kvs (.inr fl[j]), rfl, DGet.k (k := .inr fl[j]) hd, _, rfl, ?_⟩
    rcases pr_look fl[j] pr with ⟨e1, e2⟩ | ⟨sp, v, e1, e2, t, rfl, ht⟩
    · rw [e2]
      refine iteF ⟨s3, us, hD3, ?_, by omega⟩
      rw [tk, List.filterMap_append, List.filterMap_cons_none (by unfold byW; rw [e1]; rfl)]
      simpa using pu
    · rw [e2]
      have dg : DGet H3 ds (V.str fl[j]) (some (.ref t)) := .inl ⟨kvs, .inr fl[j], .inl hd, rfl, e2.symm⟩
      refine iteT ⟨_, rfl, _, rfl, _, rfl, _, rfl, ds, _, rfl, dg, t, _, _, _, rfl, rfl, ht, atI_nat (j := 0) rfl, _, rfl, _, rfl, ds, _, rfl, dg, t, _, _, _, rfl, rfl, ht, atI_nat (j := 1) rfl, (by show 5 ≤ sizeLine; decide), fun q hq => ?_⟩
      have s4 := Same.new (o := .tup [.str (Str.ofString "by"), .str tb, .str fl[j], oV sp.1, oV sp.2]) hq
      have hD4 := s4 _ _ hD3
      refine ⟨_, hD4, Nat.lt_of_le_of_lt (show us.length ≤ 4 by omega) (by decide), fun b o h => ?_, _, upd_same, ?_, by rw [List.length_append]; show us.length + 1 ≤ j + 1; omega⟩
      · rw [upd_ne (ne_of_none h hD)]
        exact s4 _ _ (s3 _ _ h)
      · rw [tk, List.filterMap_append, List.filterMap_cons_some (show byW bs tb fl[j] = some (.by tb fl[j] sp.1 sp.2) by unfold byW; rw [e1]; rfl)]
        have kn := (KeepN.of s4).trans (KeepN.lst (ys := us ++ [.ref q]) hD4)
        exact pair_app (ways_mono (fun _ _ z => kn.t z) pu) (.cons ⟨q, rfl, (KeepN.lst hD4).t (SqT.of upd_same)⟩ .nil)
  · rintro H3 ⟨s3, us, hD3, pu, lu⟩
    rw [lm, List.take_length] at pu
    exact k D H3 us s3 hD hD3 pu (by omega)
theorem wayOf_is {il : List (Str × Str)} {k t : Str} {early rest : List Str} (hm : ∀ f, (t, f) ∈ il → f = k ∨ f ∈ rest) (l r : Tr) :
    (isWay t early (k :: rest.filter fun f => decide ((t, f) ∈ il)) l r = true → ∃ f, l = .field t f ∧ wayOf il k t early l r = some (wayBy t f k r)) ∧ (isWay t early (k :: rest.filter fun f => decide ((t, f) ∈ il)) l r = false → wayOf il k t early l r = none) := by
  cases l with
  | field t' f =>
    have ew : wayOf il k t early (.field t' f) r = if t' = t ∧ tabsIn r ≠ [] ∧ (∀ x ∈ tabsIn r, x ∈ early) then (if f = k then some (.keyof t r) else if (t, f) ∈ il then some (.byof t f r) else none) else none := rfl
    constructor
    · intro h
      have h := of_decide_eq_true (show decide _ = true from h)
      obtain ⟨e, hf, h2, h3⟩ := h
      subst e
      refine ⟨f, rfl, ?_⟩
      rw [ew, if_pos ⟨rfl, h2, h3⟩]
      unfold wayBy
      by_cases c : f = k
      · rw [if_pos c, if_pos c]
      · rcases List.mem_cons.mp hf with z | z
        · exact absurd z c
        · have z2 := of_decide_eq_true (List.mem_filter.mp z).2
          rw [if_neg c, if_neg c, if_pos z2]
    · intro h
      have h := of_decide_eq_false (show decide _ = false from h)
      rw [ew]
      by_cases c : t' = t ∧ tabsIn r ≠ [] ∧ (∀ x ∈ tabsIn r, x ∈ early)
      · rw [if_pos c]
        have nf : f ∉ k :: rest.filter fun f => decide ((t, f) ∈ il) := fun z => h ⟨c.1, z, c.2⟩
        have n1 : ¬ f = k := fun z => nf (List.mem_cons.mpr (.inl z))
        have n2 : ¬ (t, f) ∈ il := fun z => by
          rcases hm f z with y | y
          · exact n1 y
          · exact nf (List.mem_cons.mpr (.inr (List.mem_filter.mpr ⟨y, decide_eq_true z⟩)))
        rw [if_neg n1, if_neg n2]
      · rw [if_neg c]
  | num n => exact ⟨fun h => (by cases h), fun _ => rfl⟩
  | bin o a b => exact ⟨fun h => (by cases h), fun _ => rfl⟩
  | not x => exact ⟨fun h => (by cases h), fun _ => rfl⟩
/-- is one side a way to the table -/
theorem dir_run {σ : L2.St} {H : Hp} {Qb : Bool → Hp → Prop} {i j : Nat} {v1 v2 : V} {t1 t2 : Tr} {op tb main : Str} {pa li : Addr} {early fl : List Str} (h12 : σ[12]? = some (some (.str op))) (hi : σ[i]? = some (some v1)) (hj : σ[j]? = some (some v2)) (h0 : σ[0]? = some (some (.str tb))) (h1 : σ[1]? = some (some (.ref pa))) (h6 : σ[6]? = some (some (.str main))) (h7 : σ[7]? = some (some (.ref li)))
    (a1 : TrAt K H v1 t1) (m1 : Tm t1) (a2 : TrAt K H v2 t2) (m2 : Tm t2) (d2 : t2.depth ≤ 21) (ha : SqT K H pa (early.map V.str)) (hli : H li = some (.lst (fl.map V.str))) (l4 : fl.length ≤ 4) (k : ∀ H', Same H H' → Qb (decide (op = gEq) && isWay tb early (main :: fl) t1 t2) H') :
    tAnd (tTest (tOp rEq (tVar 12) (tC (V.str (Str.ofString "="))))) (tB (tCall (spIsWay K) [] E0 (tCons (tVar i) (tCons (tVar j) (tCons (tVar 0) (tCons (tVar 1) (tCons (tLst (tCons (tVar 6) (StX.tStar K (tVar 7) tNil))) tNil))))))) σ H Qb := by
  refine ⟨_, h12, rfl, _, rfl, ?_⟩
  by_cases e : op = gEq
  · rw [show decide (V.str op = V.str (Str.ofString "=")) = true from decide_eq_true (congrArg V.str e)]
    rw [decide_eq_true e] at k
    refine iteT ⟨_, hi, _, hj, _, h0, _, h1, _, h6, _, h7, li, _, rfl, .inr (SqL.of hli), ?_, fun q hq => ?_⟩
    · show ([V.str main] ++ (fl.map V.str ++ [])).length ≤ sizeLine
      refine Nat.le_trans (show _ ≤ 5 from ?_) (by decide)
      rw [List.length_append, List.length_append, List.length_map]
      show 1 + (fl.length + 0) ≤ 5
      omega
    · have s := Same.new (o := .lst (V.str main :: (fl.map V.str ++ []))) hq
      refine ⟨v1, v2, t1, t2, tb, pa, q, early, main :: fl, rfl, TrAt.keep (KeepN.of s) a1, m1, TrAt.keep (KeepN.of s) a2, m2, d2, (KeepN.of s).t ha, SqL.of (by rw [List.append_nil]; exact upd_same), fun H' s2 => ⟨_, rfl, ?_⟩⟩
      exact k H' (s.trans s2)
  · rw [show decide (V.str op = V.str (Str.ofString "=")) = false from decide_eq_false fun z => e (V.str.inj z)]
    rw [decide_eq_false e] at k
    exact iteF (k H (Same.refl _))
/-- the way is one more -/
theorem wapp_run {σ : L2.St} {H : Hp} {D : Ends} {i j : Nat} {v1 v2 : V} {t f main : Str} {x : Tr} {r : Addr} {us : List V} (h9 : σ[9]? = some (some (.ref r))) (hi : σ[i]? = some (some v1)) (hj : σ[j]? = some (some v2)) (h6 : σ[6]? = some (some (.str main))) (a1 : TrAt K H v1 (.field t f)) (a2 : TrAt K H v2 x)
    (hr : H r = some (.lst us)) (few : us.length ≤ 1000) (k : ∀ v H', KB r H H' → H' r = some (.lst (us ++ [v])) → WayAt K H' v (wayBy t f main x) → D.nx σ H') :
    tDrop (tBM K "list" rAppend (tVar 9) (tCons (tCall (spWayOf K) [] E0 (tCons (tVar i) (tCons (tVar j) (tCons (tVar 6) tNil)))) tNil)) D σ H :=
  ⟨_, h9, .inl ⟨rfl, _, SqL.of hr⟩, _, hi, _, hj, _, h6, v1, v2, t, f, main, x, rfl, a1, a2, fun v H' s hw => ⟨r, us, v, rfl, rfl, s _ _ hr, Nat.lt_of_le_of_lt few (by decide), k v _ (fun b o n e => by rw [upd_ne n]; exact s _ _ e) upd_same (hw.mono fun _ _ q => (KeepN.lst (s _ _ hr)).t q)⟩⟩
def tMW (K : PySem.W.Frag) : TS :=
  tSeq (tFor (iList K (tCall (spMusts K) [] E0 (tCons (tVar 2) tNil)))
      (gTup K 3 (gCons (gName 12) (gCons (gName 13) (gCons (gName 14) gNil))))
      (tIfS (tAnd (tTest (tOp rEq (tVar 12) (tC (V.str (Str.ofString "="))))) (tB (tCall (spIsWay K) [] E0 (tCons (tVar 13) (tCons (tVar 14) (tCons (tVar 0) (tCons (tVar 1) (tCons (tLst (tCons (tVar 6) (StX.tStar K (tVar 7) tNil))) tNil))))))))
        (tDrop (tBM K "list" rAppend (tVar 9) (tCons (tCall (spWayOf K) [] E0 (tCons (tVar 13) (tCons (tVar 14) (tCons (tVar 6) tNil)))) tNil)))
        (tIfS (tAnd (tTest (tOp rEq (tVar 12) (tC (V.str (Str.ofString "="))))) (tB (tCall (spIsWay K) [] E0 (tCons (tVar 14) (tCons (tVar 13) (tCons (tVar 0) (tCons (tVar 1) (tCons (tLst (tCons (tVar 6) (StX.tStar K (tVar 7) tNil))) tNil))))))))
          (tDrop (tBM K "list" rAppend (tVar 9) (tCons (tCall (spWayOf K) [] E0 (tCons (tVar 14) (tCons (tVar 13) (tCons (tVar 6) tNil)))) tNil)))
          tNext)))
    (tRet (tVar 9))
theorem mw_run {tb main : Str} {pa d il ds li r0 : Addr} {cv : V} {c : Option Tr} {x8 x10 x11 x12 x13 x14 : Option V} {H : Hp} {D : Ends} {rest early : List Str} {ix : List (Str × Str)} {us : List V} {ws : List Way} (C : CondAt K H cv c) (cd : CdO c) (ct : CdT (partsO c)) (dc : depO c < 16) (lp : (partsO c).length ≤ 35)
    (ha : SqT K H pa (early.map V.str)) (hm : ∀ f, (tb, f) ∈ ix → f = main ∨ f ∈ rest) (hli : H li = some (.lst ((rest.filter fun f => decide ((tb, f) ∈ ix)).map V.str))) (l4 : rest.length ≤ 4) (nli : li ≠ r0) (hr : H r0 = some (.lst us)) (few : us.length ≤ 10) (pu : Paired (WayAt K H) us ws)
    (k : ∀ (H' : Hp) (us' : List V), KB r0 H H' → H' r0 = some (.lst us') → Paired (WayAt K H') us' (ws ++ (partsO c).filterMap (eqWay ix main tb early)) → D.rt (.ref r0) H') :
    tMW K D [some (.str tb), some (.ref pa), some cv, some (.ref d), some (.ref il), some (.ref ds), some (.str main), some (.ref li), x8, some (.ref r0), x10, x11, x12, x13, x14] H := by
  refine ⟨_, rfl, cv, c, rfl, C, cd, dc, fun pl H1 vs s1 pl0 hpl pp => ?_⟩
  have hr1 := s1 _ _ hr
  have npl : pl ≠ r0 := fun e => by rw [e, hr] at pl0; cases pl0
  have lf : (rest.filter fun f => decide ((tb, f) ∈ ix)).length ≤ 4 := Nat.le_trans (List.length_filter_le _ _) l4
  refine ⟨pl, rfl, ⟨_, SqL.of hpl⟩, for_list (K := K) (a := pl) (xs := vs) (fun i σ H' => ∃ (x12 x13 x14 : Option V) (us : List V), σ = [some (.str tb), some (.ref pa), some cv, some (.ref d), some (.ref il), some (.ref ds), some (.str main), some (.ref li), x8, some (.ref r0), x10, x11, x12, x13, x14] ∧ KB r0 H1 H' ∧ H' r0 = some (.lst us) ∧ us.length ≤ 10 + i ∧
      Paired (WayAt K H') us (ws ++ ((partsO c).take i).filterMap (eqWay ix main tb early)))
    ⟨_, _, _, us, rfl, fun _ _ _ e => e, hr1, by omega, by simpa using ways_mono (fun _ _ q => (KeepN.of s1).t q) pu⟩ (fun i σ H' _ ⟨_, _, _, _, _, kb, _⟩ => SqL.of (kb pl _ npl hpl)) ?_ ?_⟩
  · rintro i v σ H2 hi ⟨x12, x13, x14, us2, rfl, kb, hr2, lu, pu2⟩
    obtain ⟨part, hpart, hT⟩ := pw_at pp hi
    have kn := kb.n hr1
    have knH : KeepN H H2 := (KeepN.of s1).trans kn
    have li' : i < (partsO c).length := (List.getElem?_eq_some_iff.mp hpart).1
    obtain ⟨op, l, r', rfl, hop, tl, tr, dl, dr⟩ := ct part (List.mem_of_getElem? hpart)
    obtain ⟨p, x, y, rfl, hp, hx, hy⟩ := TrAt.keep kn hT
    have tk : (partsO c).take (i + 1) = (partsO c).take i ++ [.bin op l r'] := by rw [List.take_add_one, hpart]; rfl
    have hli2 : H2 li = some (.lst ((rest.filter fun f => decide ((tb, f) ∈ ix)).map V.str)) := kb _ _ nli (s1 _ _ hli)
    refine ⟨p, _, rfl, hp, rfl, _, _, rfl, gn ⟨_, _, rfl, gn ⟨_, _, rfl, gn ⟨rfl, ?_⟩⟩⟩⟩
    have next : ∀ (H' : Hp) (us' : List V), KB r0 H2 H' → H' r0 = some (.lst (us2 ++ us')) → us'.length ≤ 1 → Paired (WayAt K H') us' (eqWay ix main tb early (.bin op l r')).toList →
        ∃ (x12' x13' x14' : Option V) (us3 : List V), [some (.str tb), some (.ref pa), some cv, some (.ref d), some (.ref il), some (.ref ds), some (.str main), some (.ref li), x8, some (V.ref r0), x10, x11, some (.str op), some x, some y] = [some (.str tb), some (.ref pa), some cv, some (.ref d), some (.ref il), some (.ref ds), some (.str main), some (.ref li), x8, some (.ref r0), x10, x11, x12', x13', x14'] ∧ KB r0 H1 H' ∧ H' r0 = some (.lst us3) ∧ us3.length ≤ 10 + (i + 1) ∧
          Paired (WayAt K H') us3 (ws ++ ((partsO c).take (i + 1)).filterMap (eqWay ix main tb early)) := fun H' us' kb2 hr3 l1 p3 => by
      refine ⟨_, _, _, us2 ++ us', rfl, kb.trans kb2, hr3, by rw [List.length_append]; omega, ?_⟩
      rw [tk, List.filterMap_append, ← List.append_assoc]
      refine pair_app (ways_mono (fun _ _ q => (kb2.n hr2).t q) pu2) ?_
      cases e : eqWay ix main tb early (.bin op l r') with
      | none => rw [e] at p3; rw [List.filterMap_cons_none e]; exact p3
      | some w' => rw [e] at p3; rw [List.filterMap_cons_some e]; exact p3
    have eq : eqWay ix main tb early (.bin op l r') = if op = gEq then (match wayOf ix main tb early l r' with | some w => some w | none => wayOf ix main tb early r' l) else none := rfl
    have hvs : vs.length = (partsO c).length := Paired.length pp
    refine ifs (dir_run (K := K) (i := 13) (j := 14) rfl rfl rfl rfl rfl rfl rfl hx tl hy tr (by omega) (knH.t ha) hli2 lf fun H3 s3 => ?_)
    cases e1 : decide (op = gEq) && isWay tb early (main :: rest.filter fun f => decide ((tb, f) ∈ ix)) l r' with
    | true =>
      rw [Bool.and_eq_true] at e1
      obtain ⟨f, rfl, ew⟩ := (wayOf_is hm l r').1 e1.2
      refine iteT (wapp_run (K := K) rfl rfl rfl rfl (TrAt.keep (KeepN.of s3) hx) (TrAt.keep (KeepN.of s3) hy) (s3 _ _ hr2) (by omega) fun v H4 kb4 hr4 hv => ?_)
      refine next H4 [v] ((KB.same s3).trans kb4) hr4 (Nat.le_refl _) ?_
      rw [eq, if_pos (of_decide_eq_true e1.1), ew]
      exact .cons hv .nil
    | false =>
      refine iteF (ifs (dir_run (K := K) (i := 14) (j := 13) rfl rfl rfl rfl rfl rfl rfl (TrAt.keep (KeepN.of s3) hy) tr (TrAt.keep (KeepN.of s3) hx) tl (by omega) ((KeepN.of s3).t (knH.t ha)) (s3 _ _ hli2) lf fun H4 s4 => ?_))
      have s34 := s3.trans s4
      cases e2 : decide (op = gEq) && isWay tb early (main :: rest.filter fun f => decide ((tb, f) ∈ ix)) r' l with
      | true =>
        rw [Bool.and_eq_true] at e2
        obtain ⟨f, rfl, ew⟩ := (wayOf_is hm r' l).1 e2.2
        refine iteT (wapp_run (K := K) rfl rfl rfl rfl (TrAt.keep (KeepN.of s34) hy) (TrAt.keep (KeepN.of s34) hx) (s34 _ _ hr2) (by omega) fun v H5 kb5 hr5 hv => ?_)
        refine next H5 [v] ((KB.same s34).trans kb5) hr5 (Nat.le_refl _) ?_
        rw [e2.1, Bool.true_and] at e1
        rw [eq, if_pos (of_decide_eq_true e2.1), (wayOf_is hm l _).2 e1, ew]
        exact .cons hv .nil
      | false =>
        refine iteF (next H4 [] (KB.same s34) (by rw [List.append_nil]; exact s34 _ _ hr2) (Nat.zero_le _) ?_)
        rw [eq]
        by_cases eo : op = gEq
        · rw [decide_eq_true eo, Bool.true_and] at e1 e2
          rw [if_pos eo, (wayOf_is hm l r').2 e1, (wayOf_is hm r' l).2 e2]
          exact .nil
        · rw [if_neg eo]
          exact .nil
  · rintro σ H2 ⟨x12, x13, x14, us2, rfl, kb, hr2, lu, pu2⟩
    refine ⟨_, rfl, ?_⟩
    rw [Paired.length pp, List.take_length] at pu2
    exact k H2 us2 ((KB.same s1).trans kb) hr2 pu2
theorem bys_ways {ps : List Tr} {ix : List (Str × Str)} {tb : Str} {bs : List (Str × Span)} (look : ∀ f, bs.lookup f = specF tb ps f) : ∀ rest : List Str, (rest.filter fun f => decide ((tb, f) ∈ ix)).filterMap (byW bs tb) = rest.filterMap (byWay ps ix tb)
  | [] => rfl
  | f :: r => by
    have ih := bys_ways (ps := ps) (ix := ix) look r
    by_cases m : (tb, f) ∈ ix
    · rw [List.filter_cons, if_pos (by simpa using m)]
      have e : byW bs tb f = byWay ps ix tb f := by
        unfold byW byWay
        rw [look f]
        cases specF tb ps f with
        | none => rfl
        | some s => show some _ = if (tb, f) ∈ ix then _ else _; rw [if_pos m]
      cases h : byWay ps ix tb f with
      | none => rw [List.filterMap_cons_none h, List.filterMap_cons_none (e.trans h), ih]
      | some w => rw [List.filterMap_cons_some h, List.filterMap_cons_some (e.trans h), ih]
    · rw [List.filter_cons, if_neg (by simpa using m)]
      have e : byWay ps ix tb f = none := by
        unfold byWay
        cases specF tb ps f with
        | none => rfl
        | some s => show (if (tb, f) ∈ ix then _ else _) = _; rw [if_neg m]
      rw [List.filterMap_cons_none e, ih]
theorem scWaysof : FnScope ["table", "ahead", "cond", "shapes", "indexes", "told", "key", "indexed", "field", "ways", "least", "greatest", "sign", "left", "right"] ["table", "ahead", "cond", "shapes", "indexes"] (defScope swaysof) := ⟨rfl, rfl, rfl, by decide +kernel, rfl, by decide +kernel, by decide +kernel⟩
theorem ok_waysof {fj f f1 f2 f3 f4 : Addr} {fd fd1 fd2 fd3 fd4 : FuncData} (F : Fun K "ways_of" "ways_of" swaysof f fd) (Cbounds : Cal P w K mg base 3 "bounds" ["cond", "table"] (spBnd K) f1 fd1) (Cmusts : Cal P w K mg base 3 "musts" ["cond"] (spMusts K) f2 fd2)
    (Cis_way : Cal P w K mg base 3 "is_way" ["one", "other", "table", "ahead", "fields"] (spIsWay K) f3 fd3) (Cway_of : Cal P w K mg base 3 "way_of" ["field", "term", "key"] (spWayOf K) f4 fd4) :
    FnOk P w K mg base CX0 4 f fd ["table", "ahead", "cond", "shapes", "indexes"] (spWaysOf K) := by
  refine F.ok scWaysof (fun vs H Q E h => ?_) (fun cdv A outer s H vs Q E hr h => ?_)
  · obtain ⟨tb, pa, d, il, cv, c, early, sh, ix, rfl, _⟩ := h
    rfl
  · obtain ⟨tb, pa, d, il, cv, c, early, sh, ix, rfl, C, cd, ct, dc, lp, ha, S, I, htb, Ix, inx, k⟩ := h
    have hr1 : Room 3 _ := hr.mono (by decide)
    refine ⟨_, (pss_cons (ps_set (i := 5) scWaysof.nd rfl (Or.inr rfl) (pe_call Cbounds.G hr1 (by rfl) Cbounds.g Cbounds.kp Cbounds.b .nil pass0 (pa_cons (pv 2) (pa_cons (pv 0) pa_nil))))
      (pss_cons (ps_if (pt_cmpR op_isN (pv 5) pe_non (nomark _)) (pss_one (ps_ret (pe_lst (pa_cons (pe_tup (pa_cons pe_str (pa_cons (pv 0) pa_nil))) pa_nil)))) pss_nil)
      (pss_cons (ps_set (i := 6) scWaysof.nd rfl (Or.inl rfl) (pe_ix (RK.ixT (K := K)) (pe_dget (hu_of hr) (pv 3) (pv 0) (fun _ _ => rfl)) pe_int (fun _ _ => rfl)))
      (pss_cons (ps_setLc (i := 7) (own := [("field", 8)]) rfl scWaysof.nd rfl rfl (sw_true rfl rfl rfl (by decide +kernel)) (RK.piT (K := K) (pe_slice (RK.slT (K := K)) (pe_dget (hu_of hr) (pv 3) (pv 0) (fun _ _ => rfl)) (po_some pe_int) po_none)) (blkOk_by (N := ["table", "ahead", "cond", "shapes", "indexes", "told", "key", "indexed", "field", "ways", "least", "greatest", "sign", "left", "right"]) (sc := defScope swaysof) (by decide +kernel)) (fun _ _ _ _ _ => (pg_name (i := 8) scWaysof.nd rfl (Or.inl rfl))) (fun _ _ _ _ _ => (pts_one (pt_cmpR (SX.inDB (K := K) (Nat.lt_of_succ_lt (room66 hr))) (pe_tup (pa_cons (pv 0) (pa_cons (pv 8) pa_nil))) (pv 4) (by rfl)))) (fun _ _ _ _ _ => (pv 8)))
      (pss_cons (ps_set (i := 9) scWaysof.nd rfl (Or.inl rfl) (pe_lst (pa_cons (pe_tup (pa_cons pe_str (pa_cons (pv 0) pa_nil))) pa_nil)))
      (pss_cons (ps_if (pt_cmp (pc_din (hu_of hr) (pv 6) (pv 5))) (pss_cons (ps_asg (pe_dget (hu_of hr) (pv 5) (pv 6) (fun _ _ => rfl)) (RK.pgTup (K := K) (n := 2) rfl (pgs_cons (pg_name (i := 10) scWaysof.nd rfl (Or.inl rfl)) (pgs_cons (pg_name (i := 11) scWaysof.nd rfl (Or.inl rfl)) pgs_nil))))
        (pss_one (ps_expr (RK.bm (K := K) PySem.F.plainAttrs_list PySem.F.slot_list_append PySem.F.type_list_append mt_append (pv 9) (pa_cons (pe_tup (pa_cons pe_str (pa_cons (pv 0) (pa_cons (pv 10) (pa_cons (pv 11) pa_nil))))) pa_nil))))) pss_nil)
      (pss_cons (ps_aug (i := 9) scWaysof.nd rfl (Or.inl rfl) (pe_lc (own := [("field", 8)]) rfl scWaysof.nd (RK.piL (K := K) (pv 7)) (blkOk_by (N := ["table", "ahead", "cond", "shapes", "indexes", "told", "key", "indexed", "field", "ways", "least", "greatest", "sign", "left", "right"]) (sc := defScope swaysof) (by decide +kernel)) (fun _ _ _ _ _ => (pg_name (i := 8) scWaysof.nd rfl (Or.inl rfl))) (fun _ _ _ _ _ => (pts_one (pt_cmp (pc_din (hu_of hr) (pv 8) (pv 5))))) (fun _ _ _ _ _ => (pe_tup (pa_cons pe_str (pa_cons (pv 0) (pa_cons (pv 8) (pa_cons (pe_ix (RK.ixT (K := K)) (pe_dget (hu_of hr) (pv 5) (pv 8) (fun _ _ => rfl)) pe_int (fun _ _ => rfl)) (pa_cons (pe_ix (RK.ixT (K := K)) (pe_dget (hu_of hr) (pv 5) (pv 8) (fun _ _ => rfl)) pe_int (fun _ _ => rfl)) pa_nil)))))))) iop_ext)
      (pss_cons (ps_for PassesOwn.never rfl (RK.piL (K := K) (pe_call Cmusts.G hr1 (by rfl) Cmusts.g Cmusts.kp Cmusts.b .nil pass0 (pa_cons (pv 2) pa_nil))) (RK.pgTup (K := K) (n := 3) rfl (pgs_cons (pg_name (i := 12) scWaysof.nd rfl (Or.inl rfl)) (pgs_cons (pg_name (i := 13) scWaysof.nd rfl (Or.inl rfl)) (pgs_cons (pg_name (i := 14) scWaysof.nd rfl (Or.inl rfl)) pgs_nil))))
        (pss_one (ps_if (PW.pt (pw_and (pt_cmpR op_eq (pv 12) pe_str (nomark _)) (pw_and1 (pt_val (pe_call Cis_way.G hr1 (by rfl) Cis_way.g Cis_way.kp Cis_way.b .nil pass0 (pa_cons (pv 13) (pa_cons (pv 14) (pa_cons (pv 0) (pa_cons (pv 1) (pa_cons (pe_lst (pa_cons (pv 6) (SX.star (K := K) (pv 7) pa_nil))) pa_nil)))))))))) (pss_one (ps_expr (RK.bm (K := K) PySem.F.plainAttrs_list PySem.F.slot_list_append PySem.F.type_list_append mt_append (pv 9) (pa_cons (pe_call Cway_of.G hr1 (by rfl) Cway_of.g Cway_of.kp Cway_of.b .nil pass0 (pa_cons (pv 13) (pa_cons (pv 14) (pa_cons (pv 6) pa_nil)))) pa_nil)))) (pss_one (ps_if (PW.pt (pw_and (pt_cmpR op_eq (pv 12) pe_str (nomark _)) (pw_and1 (pt_val (pe_call Cis_way.G hr1 (by rfl) Cis_way.g Cis_way.kp Cis_way.b .nil pass0 (pa_cons (pv 14) (pa_cons (pv 13) (pa_cons (pv 0) (pa_cons (pv 1) (pa_cons (pe_lst (pa_cons (pv 6) (SX.star (K := K) (pv 7) pa_nil))) pa_nil)))))))))) (pss_one (ps_expr (RK.bm (K := K) PySem.F.plainAttrs_list PySem.F.slot_list_append PySem.F.type_list_append mt_append (pv 9) (pa_cons (pe_call Cway_of.G hr1 (by rfl) Cway_of.g Cway_of.kp Cway_of.b .nil pass0 (pa_cons (pv 14) (pa_cons (pv 13) (pa_cons (pv 6) pa_nil)))) pa_nil)))) pss_nil)))))
      (pss_one (ps_ret (pv 9))))))))))), ?_⟩
    obtain ⟨fs, m, lk, m1, m4, efs⟩ := sh_look I htb
    have st := ok_tabs _ (sh_names I htb)
    have okf : ∀ f ∈ fs, PyData.strOk f = true := fun f mf => ok_flds _ (List.mem_of_mem_take (efs ▸ mf))
    have nfs : fs ≠ [] := fun e => by
      have q := congrArg List.length efs
      rw [e, List.length_take] at q
      have q : 0 = min m 4 := q
      omega
    obtain ⟨main, rest, ef⟩ := List.exists_cons_of_ne_nil nfs
    refine sa1 ?_
    refine ⟨_, rfl, _, rfl, cv, c, tb, rfl, C, cd, ct, dc, st, fun bad H1 s1 => ?_, fun nb ds H1 bs s1 ds0 BD nd look => ?_⟩
    · refine gn ?_
      refine sif ⟨_, rfl, rfl, _, rfl, iteT ⟨_, rfl, (by show 2 ≤ sizeLine; decide), fun p hp => ⟨(by show 1 ≤ sizeLine; decide), fun q hq => ?_⟩⟩⟩
      have s2 := Same.new (o := .tup [.str (Str.ofString "none"), .str tb]) hp
      have s3 := Same.new (o := .lst [.ref p]) hq
      have e : waysF sh (partsO c) ix tb early = [.none tb] := by unfold waysF; rw [bad, if_pos rfl]
      exact k q _ [.ref p] (s1.trans (s2.trans s3)) ((s1.trans s2).free hq) upd_same (by rw [e]; exact .cons ⟨p, rfl, SqT.of (s3 _ _ upd_same)⟩ .nil)
    · refine gn ?_
      refine sif ⟨_, rfl, rfl, _, rfl, iteF ?_⟩
      dsimp only [tNext]
      obtain ⟨kvs, hd, pr⟩ := S.keep (KeepN.of s1)
      rcases pr_look tb pr with ⟨e1, _⟩ | ⟨x, v, e1, e2, t, rfl, ht⟩
      · rw [lk] at e1
        cases e1
      obtain rfl : fs = x := by rw [lk] at e1; exact Option.some.inj e1
      have dg : DGet H1 d (V.str tb) (some (.ref t)) := .inl ⟨kvs, .inr tb, .inl hd, rfl, e2.symm⟩
      refine sa1 ⟨_, rfl, _, rfl, d, _, rfl, dg, t, _, 0, .str main, rfl, rfl, ht, atI_of (by decide) (by rw [ef]; rfl), gn ?_⟩
      have l4 : fs.length ≤ 4 := by rw [efs, List.length_take]; show min m 4 ≤ 4; omega
      have lr4 : rest.length ≤ 4 := by rw [ef, List.length_cons] at l4; omega
      have hm : ∀ f, (tb, f) ∈ ix → f = main ∨ f ∈ rest := fun f h => by
        obtain ⟨fs', e', mf⟩ := inx _ h htb
        rw [lk] at e'
        obtain rfl := Option.some.inj e'
        rw [ef] at mf
        exact List.mem_cons.mp mf
      refine sa1 (te_idx (K := K) ef dg ht l4 (Ix.same s1) st okf fun li H2 s2 li0 hli => gn ?_)
      refine sa1 ⟨_, rfl, (by show 2 ≤ sizeLine; decide), fun p hp => ⟨(by show 1 ≤ sizeLine; decide), fun r0 hr0 => gn ?_⟩⟩
      have s3 := Same.new (o := .tup [.str (Str.ofString "all"), .str tb]) hp
      have s4 := Same.new (o := .lst [.ref p]) hr0
      have s24 := s2.trans (s3.trans s4)
      have s04 := s1.trans s24
      have all0 : WayAt K (upd (upd H2 p (.tup [.str (Str.ofString "all"), .str tb])) r0 (.lst [.ref p])) (.ref p) (.all tb) := ⟨p, rfl, SqT.of (s4 _ _ upd_same)⟩
      have rH : H r0 = none := (s1.trans (s2.trans s3)).free hr0
      have BD3 := BndAt.keep (KeepN.of s24) BD
      have nli : li ≠ r0 := fun z => by rw [← z, s3 _ _ hli] at hr0; cases hr0
      have hli3 := s4 _ _ (s3 _ _ hli)
      have hr3 : upd (upd H2 p (.tup [.str (Str.ofString "all"), .str tb])) r0 (.lst [.ref p]) r0 = some (.lst [.ref p]) := upd_same
      generalize upd (upd H2 p (.tup [.str (Str.ofString "all"), .str tb])) r0 (.lst [.ref p]) = H3 at s04 s24 all0 BD3 hli3 hr3 ⊢
      have nr : ∀ b o, H b = some o → b ≠ r0 := fun b o h e => by rw [e, rH] at h; cases h
      have fin : ∀ (x8 x10 x11 : Option V) (H4 : Hp) (us : List V), KB r0 H3 H4 → H4 r0 = some (.lst us) → us.length ≤ 2 → Paired (WayAt K H4) us (.all tb :: keyWay (partsO c) tb fs) →
          tSeq (tAug 9 (tLc (iList K (tVar 7)) (gName 8) (tB (tDIn (tVar 8) (tVar 5))) (tTup (tCons (tC (V.str (Str.ofString "by"))) (tCons (tVar 0) (tCons (tVar 8) (tCons (tOp (rIxT K) (tDGet (tVar 5) (tVar 8)) (tC (V.int 0))) (tCons (tOp (rIxT K) (tDGet (tVar 5) (tVar 8)) (tC (V.int 1))) tNil)))))) (List.map (fun x => x.snd) [(Str.ofString "field", 8)])) rExt2) (tMW K)
            { nx := fun x H' => Q V.non H', rt := Q } [some (.str tb), some (.ref pa), some cv, some (.ref d), some (.ref il), some (.ref ds), some (.str main), some (.ref li), x8, some (.ref r0), x10, x11, none, none, none] H4 := by
        intro x8 x10 x11 H4 us kb4 hr4 lu pu
        have kn4 : KeepN H H4 := (KeepN.of s04).trans (kb4.n hr3)
        have hli4 := kb4 _ _ nli hli3
        refine ⟨_, rfl, te_bys (K := K) (bs := bs) hli4 (Nat.le_trans (List.length_filter_le _ _) lr4) (BD3.keep (kb4.n hr3)) fun D H5 us5 s5 D0 hD p5 l5 => ⟨r0, D, us, us5, rfl, rfl, s5 _ _ hr4, hD, Nat.le_trans (show _ ≤ 6 by omega) (by decide), ?_⟩⟩
        have hr5 := s5 _ _ hr4
        have kb6 : KB r0 H5 (upd H5 r0 (.lst (us ++ us5))) := fun b o n e => by rw [upd_ne n]; exact e
        have kb46 : KB r0 H4 (upd H5 r0 (.lst (us ++ us5))) := (KB.same s5).trans kb6
        have hr6 : upd H5 r0 (.lst (us ++ us5)) r0 = some (.lst (us ++ us5)) := upd_same
        have p6 := ways_mono (fun _ _ q => (kb6.n hr5).t q) p5
        generalize upd H5 r0 (.lst (us ++ us5)) = H6 at kb6 kb46 hr6 p6 ⊢
        have knH6 : KeepN H H6 := kn4.trans (kb46.n hr4)
        refine mw_run (K := K) (us := us ++ us5) (C.keep knH6) cd ct dc lp (knH6.t ha) hm (kb46 _ _ nli hli4) lr4 nli hr6 (by rw [List.length_append]; omega) (pair_app (ways_mono (fun _ _ q => (kb46.n hr4).t q) pu) p6) fun H' us' kb' hr' pu' => ?_
        refine k r0 H' us' (fun b o e => kb' _ _ (nr _ _ e) (kb46 _ _ (nr _ _ e) (kb4 _ _ (nr _ _ e) (s04 _ _ e)))) rH hr' ?_
        have ew : waysF sh (partsO c) ix tb early = .all tb :: (keyWay (partsO c) tb fs ++ (rest.filterMap (byWay (partsO c) ix tb) ++ (partsO c).filterMap (eqWay ix main tb early))) := by
          unfold waysF
          rw [nb, if_neg (by decide), lk, ef]
          rfl
        rw [ew]
        rw [bys_ways look] at pu'
        simpa [List.append_assoc] using pu'
      refine sif ?_
      refine te_has (K := K) rfl rfl BD3 ?_
      rw [look main]
      cases es : specF tb (partsO c) main with
      | none =>
        refine iteF (fin _ _ _ H3 [.ref p] (fun _ _ _ e => e) hr3 (by show 1 ≤ 2; omega) ?_)
        rw [ef]
        show Paired (WayAt K H3) [.ref p] (.all tb :: (match specF tb (partsO c) main with | some s => [Way.key tb s.1 s.2] | none => []))
        rw [es]
        exact .cons all0 .nil
      | some sp =>
        obtain ⟨kvs3, hd3, pr3⟩ := id BD3
        rcases pr_look main pr3 with ⟨e1', _⟩ | ⟨x, v, e1', e2', t3, rfl, ht3⟩
        · rw [look main, es] at e1'; cases e1'
        obtain rfl : sp = x := by rw [look main, es] at e1'; exact Option.some.inj e1'
        have dg3 : DGet H3 ds (V.str main) (some (.ref t3)) := .inl ⟨kvs3, .inr main, .inl hd3, rfl, e2'.symm⟩
        refine iteT ?_
        refine sa1 ⟨_, rfl, _, rfl, ds, _, rfl, dg3, t3, _, rfl, ht3, rfl, _, _, rfl, gn ⟨_, _, rfl, gn ⟨rfl, ?_⟩⟩⟩
        refine ⟨_, rfl, .inl ⟨rfl, _, SqL.of hr3⟩, _, rfl, _, rfl, _, rfl, (by show 4 ≤ sizeLine; decide), fun q hq => ?_⟩
        have s5 := Same.new (o := .tup [.str (Str.ofString "key"), .str tb, oV sp.1, oV sp.2]) hq
        have hr5 := s5 _ _ hr3
        refine ⟨r0, _, _, rfl, rfl, hr5, (by show 1 < sizeLine; decide), ?_⟩
        refine fin _ _ _ _ [.ref p, .ref q] (fun b o n e => by rw [upd_ne n]; exact s5 _ _ e) upd_same (by show 2 ≤ 2; omega) ?_
        rw [ef]
        show Paired (WayAt K _) [.ref p, .ref q] (.all tb :: (match specF tb (partsO c) main with | some s => [Way.key tb s.1 s.2] | none => []))
        rw [es]
        exact .cons (all0.mono fun _ _ z => (KeepN.lst hr5).t ((KeepN.of s5).t z)) (.cons ⟨q, rfl, (KeepN.lst hr5).t (SqT.of upd_same)⟩ .nil)

end
end K06

set_option Elab.async false
set_option maxRecDepth 100000
set_option maxHeartbeats 1000000
namespace K06
open PySem L2
/-! ### all plans -/
structure TxtQ (mg : Str → Option Value) : Prop where
  enum : mg "enumerate" = none
  perm : mg "permutations" = some (.type "itertools.permutations")
def spPlansIn (K : PySem.W.Frag) : Sp := fun vs H Q _ => ∃ (po d il : Addr) (cv : V) (c : Option Tr) (o : List Str) (sh : List (Str × List Str)) (ix : List (Str × Str)), vs = [.ref po, cv, .ref d, .ref il] ∧ CondAt K H cv c ∧ CdO c ∧ CdT (partsO c) ∧ depO c < 16 ∧ (partsO c).length ≤ 35 ∧
  SqT K H po (o.map V.str) ∧ o.length ≤ 3 ∧ (∀ t ∈ o, t ∈ sh.map (·.1)) ∧ ShapesAt K H d sh ∧ IsShapes sh ∧ IxAt K H il ix ∧ (∀ q ∈ ix, q.1 ∈ sh.map (·.1) → InSh sh q) ∧ ∀ (r : Addr) (H' : Hp), Same H H' → H r = none → PlansAt K H' r (plansO sh (partsO c) ix o []) → Q (.ref r) H'
def spAllX (K : PySem.W.Frag) : Sp := fun vs H Q _ => ∃ (tt d l : Addr) (cv : V) (sh : List (Str × List Str)) (ts : List Str) (c : Option Tr) (il : List (Str × Str)), vs = [.ref tt, cv, .ref d, .ref l] ∧
  SqT K H tt (ts.map V.str) ∧ CondAt K H cv c ∧ ShapesAt K H d sh ∧ IxAt K H l il ∧ IsShapes sh ∧ TsOk sh ts ∧ CdIn (flOf sh ts) 8 c ∧ (∀ q ∈ il, q.1 ∈ sh.map (·.1) → InSh sh q) ∧ ∀ (r : Addr) (H' : Hp), Same H H' → H r = none → PlansAt K H' r (AP sh ts c il) → Q (.ref r) H'
/-- plans of the first tables of an order -/
def stepP (ws : List Way) (L : List (List Way)) : List (List Way) := L.flatMap fun p => ws.map fun w => p ++ [w]
theorem plansO_snoc (sh : List (Str × List Str)) (ps : List Tr) (il : List (Str × Str)) (t : Str) : ∀ (o early : List Str), plansO sh ps il (o ++ [t]) early = stepP (waysF sh ps il t (early ++ o)) (plansO sh ps il o early)
  | [], early => by
    show (waysF sh ps il t early).flatMap (fun w => [[]].map (w :: ·)) = [[]].flatMap fun p => (waysF sh ps il t (early ++ [])).map fun w => p ++ [w]
    rw [List.append_nil]
    simp [List.flatMap_cons]
    induction waysF sh ps il t early with
    | nil => rfl
    | cons w r ih => rw [List.flatMap_cons, List.map_cons, ih]; rfl
  | t0 :: r, early => by
    show (waysF sh ps il t0 early).flatMap (fun w => (plansO sh ps il (r ++ [t]) (early ++ [t0])).map (w :: ·)) = stepP (waysF sh ps il t (early ++ t0 :: r)) ((waysF sh ps il t0 early).flatMap fun w => (plansO sh ps il r (early ++ [t0])).map (w :: ·))
    rw [plansO_snoc sh ps il t r (early ++ [t0])]
    have e : early ++ [t0] ++ r = early ++ t0 :: r := by rw [List.append_assoc]; rfl
    rw [e]
    generalize waysF sh ps il t (early ++ t0 :: r) = ws
    generalize plansO sh ps il r (early ++ [t0]) = L
    induction waysF sh ps il t0 early with
    | nil => rfl
    | cons w0 rs ih =>
      rw [List.flatMap_cons, List.flatMap_cons, ih]
      unfold stepP
      rw [List.flatMap_append]
      congr 1
      clear ih
      induction L with
      | nil => rfl
      | cons p L ih => rw [List.flatMap_cons, List.map_append, ih, List.map_cons, List.flatMap_cons, List.map_map]; rfl
section
variable {P : Program} {w : World} {K : PySem.W.Frag} {mg : Str → Option Value} {base : Heap}
theorem cut_take : ∀ (l : List Str) (i : Nat), l.length ≤ 3 → i < l.length → cutV (l.map V.str) none (some ((i : Nat) : Int)) = (l.take i).map V.str
  | [], _, _, h => absurd h (Nat.not_lt_zero _)
  | [_], 0, _, _ => rfl
  | [_, _], 0, _, _ => rfl
  | [_, _], 1, _, _ => rfl
  | [_, _, _], 0, _, _ => rfl
  | [_, _, _], 1, _, _ => rfl
  | [_, _, _], 2, _, _ => rfl
  | [_], _ + 1, _, h => absurd h (by simp)
  | [_, _], _ + 2, _, h => absurd h (by simp)
  | [_, _, _], _ + 3, _, h => absurd h (by simp)
  | _ :: _ :: _ :: _ :: _, _, h, _ => absurd h (by simp)
/-- for each of one list each of another one -/
theorem lc2_list {K : PySem.W.Frag} {a b D : Addr} {xs ys : List V} {te : TE} {s0 s1 s2 s3 s4 s5 s6 x8 x9 : Option V} {H1 : Hp} {Qd : Hp → Prop} (Pv : Nat → Nat → Hp → Prop) (h0 : Pv 0 0 (upd H1 D (.lst []))) (hl : ∀ i j H, Pv i j H → SqL K H a xs ∧ SqL K H b ys)
    (hs : ∀ i j x y H, xs[i]? = some x → ys[j]? = some y → Pv i j H → te [s0, s1, s2, s3, s4, s5, s6, some (.ref b), some x, some y] H fun z H4 => ∃ acc, H4 D = some (.lst acc) ∧ acc.length < sizeLine ∧ Pv i (j + 1) (upd H4 D (.lst (acc ++ [z]))))
    (hn : ∀ i H, i < xs.length → Pv i ys.length H → Pv (i + 1) 0 H) (hd : ∀ H, Pv xs.length 0 H → Qd H) :
    ∃ W : Nat → Nat → Hp → Prop, (∃ m, W 0 m (upd H1 D (.lst []))) ∧ ∀ i m H, W i m H →
      ((Itl K a).stop i H ∧ Qd H) ∨ ((Itl K a).go i H ∧ ∃ Nx : Hp → Prop, (∀ H', Nx H' → ∃ m', m' < m ∧ W (i + 1) m' H') ∧ ∀ x H', (Itl K a).yld i H x H' → gName 8 x (wipe [s0, s1, s2, s3, s4, s5, s6, some (.ref b), x8, x9] [8, 9]) H' fun σ2 H2 => wipe σ2 [8, 9] = wipe [s0, s1, s2, s3, s4, s5, s6, some (.ref b), x8, x9] [8, 9] ∧ tYes σ2 H2 fun c H3 =>
        if c = true then iList K (tVar 7) σ2 H3 fun J1 H4 => ∃ W1 : Nat → Nat → Hp → Prop, (∃ m, W1 0 m H4) ∧ ∀ j k H, W1 j k H →
          (J1.stop j H ∧ Nx H) ∨ (J1.go j H ∧ ∃ Nx1 : Hp → Prop, (∀ H', Nx1 H' → ∃ k', k' < k ∧ W1 (j + 1) k' H') ∧ ∀ x H', J1.yld j H x H' → gName 9 x (wipe σ2 [9]) H' fun σ3 H5 => wipe σ3 [9] = wipe σ2 [9] ∧ tYes σ3 H5 fun c H6 =>
            if c = true then te σ3 H6 fun y H7 => ∃ acc, H7 D = some (.lst acc) ∧ acc.length < sizeLine ∧ Nx1 (upd H7 D (.lst (acc ++ [y]))) else Nx1 H6)
        else Nx H3) := by
  refine ⟨fun i m H => m = xs.length - i ∧ i ≤ xs.length ∧ Pv i 0 H, ⟨xs.length, by simp, Nat.zero_le _, h0⟩, ?_⟩
  rintro i m H ⟨rfl, hi, p⟩
  obtain ⟨qa, qb⟩ := hl i 0 H p
  by_cases hlt : i < xs.length
  · refine .inr ⟨⟨xs, xs[i], qa, by simp [hlt]⟩, Pv (i + 1) 0, fun H' p' => ⟨xs.length - (i + 1), by omega, rfl, hlt, p'⟩, fun x H' y => ?_⟩
    obtain ⟨e, y⟩ := y
    subst e
    have hx := y xs qa
    refine ⟨rfl, ?_⟩
    dsimp only [tYes]
    rw [if_pos rfl]
    refine ⟨_, rfl, b, rfl, ⟨_, qb⟩, fun j k H => k = ys.length - j ∧ j ≤ ys.length ∧ Pv i j H, ⟨ys.length, by simp, Nat.zero_le _, p⟩, ?_⟩
    rintro j k H3 ⟨rfl, hj, p3⟩
    obtain ⟨qa3, qb3⟩ := hl i j H3 p3
    by_cases hjl : j < ys.length
    · refine .inr ⟨⟨ys, ys[j], qb3, by simp [hjl]⟩, Pv i (j + 1), fun H' p' => ⟨ys.length - (j + 1), by omega, rfl, hjl, p'⟩, fun y H' yy => ?_⟩
      obtain ⟨e, yy⟩ := yy
      subst e
      refine ⟨rfl, ?_⟩
      rw [if_pos rfl]
      exact hs i j x y H' hx (yy ys qb3) p3
    · obtain rfl : j = ys.length := by omega
      exact .inl ⟨⟨ys, qb3, Nat.le_refl _⟩, hn i H3 hlt p3⟩
  · obtain rfl : i = xs.length := by omega
    exact .inl ⟨⟨xs, qa, Nat.le_refl _⟩, hd H p⟩
theorem plans_monoX {H H' : Hp} (k : KeepN H H') {us : List V} {ps : List (List Way)} (h : Paired (PlanAt K H) us ps) : Paired (PlanAt K H') us ps := Paired.mapP h fun _ _ q => q.mono fun _ _ z => k.t z
/-- each plan and each way -/
theorem te_step {wl r : Addr} {s0 s1 s2 s3 s5 s6 x8 x9 : Option V} {H : Hp} {Q : VK} {xs us : List V} {L : List (List Way)} {ws : List Way} (hr : H r = some (.lst xs)) (pL : Paired (PlanAt K H) xs L) (hw : H wl = some (.lst us)) (pw : Paired (WayAt K H) us ws) (l1 : L.length ≤ 1600) (l2 : ws.length ≤ 40) (l3 : ∀ p ∈ L, p.length ≤ 3)
    (k : ∀ (D : Addr) (H' : Hp), Same H H' → H D = none → PlansAt K H' D (stepP ws L) → Q (.ref D) H') :
    tLc2 (iList K (tVar 4)) (gName 8) tYes (iList K (tVar 7)) (gName 9) tYes (tTup (StX.tStar K (tVar 8) (tCons (tVar 9) tNil))) (List.map (fun x => x.snd) [(Str.ofString "plan", 8), (Str.ofString "way", 9)]) [9]
      [s0, s1, s2, s3, some (.ref r), s5, s6, some (.ref wl), x8, x9] H Q := by
  refine ⟨_, rfl, r, rfl, ⟨_, SqL.of hr⟩, fun D hD => ?_⟩
  have sD := Same.new (o := .lst []) hD
  have lx : xs.length = L.length := Paired.length pL
  have lu : us.length = ws.length := Paired.length pw
  refine lc2_list (K := K) (a := r) (b := wl) (xs := xs) (ys := us) (fun i j H' => Same H H' ∧ ∃ acc, H' D = some (.lst acc) ∧ acc.length = i * us.length + j ∧ j ≤ us.length ∧ i ≤ xs.length ∧
      Paired (PlanAt K H') acc (stepP ws (L.take i) ++ (L[i]?).toList.flatMap fun p => (ws.take j).map fun w => p ++ [w]))
    ⟨sD, [], upd_same, by simp, Nat.zero_le _, Nat.zero_le _, ?_⟩ (fun i j H' ⟨sm, _⟩ => ⟨SqL.of (sm _ _ hr), SqL.of (sm _ _ hw)⟩) ?_ ?_ ?_
  · have e : (stepP ws (L.take 0) ++ (L[0]?).toList.flatMap fun p => (ws.take 0).map fun w => p ++ [w]) = [] := by
      rw [List.take_zero, List.take_zero]
      show [] ++ _ = []
      rw [List.nil_append]
      cases L[0]? <;> rfl
    rw [e]
    exact .nil
  · rintro i j x y H' hx hy ⟨sm, acc, hacc, la, lj, li, pa⟩
    obtain ⟨p, hp, pp⟩ := pw_at pL hx
    obtain ⟨w', hw', wy⟩ := pw_at pw hy
    obtain ⟨q, vs, rfl, hq, pv'⟩ := pp.mono fun _ _ z => (KeepN.of sm).t z
    have lvs : vs.length = p.length := Paired.length pv'
    have lp := l3 p (List.mem_of_getElem? hp)
    have ij : i < xs.length := (List.getElem?_eq_some_iff.mp hx).1
    have jj : j < us.length := (List.getElem?_eq_some_iff.mp hy).1
    refine ⟨_, rfl, q, vs, rfl, .inl hq, _, rfl, ?_, fun u hu => ?_⟩
    · refine Nat.le_trans (show _ ≤ 4 from ?_) (by decide)
      show (vs ++ [y]).length ≤ 4
      rw [List.length_append]
      show vs.length + 1 ≤ 4
      omega
    · have s4 := Same.new (o := .tup (vs ++ [y])) hu
      have hacc4 := s4 _ _ hacc
      have small : acc.length < 64000 := by
        have h1 : i * us.length ≤ 1599 * us.length := Nat.mul_le_mul_right _ (by omega)
        have h2 : 1599 * us.length ≤ 1599 * 40 := Nat.mul_le_mul_left _ (by omega)
        omega
      refine ⟨acc, hacc4, Nat.lt_trans small (by decide), fun b o h => ?_, _, upd_same, by rw [List.length_append, la]; show _ + 1 = _; omega, jj, li, ?_⟩
      · rw [upd_ne (ne_of_none h hD)]
        exact s4 _ _ (sm _ _ h)
      · have kn := (KeepN.of s4).trans (KeepN.lst (ys := acc ++ [.ref u]) hacc4)
        have tk : ws.take (j + 1) = ws.take j ++ [w'] := by rw [List.take_add_one, hw']; rfl
        have e : (stepP ws (L.take i) ++ (L[i]?).toList.flatMap fun p => (ws.take (j + 1)).map fun w => p ++ [w]) = (stepP ws (L.take i) ++ (L[i]?).toList.flatMap fun p => (ws.take j).map fun w => p ++ [w]) ++ [p ++ [w']] := by
          rw [hp, tk, List.append_assoc]
          congr 1
          show (List.map _ _ ++ []) = (List.map _ _ ++ []) ++ _
          rw [List.append_nil, List.append_nil, List.map_append]
          rfl
        rw [e]
        refine pair_app (plans_monoX kn pa) (.cons ⟨u, _, rfl, (KeepN.lst hacc4).t (SqT.of upd_same), pair_app (ways_mono (fun _ _ z => kn.t z) pv') (.cons ?_ .nil)⟩ .nil)
        exact wy.mono fun _ _ z => ((KeepN.of sm).trans kn).t z
  · rintro i H' hi ⟨sm, acc, hacc, la, lj, li, pa⟩
    refine ⟨sm, acc, hacc, by rw [la, Nat.succ_mul]; omega, Nat.zero_le _, hi, ?_⟩
    have hi' : i < L.length := by omega
    have e : (stepP ws (L.take (i + 1)) ++ (L[i + 1]?).toList.flatMap fun p => (ws.take 0).map fun w => p ++ [w]) = stepP ws (L.take i) ++ (L[i]?).toList.flatMap fun p => (ws.take us.length).map fun w => p ++ [w] := by
      rw [lu, List.take_length, List.take_zero, List.take_add_one, List.getElem?_eq_getElem hi']
      unfold stepP
      rw [List.flatMap_append]
      have z : (L[i + 1]?).toList.flatMap (fun p => ([] : List Way).map fun w => p ++ [w]) = [] := by cases L[i + 1]? <;> rfl
      rw [z, List.append_nil]
    rw [e]
    exact pa
  · rintro H' ⟨sm, acc, hacc, la, lj, li, pa⟩
    refine k D H' sm hD ⟨acc, hacc, ?_⟩
    have e : (stepP ws (L.take xs.length) ++ (L[xs.length]?).toList.flatMap fun p => (ws.take 0).map fun w => p ++ [w]) = stepP ws L := by
      rw [lx, List.take_length, List.getElem?_eq_none (Nat.le_refl _)]
      exact List.append_nil _
    rw [e] at pa
    exact pa
theorem plans_eln (sh : List (Str × List Str)) (ps : List Tr) (il : List (Str × Str)) : ∀ (o early : List Str) (p : List Way), p ∈ plansO sh ps il o early → p.length = o.length
  | [], _, p, m => by rw [List.mem_singleton.mp m]; rfl
  | t :: r, early, p, m => by
    obtain ⟨w, _, m2⟩ := List.mem_flatMap.mp m
    obtain ⟨q, m3, rfl⟩ := List.mem_map.mp m2
    rw [List.length_cons, List.length_cons, plans_eln sh ps il r (early ++ [t]) q m3]
theorem perms_map {α β : Type} (f : α → β) : ∀ l : List α, PM.perms (l.map f) = (PM.perms l).map (List.map f)
  | [] => rfl
  | [_] => rfl
  | [_, _] => rfl
  | [_, _, _] => rfl
  | _ :: _ :: _ :: _ :: _ => rfl
theorem perms_orders : ∀ l : List Str, l ≠ [] → l.length ≤ 3 → PM.perms l = orders l.length l
  | [], h, _ => absurd rfl h
  | [_], _, _ => rfl
  | [_, _], _, _ => rfl
  | [_, _, _], _, _ => rfl
  | _ :: _ :: _ :: _ :: _, _, h => absurd h (by simp only [List.length_cons]; omega)
theorem scPlansin : FnScope ["order", "cond", "shapes", "indexes", "plans", "at", "table", "ways", "plan", "way"] ["order", "cond", "shapes", "indexes"] (defScope splansinorder) := ⟨rfl, rfl, rfl, by decide +kernel, rfl, by decide +kernel, by decide +kernel⟩
theorem ok_plansin {f f1 : Addr} {fd fd1 : FuncData} (F : Fun K "plans_in_order" "plans_in_order" splansinorder f fd) (TQ : TxtQ mg) (Cways_of : Cal P w K mg base 4 "ways_of" ["table", "ahead", "cond", "shapes", "indexes"] (spWaysOf K) f1 fd1) :
    FnOk P w K mg base CX0 5 f fd ["order", "cond", "shapes", "indexes"] (spPlansIn K) := by
  refine F.ok scPlansin (fun vs H Q E h => ?_) (fun cdv A outer s H vs Q E hr h => ?_)
  · obtain ⟨po, d, il, cv, c, o, sh, ix, rfl, _⟩ := h
    rfl
  · obtain ⟨po, d, il, cv, c, o, sh, ix, rfl, C, cd, ct, dc, lp, ho, l3, tin, S, I, Ix, inx, k⟩ := h
    have hr1 : Room 4 _ := hr.mono (by decide)
    refine ⟨_, (pss_cons (ps_set (i := 4) scPlansin.nd rfl (Or.inl rfl) (pe_lst (pa_cons (pe_tup pa_nil) pa_nil)))
      (pss_cons (ps_for PassesOwn.never rfl (EN.pi_enumT (K := K) (by rfl) TQ.enum (pa_cons (pv 0) pa_nil)) (RK.pgTup (K := K) (n := 2) rfl (pgs_cons (pg_name (i := 5) scPlansin.nd rfl (Or.inl rfl)) (pgs_cons (pg_name (i := 6) scPlansin.nd rfl (Or.inl rfl)) pgs_nil)))
        (pss_cons (ps_set (i := 7) scPlansin.nd rfl (Or.inr rfl) (pe_call Cways_of.G hr1 (by rfl) Cways_of.g Cways_of.kp Cways_of.b .nil pass0 (pa_cons (pv 6) (pa_cons (pe_slice (RK.slT (K := K)) (pv 0) po_none (po_some (pv 5))) (pa_cons (pv 1) (pa_cons (pv 2) (pa_cons (pv 3) pa_nil)))))))
        (pss_one (ps_setLc2 (i := 4) (own := [("plan", 8), ("way", 9)]) (vs1 := [9]) rfl scPlansin.nd rfl rfl (sw_true rfl rfl rfl (by decide +kernel)) (RK.piL (K := K) (pv 4)) (blkOk_by (N := ["order", "cond", "shapes", "indexes", "plans", "at", "table", "ways", "plan", "way"]) (sc := defScope splansinorder) (by decide +kernel)) (by decide) (fun _ _ _ _ _ => (pg_name (i := 8) scPlansin.nd rfl (Or.inl rfl))) (fun _ _ _ _ _ => pts_nil) (fun _ _ _ _ _ => (RK.piL (K := K) (pv 7))) (fun _ _ _ _ _ => (pg_name (i := 9) scPlansin.nd rfl (Or.inl rfl))) (fun _ _ _ _ _ => pts_nil) (fun _ _ _ _ _ => (pe_tup (SX.star (K := K) (pv 8) (pa_cons (pv 9) pa_nil))))))))
      (pss_one (ps_ret (pv 4))))), ?_⟩
    refine sa1 ⟨(by show 0 ≤ sizeLine; decide), fun p0 hp0 => ⟨(by show 1 ≤ sizeLine; decide), fun r0 hr0 => gn ?_⟩⟩
    have s1 := Same.new (o := .tup []) hp0
    have s2 := Same.new (o := .lst [.ref p0]) hr0
    have s02 := s1.trans s2
    have rH : H r0 = none := s1.free hr0
    have P0 : PlansAt K (upd (upd H p0 (.tup [])) r0 (.lst [.ref p0])) r0 [[]] := ⟨_, upd_same, .cons ⟨p0, [], rfl, SqT.of (s2 _ _ upd_same), .nil⟩ .nil⟩
    generalize upd (upd H p0 (.tup [])) r0 (.lst [.ref p0]) = H0 at s02 P0 ⊢
    have lo : (o.map V.str).length = o.length := List.length_map ..
    refine ⟨_, rfl, po, _, rfl, (KeepN.of s02).t ho, ?_⟩
    refine for_it (EN.walk_enumT (K := K) (a := po) (xs := o.map V.str)) (fun i σ H' => ∃ (r : Addr) (x5 x6 x7 x8 x9 : Option V), σ = [some (.ref po), some cv, some (.ref d), some (.ref il), some (.ref r), x5, x6, x7, x8, x9] ∧ Same H H' ∧ H r = none ∧ PlansAt K H' r (plansO sh (partsO c) ix (o.take i) []))
      ⟨r0, _, _, _, _, _, rfl, s02, rH, P0⟩ (fun i σ H' _ ⟨_, _, _, _, _, _, _, sm, _⟩ => (KeepN.of sm).t ho) ?_ ?_
    · rintro i v σ H1 H2 hi ⟨r, x5, x6, x7, x8, x9, rfl, sm, rn, pl⟩ ⟨T, a, b, rfl, hT, rfl, ea, eb⟩
      obtain rfl := Option.some.inj ea
      have hi' : i < o.length := by omega
      have eb : (o.map V.str)[i]? = some b := eb
      obtain rfl : b = .str o[i] := by rw [List.getElem?_map, List.getElem?_eq_getElem hi'] at eb; exact (Option.some.inj eb).symm
      have s3 := Same.new (o := .tup [.int (i : Nat), .str o[i]]) hT
      have s03 := sm.trans s3
      refine ⟨T, _, rfl, SqT.of upd_same, rfl, _, _, rfl, gn ⟨_, _, rfl, gn ⟨rfl, ?_⟩⟩⟩
      obtain ⟨us, hr, pu⟩ := pl
      have hr3 := s3 _ _ hr
      have pu3 := plans_monoX (KeepN.of s3) pu
      generalize upd H1 T (.tup [.int (i : Nat), .str o[i]]) = H3 at s3 s03 hr3 pu3 ⊢
      have ho3 := (KeepN.of s03).t ho
      have ti : o[i] ∈ sh.map (·.1) := tin _ (List.getElem_mem hi')
      refine sa1 ?_
      refine ⟨_, rfl, _, rfl, _, rfl, _, rfl, po, _, rfl, ho3, fun hw => ?_, fun hw pc hpc => ?_⟩
      · exfalso
        have h1 := hw.2
        rw [HT.sIx_nat, lo] at h1
        omega
      rw [cut_take o i l3 hi']
      have s4 := Same.new (o := .tup ((o.take i).map V.str)) hpc
      have s04 := s03.trans s4
      refine ⟨_, rfl, _, rfl, _, rfl, o[i], pc, d, il, cv, c, o.take i, sh, ix, rfl, C.keep (KeepN.of s04), cd, ct, dc, lp, SqT.of upd_same, S.keep (KeepN.of s04), I, ti, Ix.same s04, inx, fun wl H5 us5 s5 wl0 hwl pw => gn ?_⟩
      have s35 := s4.trans s5
      have s05 := s04.trans s5
      obtain ⟨pl40, _⟩ := plans_len I (partsO c) ix lp (o.take i) [] fun x m => tin x (List.mem_of_mem_take m)
      have lt2 : (o.take i).length ≤ 2 := by rw [List.length_take]; omega
      have l1600 : (plansO sh (partsO c) ix (o.take i) []).length ≤ 1600 := Nat.le_trans pl40 (Nat.le_trans (Nat.pow_le_pow_right (by decide) lt2) (by decide))
      obtain ⟨lw40, _⟩ := ways_len I (partsO c) ix o[i] (o.take i) lp ti
      have tk : o.take (i + 1) = o.take i ++ [o[i]] := by rw [List.take_add_one, List.getElem?_eq_getElem hi']; rfl
      refine te_step (K := K) (s35 _ _ hr3) (plans_monoX (KeepN.of s35) pu3) hwl pw l1600 lw40 (fun p m => by rw [plans_eln sh (partsO c) ix _ _ p m]; omega) fun D H6 s6 D0 pD => ?_
      refine gn ⟨D, _, _, _, _, _, rfl, s05.trans s6, s05.free D0, ?_⟩
      rw [tk, plansO_snoc]
      exact pD
    · rintro σ H1 ⟨r, x5, x6, x7, x8, x9, rfl, sm, rn, pl⟩
      rw [lo, List.take_length] at pl
      exact ⟨_, rfl, k r H1 sm rn pl⟩
theorem scAllplans : FnScope ["tables", "cond", "shapes", "indexes", "plans", "order"] ["tables", "cond", "shapes", "indexes"] (defScope sallplans) := ⟨rfl, rfl, rfl, by decide +kernel, rfl, by decide +kernel, by decide +kernel⟩
theorem ok_allplans {f f1 : Addr} {fd fd1 : FuncData} (F : Fun K "all_plans" "all_plans" sallplans f fd) (TQ : TxtQ mg) (Cplans_in_order : Cal P w K mg base 5 "plans_in_order" ["order", "cond", "shapes", "indexes"] (spPlansIn K) f1 fd1) :
    FnOk P w K mg base CX0 6 f fd ["tables", "cond", "shapes", "indexes"] (spAllX K) := by
  refine F.ok scAllplans (fun vs H Q E h => ?_) (fun cdv A outer s H vs Q E hr h => ?_)
  · obtain ⟨tt, d, l, cv, sh, ts, c, il, rfl, _⟩ := h
    rfl
  · obtain ⟨tt, d, l, cv, sh, ts, c, il, rfl, ht, C, S, Ix, I, to, ci, inx, k⟩ := h
    have hr1 : Room 5 _ := hr.mono (by decide)
    refine ⟨_, (pss_cons (ps_set (i := 4) scAllplans.nd rfl (Or.inl rfl) (pe_lst pa_nil))
      (pss_cons (ps_for PassesOwn.never rfl (PM.pi_perm (K := K) (by rfl) TQ.perm (pa_cons (pv 0) pa_nil)) (pg_name (i := 5) scAllplans.nd rfl (Or.inl rfl))
        (pss_one (ps_expr (RK.bm (K := K) PySem.F.plainAttrs_list PySem.F.slot_list_extend PySem.F.type_list_extend mt_extend (pv 4) (pa_cons (pe_call Cplans_in_order.G hr1 (by rfl) Cplans_in_order.g Cplans_in_order.kp Cplans_in_order.b .nil pass0 (pa_cons (pv 5) (pa_cons (pv 1) (pa_cons (pv 2) (pa_cons (pv 3) pa_nil))))) pa_nil)))))
      (pss_one (ps_ret (pv 4))))), ?_⟩
    refine sa1 ⟨(by show 0 ≤ sizeLine; decide), fun r0 hr0 => gn ?_⟩
    have s0 := Same.new (o := .lst []) hr0
    obtain ⟨t0, nd, l3, tin⟩ := to
    have lt : (ts.map V.str).length = ts.length := List.length_map ..
    have ne : ts.map V.str ≠ [] := fun e => t0 (by cases ts with | nil => rfl | cons _ _ => cases e)
    obtain ⟨cd, ct, dc, lp⟩ : CdO c ∧ CdT (partsO c) ∧ depO c < 16 ∧ (partsO c).length ≤ 35 := by
      obtain ⟨h1, h2⟩ := cd_parts I tin ci
      cases c with
      | none => exact ⟨trivial, h1, (by show 0 < 16; decide), h2⟩
      | some t => exact ⟨Cd.of (fl_ok I tin) ci.1, h1, Nat.lt_of_le_of_lt ci.2.1 (by decide), h2⟩
    have po := perms_orders ts t0 l3
    have pm : PM.perms (ts.map V.str) = (PM.perms ts).map (List.map V.str) := perms_map V.str ts
    have lpm : (PM.perms (ts.map V.str)).length = (PM.perms ts).length := by rw [pm, List.length_map]
    have l6 : (PM.perms ts).length ≤ 6 := by rw [po]; exact orders_len ts.length ts rfl l3
    refine ⟨_, rfl, tt, _, rfl, (KeepN.of s0).t ht, ne, by rw [lt]; exact l3, ?_⟩
    refine for_it (PM.walk_perm (xs := ts.map V.str)) (fun i σ H' => ∃ (x5 : Option V) (us : List V), σ = [some (.ref tt), some cv, some (.ref d), some (.ref l), some (.ref r0), x5] ∧ Same H H' ∧ H' r0 = some (.lst us) ∧ us.length ≤ 64000 * i ∧
        Paired (PlanAt K H') us (((PM.perms ts).take i).flatMap fun o => plansO sh (partsO c) il o []))
      ⟨_, [], rfl, s0, upd_same, Nat.zero_le _, .nil⟩ (fun i σ H' _ _ => trivial) ?_ ?_
    · rintro i v σ H1 H2 hi ⟨x5, us, rfl, sm, hr, lu, pu⟩ ⟨T, ys, rfl, hT, ey, rfl⟩
      rw [pm, List.getElem?_map] at ey
      rw [lpm] at hi
      rw [List.getElem?_eq_getElem hi] at ey
      obtain rfl : (PM.perms ts)[i].map V.str = ys := Option.some.inj ey
      have tk : (PM.perms ts).take (i + 1) = (PM.perms ts).take i ++ [(PM.perms ts)[i]] := by rw [List.take_add_one, List.getElem?_eq_getElem hi]; rfl
      have pe : (PM.perms ts)[i].Perm ts := orders_mem ts.length ts _ rfl (by rw [← po]; exact List.getElem_mem hi)
      generalize (PM.perms ts)[i] = o at tk pe hT ⊢
      have s1 := Same.new (o := .tup (o.map V.str)) hT
      have s01 := sm.trans s1
      have hr1' := s1 _ _ hr
      have pu1 := plans_monoX (KeepN.of s1) pu
      have ho : SqT K (upd H1 T (.tup (o.map V.str))) T (o.map V.str) := SqT.of upd_same
      generalize upd H1 T (.tup (o.map V.str)) = H2 at s1 s01 hr1' pu1 ho ⊢
      have lo : o.length ≤ 3 := by rw [pe.length_eq]; exact l3
      have tin2 : ∀ t ∈ o, t ∈ sh.map (·.1) := fun t m => tin t (pe.subset m)
      refine gn ?_
      refine ⟨_, rfl, .inl ⟨rfl, _, SqL.of hr1'⟩, _, rfl, _, rfl, _, rfl, _, rfl, T, d, l, cv, c, o, sh, il, rfl, C.keep (KeepN.of s01), cd, ct, dc, lp, ho, lo, tin2, S.keep (KeepN.of s01), I, Ix.same s01, inx, fun r H3 s3 rn pl => ?_⟩
      obtain ⟨zs, hz, pz⟩ := pl
      have hr3 := s3 _ _ hr1'
      have lz : zs.length ≤ 64000 := by
        rw [Paired.length pz]
        exact Nat.le_trans (plans_len I (partsO c) il lp o [] tin2).1 (Nat.le_trans (Nat.pow_le_pow_right (by decide) lo) (by decide))
      have lsum : us.length + zs.length ≤ 64000 * (i + 1) := by omega
      refine ⟨r0, r, us, zs, rfl, rfl, hr3, hz, Nat.le_trans lsum (Nat.le_trans (Nat.mul_le_mul_left _ (show i + 1 ≤ 6 by omega)) (by decide)), ?_⟩
      have kn := KeepN.lst (ys := us ++ zs) hr3
      refine ⟨_, us ++ zs, rfl, fun b o' e => ?_, upd_same, by rw [List.length_append]; exact lsum, ?_⟩
      · rw [upd_ne (ne_of_none e hr0)]
        exact s3 _ _ (s01 _ _ e)
      · rw [tk, List.flatMap_append]
        refine pair_app (plans_monoX ((KeepN.of s3).trans kn) pu1) ?_
        show Paired _ zs (plansO sh (partsO c) il o [] ++ [])
        rw [List.append_nil]
        exact plans_monoX kn pz
    · rintro σ H1 ⟨x5, us, rfl, sm, hr, lu, pu⟩
      refine ⟨_, rfl, k r0 H1 sm hr0 ⟨us, hr, ?_⟩⟩
      rw [lpm, List.take_length, po] at pu
      have ep : (c.map parts).getD [] = partsO c := by cases c <;> rfl
      show Paired _ us ((orders ts.length ts).flatMap fun o => plansO sh ((c.map parts).getD []) il o [])
      rw [ep]
      exact pu

end
end K06

set_option Elab.async false
set_option maxRecDepth 100000
set_option maxHeartbeats 1000000
namespace K06
open PySem L2
structure TxtM (mg : Str → Option Value) : Prop where
  max : mg "max" = none
  min : mg "min" = none
/-! ### what the program reckons -/
def spBetween : Sp := fun vs H Q _ => ∃ (lo hi : Option Int) (n : Int), vs = [oV lo, oV hi, .int n] ∧ okL lo hi ∧ Q (.int (wideF lo hi n)) H
def spExpected (K : PySem.W.Frag) : Sp := fun vs H Q _ => ∃ (v : V) (w : Way) (n : Int), vs = [v, .int n] ∧ WayAt K H v w ∧ WOk w ∧ Q (.int (takenF n w)) H
theorem least_min (a b : Int) : (if b < a then b else a) = leastI a b := rfl
theorem least_sw (a b : Int) : (if b < a then b else a) = leastI b a := by
  unfold leastI
  by_cases h : b < a
  · rw [if_pos h]
    by_cases h2 : a < b
    · omega
    · rw [if_neg h2]
  · rw [if_neg h]
    by_cases h2 : a < b
    · rw [if_pos h2]
    · rw [if_neg h2]; omega
section
variable {P : Program} {w : World} {K : PySem.W.Frag} {mg : Str → Option Value} {base : Heap}
theorem scRowsb : FnScope ["least", "greatest", "many"] ["least", "greatest", "many"] (defScope srowsbetween) := ⟨rfl, rfl, rfl, by decide +kernel, rfl, by decide +kernel, by decide +kernel⟩
theorem ok_between {f : Addr} {fd : FuncData} (F : Fun K "rows_between" "rows_between" srowsbetween f fd) (TM : TxtM mg) : FnOk P w K mg base CX0 1 f fd ["least", "greatest", "many"] spBetween := by
  refine F.ok scRowsb (fun vs H Q E h => ?_) (fun cdv A outer s H vs Q E hr h => ?_)
  · obtain ⟨lo, hi, n, rfl, _⟩ := h
    rfl
  · obtain ⟨lo, hi, n, rfl, ol, k⟩ := h
    refine ⟨_, (pss_cons (ps_if (PW.pt (pw_and (pt_cmpR op_isN (pv 0) pe_non (nomark _)) (pw_and1 (pt_cmpR op_isN (pv 1) pe_non (nomark _))))) (pss_one (ps_ret (pv 2))) pss_nil)
      (pss_cons (ps_if (PW.pt (pw_or (pt_cmpR op_isN (pv 0) pe_non (nomark _)) (pw_or1 (pt_cmpR op_isN (pv 1) pe_non (nomark _))))) (pss_one (ps_ret (pe_op op_fdiv (pe_op op_add (pv 2) pe_int) pe_int))) pss_nil)
      (pss_one (ps_ret (pe_callB (call_min2 rfl) (by rfl) TM.min (by decide +kernel) (pa_cons (pe_callB (call_max2 rfl) (by rfl) TM.max (by decide +kernel) (pa_cons pe_int (pa_cons (pe_op op_add (pe_op op_sub (pv 1) (pv 0)) pe_int) pa_nil))) (pa_cons (pv 2) pa_nil))))))), ?_⟩
    cases lo with
    | none =>
      cases hi with
      | none => exact ⟨_, rfl, rfl, _, rfl, iteT ⟨_, rfl, rfl, _, rfl, iteT ⟨_, rfl, k⟩⟩⟩
      | some h => exact ⟨_, rfl, rfl, _, rfl, iteT ⟨_, rfl, rfl, _, rfl, iteF ⟨_, rfl, rfl, _, rfl, iteT (iteT ⟨_, rfl, _, _, rfl, rfl, _, _, rfl, rfl, ⟨by decide, by decide⟩, k⟩)⟩⟩⟩
    | some l =>
      cases hi with
      | none => exact ⟨_, rfl, rfl, _, rfl, iteF (iteF ⟨_, rfl, rfl, _, rfl, iteF ⟨_, rfl, rfl, _, rfl, iteT ⟨_, rfl, _, _, rfl, rfl, _, _, rfl, rfl, ⟨by decide, by decide⟩, k⟩⟩⟩)⟩
      | some h =>
        refine ⟨_, rfl, rfl, _, rfl, iteF (iteF ⟨_, rfl, rfl, _, rfl, iteF ⟨_, rfl, rfl, _, rfl, iteF ?_⟩⟩)⟩
        refine ⟨_, rfl, _, rfl, _, _, rfl, rfl, _, _, rfl, rfl, _, _, rfl, _, rfl, _, _, rfl, ?_⟩
        have ol : l ≤ h := ol
        have e : (if n < (if h - l + 1 > 0 then h - l + 1 else 0) then n else (if h - l + 1 > 0 then h - l + 1 else 0)) = wideF (some l) (some h) n := by
          rw [if_pos (show h - l + 1 > 0 by omega)]
          exact least_sw _ _
        show Q (.int (if n < (if h - l + 1 > 0 then h - l + 1 else 0) then n else (if h - l + 1 > 0 then h - l + 1 else 0))) H
        rw [e]
        exact k
theorem scRowse : FnScope ["way", "many", "kind"] ["way", "many"] (defScope srowsexpected) := ⟨rfl, rfl, rfl, by decide +kernel, rfl, by decide +kernel, by decide +kernel⟩
theorem ok_expected {f f1 : Addr} {fd fd1 : FuncData} (F : Fun K "rows_expected" "rows_expected" srowsexpected f fd) (TM : TxtM mg) (Crows_between : Cal P w K mg base 1 "rows_between" ["least", "greatest", "many"] spBetween f1 fd1) : FnOk P w K mg base CX0 2 f fd ["way", "many"] (spExpected K) := by
  refine F.ok scRowse (fun vs H Q E h => ?_) (fun cdv A outer s H vs Q E hr h => ?_)
  · obtain ⟨v, w, n, rfl, _⟩ := h
    rfl
  · obtain ⟨v, w, n, rfl, hw, wo, k⟩ := h
    have hr1 : Room 1 _ := hr.mono (by decide)
    refine ⟨_, (pss_cons (ps_set (i := 2) scRowse.nd rfl (Or.inl rfl) (pe_ix (RK.ixT (K := K)) (pv 0) pe_int (fun _ _ => rfl)))
      (pss_cons (ps_if (pt_cmpR op_eq (pv 2) pe_str (nomark _)) (pss_one (ps_ret (pv 1))) pss_nil)
      (pss_cons (ps_if (pt_cmpR op_eq (pv 2) pe_str (nomark _)) (pss_one (ps_ret (pe_call Crows_between.G hr1 rfl Crows_between.g Crows_between.kp Crows_between.b .nil pass0 (pa_cons (pe_ix (RK.ixT (K := K)) (pv 0) pe_int (fun _ _ => rfl)) (pa_cons (pe_ix (RK.ixT (K := K)) (pv 0) pe_int (fun _ _ => rfl)) (pa_cons (pv 1) pa_nil)))))) pss_nil)
      (pss_cons (ps_if (pt_cmpR op_eq (pv 2) pe_str (nomark _)) (pss_one (ps_ret (pe_callB (call_min2 rfl) (by rfl) TM.min (by decide +kernel) (pa_cons (pe_op op_add (pe_call Crows_between.G hr1 rfl Crows_between.g Crows_between.kp Crows_between.b .nil pass0 (pa_cons (pe_ix (RK.ixT (K := K)) (pv 0) pe_int (fun _ _ => rfl)) (pa_cons (pe_ix (RK.ixT (K := K)) (pv 0) pe_int (fun _ _ => rfl)) (pa_cons (pv 1) pa_nil)))) pe_int) (pa_cons (pv 1) pa_nil))))) pss_nil)
      (pss_cons (ps_if (pt_cmpR op_eq (pv 2) pe_str (nomark _)) (pss_one (ps_ret (pe_callB (call_min2 rfl) (by rfl) TM.min (by decide +kernel) (pa_cons pe_int (pa_cons (pv 1) pa_nil))))) pss_nil)
      (pss_cons (ps_if (pt_cmpR op_eq (pv 2) pe_str (nomark _)) (pss_one (ps_ret (pe_op op_fdiv (pe_op op_add (pv 1) pe_int) pe_int))) pss_nil)
      (pss_one (ps_ret pe_int)))))))), ?_⟩
    have tag : ∀ (x y : Str), decide (V.str x = V.str y) = decide (x = y) := fun x y => decide_eq_decide.mpr ⟨fun e => V.str.inj e, fun e => congrArg V.str e⟩
    cases w with
    | all t =>
      obtain ⟨p, rfl, hp⟩ := hw
      refine sa1 ⟨_, rfl, p, _, 0, _, rfl, rfl, hp, rfl, gn ?_⟩
      exact sif ⟨_, rfl, rfl, _, rfl, iteT ⟨_, rfl, k⟩⟩
    | key t lo hi =>
      obtain ⟨p, rfl, hp⟩ := hw
      refine sa1 ⟨_, rfl, p, _, 0, _, rfl, rfl, hp, rfl, gn ?_⟩
      refine sif ⟨_, rfl, rfl, _, rfl, iteF ?_⟩
      dsimp only [tNext]
      refine sif ⟨_, rfl, rfl, _, rfl, iteT ?_⟩
      exact ⟨_, rfl, p, _, 2, _, rfl, rfl, hp, rfl, _, rfl, p, _, 3, _, rfl, rfl, hp, rfl, _, rfl, lo, hi, n, rfl, wo.2.2, k⟩
    | «by» t f' lo hi =>
      obtain ⟨p, rfl, hp⟩ := hw
      refine sa1 ⟨_, rfl, p, _, 0, _, rfl, rfl, hp, rfl, gn ?_⟩
      refine sif ⟨_, rfl, rfl, _, rfl, iteF ?_⟩
      dsimp only [tNext]
      refine sif ⟨_, rfl, rfl, _, rfl, iteF ?_⟩
      dsimp only [tNext]
      refine sif ⟨_, rfl, rfl, _, rfl, iteT ?_⟩
      refine ⟨_, rfl, p, _, 3, _, rfl, rfl, hp, rfl, _, rfl, p, _, 4, _, rfl, rfl, hp, rfl, _, rfl, lo, hi, n, rfl, wo.2.2, _, _, rfl, rfl, _, rfl, _, _, rfl, ?_⟩
      have e : (if n < wideF lo hi n + 1 then n else wideF lo hi n + 1) = takenF n (.by t f' lo hi) := by
        rw [least_sw, Int.add_comm]
        rfl
      rw [← e] at k
      exact k
    | keyof t x =>
      obtain ⟨p, y, rfl, hp, _⟩ := hw
      refine sa1 ⟨_, rfl, p, _, 0, _, rfl, rfl, hp, rfl, gn ?_⟩
      refine sif ⟨_, rfl, rfl, _, rfl, iteF ?_⟩
      dsimp only [tNext]
      refine sif ⟨_, rfl, rfl, _, rfl, iteF ?_⟩
      dsimp only [tNext]
      refine sif ⟨_, rfl, rfl, _, rfl, iteF ?_⟩
      dsimp only [tNext]
      refine sif ⟨_, rfl, rfl, _, rfl, iteT ⟨_, rfl, _, _, rfl, ?_⟩⟩
      have e : (if n < 1 then n else 1) = takenF n (.keyof t x) := by
        rw [least_sw]
        rfl
      rw [← e] at k
      exact k
    | byof t f' x =>
      obtain ⟨p, y, rfl, hp, _⟩ := hw
      refine sa1 ⟨_, rfl, p, _, 0, _, rfl, rfl, hp, rfl, gn ?_⟩
      refine sif ⟨_, rfl, rfl, _, rfl, iteF ?_⟩
      dsimp only [tNext]
      refine sif ⟨_, rfl, rfl, _, rfl, iteF ?_⟩
      dsimp only [tNext]
      refine sif ⟨_, rfl, rfl, _, rfl, iteF ?_⟩
      dsimp only [tNext]
      refine sif ⟨_, rfl, rfl, _, rfl, iteF ?_⟩
      dsimp only [tNext]
      exact sif ⟨_, rfl, rfl, _, rfl, iteT ⟨_, rfl, _, _, rfl, rfl, _, _, rfl, rfl, ⟨by decide, by decide⟩, k⟩⟩
    | none t =>
      obtain ⟨p, rfl, hp⟩ := hw
      refine sa1 ⟨_, rfl, p, _, 0, _, rfl, rfl, hp, rfl, gn ?_⟩
      refine sif ⟨_, rfl, rfl, _, rfl, iteF ?_⟩
      dsimp only [tNext]
      refine sif ⟨_, rfl, rfl, _, rfl, iteF ?_⟩
      dsimp only [tNext]
      refine sif ⟨_, rfl, rfl, _, rfl, iteF ?_⟩
      dsimp only [tNext]
      refine sif ⟨_, rfl, rfl, _, rfl, iteF ?_⟩
      dsimp only [tNext]
      exact sif ⟨_, rfl, rfl, _, rfl, iteF k⟩
theorem scCostP : FnScope ["plan", "counts", "total", "choices", "way"] ["plan", "counts"] (defScope scost) := ⟨rfl, rfl, rfl, by decide +kernel, rfl, by decide +kernel, by decide +kernel⟩
theorem ok_costP {f ft : Addr} {fd fdt : FuncData} (F : Fun K "cost" "cost" scost f fd) (Crows_expected : Cal P w K mg base 2 "rows_expected" ["way", "many"] (spExpected K) ft fdt) : FnOk P w K mg base CX0 3 f fd ["plan", "counts"] (spCost K) := by
  refine F.ok scCostP (fun vs H Q E h => ?_) (fun cdv A outer s H vs Q E hr h => ?_)
  · obtain ⟨v, ws, d, cs, rfl, _⟩ := h
    rfl
  · obtain ⟨v, ws, d, cs, rfl, hp, hc, ht, ck, k⟩ := h
    have hr1 : Room 2 _ := hr.mono (by decide)
    refine ⟨_, (pss_cons (ps_set (i := 2) scCostP.nd rfl (Or.inl rfl) pe_int)
      (pss_cons (ps_set (i := 3) scCostP.nd rfl (Or.inl rfl) pe_int)
      (pss_cons (ps_for PassesOwn.never rfl (RK.piT (K := K) (pv 0)) (pg_name (i := 4) scCostP.nd rfl (Or.inl rfl))
        (pss_cons (ps_set (i := 3) scCostP.nd rfl (Or.inl rfl) (pe_op op_mul (pv 3) (pe_call Crows_expected.G hr1 rfl Crows_expected.g Crows_expected.kp Crows_expected.b .nil pass0 (pa_cons (pv 4) (pa_cons (pe_dget (hu_of hr) (pv 1) (pe_ix (RK.ixT (K := K)) (pv 4) pe_int (fun _ _ => rfl)) (fun _ _ => rfl)) pa_nil)))))
        (pss_one (ps_aug (i := 2) scCostP.nd rfl (Or.inl rfl) (pv 3) ip_add))))
      (pss_one (ps_ret (pv 2)))))), ?_⟩
    obtain ⟨p, us, rfl, hpt, pw⟩ := hp
    refine sa1 (gn ?_)
    refine sa1 (gn ?_)
    refine ⟨_, rfl, p, rfl, ⟨_, hpt⟩, for_tup (K := K) (a := p) (xs := us) (fun i σ H' => ∃ v4, σ = [some (.ref p), some (.ref d), some (.int (costP cs (ws.take i)).1), some (.int (costP cs (ws.take i)).2), v4] ∧ H' = H)
      ⟨none, rfl, rfl⟩ (fun i σ H' _ ⟨_, _, e⟩ => e ▸ hpt) ?_ ?_⟩
    · rintro i u σ H1 hi ⟨v4, rfl, rfl⟩
      obtain ⟨w', hw', r⟩ := pw_at pw hi
      obtain ⟨q, xs, rfl, hq, at1⟩ := way_tab r
      obtain ⟨ht1, wok⟩ := ht w' (List.mem_of_getElem? hw')
      obtain ⟨n, en⟩ := look_some ht1
      obtain ⟨kvs, hd, pr⟩ := id hc
      have nb := ck _ (look_mem en)
      rcases pr_look w'.tab pr with ⟨e1, _⟩ | ⟨x, v, e1, e2, e3⟩
      · rw [en] at e1; cases e1
      obtain rfl : n = x := by rw [en] at e1; exact Option.some.inj e1
      have e3 : v = .int n := e3
      subst e3
      have tb : -20000 ≤ takenF n w' ∧ takenF n w' ≤ 20000 := taken_ok wok nb.1 nb.2
      have ec : cntOf cs w'.tab = n := by unfold cntOf; rw [en]; rfl
      have tk : ws.take (i + 1) = ws.take i ++ [w'] := by rw [List.take_add_one, hw']; rfl
      have e5 : costP cs (ws.take (i + 1)) = ((costP cs (ws.take i)).1 + (costP cs (ws.take i)).2 * takenF n w', (costP cs (ws.take i)).2 * takenF n w') := by
        rw [tk]
        unfold costP
        rw [List.foldl_append]
        show (_ + _ * takenF (cntOf cs w'.tab) w', _ * takenF (cntOf cs w'.tab) w') = _
        rw [ec]
      have dg : DGet _ d (V.str w'.tab) (some (.int n)) := .inl ⟨kvs, .inr w'.tab, .inl hd, rfl, e2.symm⟩
      refine gn ?_
      refine sa1 ⟨_, rfl, _, rfl, _, rfl, _, rfl, q, xs, 1, .str w'.tab, rfl, rfl, hq, at1, d, _, rfl, dg, ?_⟩
      refine ⟨.ref q, w', n, rfl, r, wok, _, _, rfl, rfl, .inr ⟨by omega, by omega⟩, gn ⟨_, rfl, _, rfl, _, _, rfl, rfl, some (.ref q), ?_, rfl⟩⟩
      rw [e5]
      rfl
    · rintro σ H1 ⟨v4, rfl, rfl⟩
      refine ⟨_, rfl, ?_⟩
      have el : ws.take us.length = ws := by rw [Paired.length pw]; exact List.take_length
      rw [el]
      exact k _ (Same.refl _)
end
end K06

set_option Elab.async false
set_option maxRecDepth 100000
set_option maxHeartbeats 1000000
namespace K06
open PySem L2 LamX NdefX
/-! ### the best plan -/
/-- all plans that begin otherwise are the same: what stands but tables -/
abbrev lamQ : Str := ((("best" : String) : Str) ++ ((".<locals>." : String) : Str)) ++ (("<lambda>" : String) : Str)
abbrev Tb (PB : Addr) : List (Addr × Str) := [(PB, lamQ)]
theorem extT {K : PySem.W.Frag} {H H' : Hp} (e : ExtN H H') {t : Addr} {xs : List V} (h : SqT K H t xs) : SqT K H' t xs := by
  rcases h with (h | ⟨o, h⟩) | h
  · exact .inl (.inl (e _ _ h fun ps z => by cases z))
  · exact .inl (.inr ⟨o, e _ _ h fun ps z => by cases z⟩)
  · exact .inr h
theorem extTr {K : PySem.W.Frag} {H H' : Hp} (e : ExtN H H') {v : V} {t : Tr} (h : TrAt K H v t) : TrAt K H' v t := TrAt.mono (fun _ _ q => extT e q) h
theorem extP {K : PySem.W.Frag} {H H' : Hp} (e : ExtN H H') {v : V} {ws : List Way} (h : PlanAt K H v ws) : PlanAt K H' v ws := h.mono fun _ _ q => extT e q
theorem extC {H H' : Hp} (e : ExtN H H') {d : Addr} {cs : List (Str × Int)} (h : CntAt H d cs) : CntAt H' d cs := by
  obtain ⟨kvs, hd, p⟩ := h
  exact ⟨kvs, e _ _ hd (fun ps z => by cases z), pr_mono (fun v x e => e) p⟩
def spBestT (K : PySem.W.Frag) (PB : Addr) : Sp := fun vs H Q _ => ∃ (tt d l e : Addr) (cv : V) (sh : List (Str × List Str)) (ts : List Str) (c : Option Tr) (il : List (Str × Str)) (cs : List (Str × Int)), vs = [.ref tt, cv, .ref d, .ref l, .ref e] ∧
  SqT K H tt (ts.map V.str) ∧ CondAt K H cv c ∧ ShapesAt K H d sh ∧ IxAt K H l il ∧ IsShapes sh ∧ TsOk sh ts ∧ CdIn (flOf sh ts) 8 c ∧ (∀ q ∈ il, InSh sh q) ∧ CntAt H e cs ∧ CntOk cs ∧ (∀ t ∈ ts, t ∈ cs.map (·.1)) ∧ Tabs (Tb PB) H ∧
  ∀ (v : V) (ws : List Way) (H' : Hp), ExtN H H' → Tabs (Tb PB) H' → PlanAt K H' v ws → IsBest cs (AP sh ts c il) ws → Q v H'
theorem plans_refs {K : PySem.W.Frag} {H : Hp} : ∀ {us : List V} {ps : List (List Way)}, Paired (PlanAt K H) us ps → ∃ as : List Addr, us = as.map V.ref
  | _, _, .nil => ⟨[], rfl⟩
  | _, _, .cons ⟨p, _, e, _⟩ r => by
    obtain ⟨as, e2⟩ := plans_refs r
    exact ⟨p :: as, by rw [e, e2]; rfl⟩
section
variable {P : Program} {w : World} {K : PySem.W.Frag} {mg : Str → Option Value} {base : Heap}
/-- a def by its body, its code object known -/
theorem okC {x qual : Str} {st : Stmt} {f : Addr} {N ps : List Str} {k : Nat} {sp : Sp} {oc : Value} {od an : Option Addr} {osl : Array (Option Value)} {kV doc pm cdv ct : Value} (lk : K.lookup f = some ⟨oc, od, .func (PySem.W.fnOf x qual (defArgs st) (defBody st) (defScope st) .none kV doc pm an cdv ct), osl⟩)
    (hcd : PySem.W.codeIn K cdv qual = true) (S : FnScope N ps (defScope st)) (len : ∀ vs H Q E, sp vs H Q E → vs.length = ps.length)
    (hbody : ∀ (A : Around) (outer : List Env) (s : Shared) (H : Hp) (vs : List V) (Q : VK) (E : XK), Room k (A.deeper (PyProof.Rows.envOfC qual (defScope st) s.heap.objs.size f cdv)) → sp vs H Q E →
      ∃ t, PSs (cxOf CX0 P w K mg base N qual (defScope st) f cdv A outer s H E).nox (defBody st) t ∧ t { nx := fun _ H' => Q .non H', rt := Q } (L2.start N vs) H) : FnOk P w K mg base CX0 (k + 1) f (PySem.W.fnOf x qual (defArgs st) (defBody st) (defScope st) .none kV doc pm an cdv ct) ps sp := by
  refine fn_of lk hcd S len fun A outer s H vs Q E hr hsp => ?_
  obtain ⟨t, h, q⟩ := hbody A outer s H vs Q E hr hsp
  exact ⟨t, h.nox, q⟩
theorem scBest : FnScope ["tables", "cond", "shapes", "indexes", "counts"] ["tables", "cond", "shapes", "indexes", "counts"] (defScope sbest) := ⟨rfl, rfl, rfl, by decide +kernel, rfl, by decide +kernel, by decide +kernel⟩
theorem ok_best {PB cB f f1 f2 : Addr} {fd1 fd2 : FuncData} {oc : Value} {od an : Option Addr} {osl : Array (Option Value)} {kV doc pm ct : Value} (lk : K.lookup f = some ⟨oc, od, .func (PySem.W.fnOf "best" "best" (defArgs sbest) (defBody sbest) (defScope sbest) .none kV doc pm an (.ref cB) ct), osl⟩)
    (hcd : PySem.W.codeIn K (.ref cB) "best" = true) (TB : TabB base mg cB PB) (TM : TxtM mg) (Call_plans : Cal P w K mg base 6 "all_plans" ["tables", "cond", "shapes", "indexes"] (spAllX K) f1 fd1) (Ccost : Cal P w K mg base 3 "cost" ["plan", "counts"] (spCost K) f2 fd2) :
    FnOk P w K mg base CX0 7 f (PySem.W.fnOf "best" "best" (defArgs sbest) (defBody sbest) (defScope sbest) .none kV doc pm an (.ref cB) ct) ["tables", "cond", "shapes", "indexes", "counts"] (spBestT K PB) := by
  refine okC lk hcd scBest (fun vs H Q E h => ?_) (fun A outer s H vs Q E hr h => ?_)
  · obtain ⟨tt, d, l, e, cv, sh, ts, c, il, cs, rfl, _⟩ := h
    rfl
  · obtain ⟨tt, d, l, e, cv, sh, ts, c, il, cs, rfl, ht, C, S, Ix, I, to, ci, inx, hc, ck, tcs, hT, k⟩ := h
    have hr1 : Room 6 _ := hr
    refine ⟨_, (pss_one (ps_ret (ML.pe_minLam (K := K) (T := Tb PB) (c := cB) (P := PB) (k := 3) (N := ["plan", "counts"]) (fr := ["counts"]) (js := [4]) rfl (by rfl) TM.min
      (pe_call Call_plans.G hr1 rfl Call_plans.g Call_plans.kp Call_plans.b .nil pass0 (pa_cons (pv 0) (pa_cons (pv 1) (pa_cons (pv 2) (pa_cons (pv 3) pa_nil))))) TB rfl (List.mem_singleton.mpr rfl) (fun q m _ => by rw [List.mem_singleton.mp m]; rfl) (nscope_by (by decide +kernel))
      (fun y hy e => by
        have hy : y ∈ [((Str.ofString "plan", PySem.NameKind.local) : Str × PySem.NameKind), (Str.ofString "counts", PySem.NameKind.free), (Str.ofString "cost", PySem.NameKind.globalImplicit)] := hy
        simp only [List.mem_cons, List.mem_nil_iff, or_false] at hy
        rcases hy with rfl | rfl | rfl
        · cases e
        · exact .inl rfl
        · cases e) (fun y hy => by
        rw [List.mem_singleton.mp hy]
        exact List.mem_cons_of_mem _ List.mem_cons_self) rfl rfl (fun _ _ _ _ _ _ => rfl) (hr1.mono (by decide))
      (fun c' f' A' outer' s' H' hr2 => pe_call Ccost.G hr2 (by rfl) Ccost.g Ccost.kp Ccost.b .nil pass0 (pa_cons (pv 0) (pa_cons (pv 1) pa_nil)))))), ?_⟩
    obtain ⟨t0, nd, l3, tin⟩ := id to
    have okAP := plans_AP.ok (il := il) I to ci inx
    have neAP := plans_AP.some (il := il) I to ci inx
    refine ⟨_, rfl, _, rfl, _, rfl, _, rfl, tt, d, l, cv, sh, ts, c, il, rfl, ht, C, S, Ix, I, to, ci, (fun q m _ => inx q m), fun r H1 s1 r0 pl => ?_⟩
    obtain ⟨us, hr', pu⟩ := pl
    generalize AP sh ts c il = aps at okAP neAP pu k
    obtain ⟨as, rfl⟩ := plans_refs pu
    have las : as.length = aps.length := by have := Paired.length pu; rwa [List.length_map] at this
    have hT1 : Tabs (Tb PB) H1 := hT.ext fun b o h => s1 _ _ h
    have at_ : ∀ (i : Nat) (p : Addr), as[i]? = some p → ∃ ws, aps[i]? = some ws ∧ PlanAt K H1 (.ref p) ws := fun i p h => pw_at pu (by rw [List.getElem?_map, h]; rfl)
    have hc1 := hc.keep (KeepN.of s1)
    refine ⟨r, as, fun i => costF cs ((aps[i]?).getD []), fun H' => ExtN H1 H' ∧ Tabs (Tb PB) H', rfl, fun z => ?_, hT1, fun H2 e t => ⟨e, t⟩, fun H' r' => SqL.of (r'.1 _ _ hr' fun ps z => by cases z), fun i p H' hi r' => ?_, fun i p H' hi hle hlt r' => ?_⟩
    · rw [z] at las
      exact neAP (List.eq_nil_of_length_eq_zero las.symm)
    · obtain ⟨eN, tN⟩ := r'
      obtain ⟨ws, hws, hpl⟩ := at_ i p hi
      refine ⟨_, rfl, _, rfl, .ref p, ws, e, cs, rfl, extP eN hpl, extC eN hc1, fun w' m => ?_, ck, fun H3 s3 => ⟨?_, ⟨eN.trans (ExtN.of s3), tN.ext fun b o h => s3 _ _ h⟩, ExtN.of s3⟩⟩
      · obtain ⟨h1, h2, _⟩ := okAP ws (List.mem_of_getElem? hws) w' m
        exact ⟨tcs _ h1, h2⟩
      · show V.int (costF cs ws) = .int (costF cs ((aps[i]?).getD []))
        rw [hws]
        rfl
    · obtain ⟨eN, tN⟩ := r'
      obtain ⟨ws, hws, hpl⟩ := at_ i p hi
      have ei : (aps[i]?).getD [] = ws := by rw [hws]; rfl
      refine k (.ref p) ws H' ((ExtN.of s1).trans eN) tN (extP eN hpl) ⟨i, hws, fun q m => ?_, fun j q hj hq => ?_⟩
      · obtain ⟨j, hj⟩ := List.mem_iff_getElem?.mp m
        have h : costF cs ((aps[i]?).getD []) ≤ costF cs ((aps[j]?).getD []) := hle j (by rw [las]; exact (List.getElem?_eq_some_iff.mp hj).1)
        rw [ei, hj] at h
        exact h
      · have h : costF cs ((aps[i]?).getD []) < costF cs ((aps[j]?).getD []) := hlt j hj
        rw [ei, hq] at h
        exact h
end
end K06

set_option maxHeartbeats 1000000
set_option linter.all false
namespace K06
open PySem L2 LamX
/-! the law of k24 -/
theorem HAt.extN {H H' : Hp} {a b : Addr} (B : HAt H a b) (e : ExtN H H') : HAt H' a b := by
  obtain ⟨z, p, cs, h1, h2, h3⟩ := B
  exact ⟨z, p, cs, e _ _ h1 (fun ps z => by cases z), e _ _ h2 (fun ps z => by cases z), h3⟩
theorem tabs_keep {PB : Addr} {H H' : Hp} {a b : Addr} (B : HAt H a b) (k : Keep a b H H') (T : Tabs (Tb PB) H) : Tabs (Tb PB) H' := fun p hp => by
  obtain ⟨ps, h1, h2, h3⟩ := T p hp
  obtain ⟨z, p', cs, b1, b2, b3⟩ := B
  have na : ∀ x o, H x = some o → (∀ xs, o ≠ .lst xs) → x ≠ a ∧ x ≠ b := fun x o h n => ⟨fun z => by rw [z, b1] at h; exact n _ (Option.some.inj h).symm, fun z => by rw [z, b2] at h; exact n _ (Option.some.inj h).symm⟩
  obtain ⟨n1, n2⟩ := na _ _ h1 fun xs z => by cases z
  refine ⟨ps, k _ _ n1 n2 h1, h2, fun pos cv hc => ?_⟩
  obtain ⟨c, e1, e2⟩ := h3 pos cv hc
  obtain ⟨m1, m2⟩ := na _ _ e2 fun xs z => by unfold CodeO at z; cases z
  exact ⟨c, e1, k _ _ m1 m2 e2⟩
theorem flIx {K : PySem.W.Frag} {H : Hp} {l : Addr} {il : List (Str × Str)} (h : FlAt K H l il) : IxAt K H l il := let ⟨vs, h1, p, o⟩ := h; ⟨vs, .inr h1, p, o⟩
def spLawT (K : PySem.W.Frag) (PB : Addr) : Sp := fun vs H Q _ => ∃ (a : Addr) (ns : List Int), vs = [.ref a] ∧ SqL K H a (ns.map V.int) ∧ ns.length ≤ 63 ∧ Tabs (Tb PB) H ∧ ∀ H', Q (.bl true) H'
structure Txt24 (mg : Str → Option Value) : Prop extends Txt6 mg where
  set : mg "set" = none
section
variable {P : Program} {w : World} {K : PySem.W.Frag} {mg : Str → Option Value} {base : Heap}
/-- how many rows each table has, drawn -/
theorem te_counts {σ : L2.St} {H : Hp} {Q : VK} {a b d : Addr} {sh : List (Str × List Str)} {x0 x2 x4 x5 x6 x7 x8 x9 x10 x11 x12 x13 x14 x15 x16 : Option V} (hσ : σ = [x0, some (.ref a), x2, some (.ref d), x4, x5, x6, x7, x8, x9, x10, x11, x12, x13, x14, x15, x16]) (B : HAt H a b) (S : ShapesAt K H d sh) (I : IsShapes sh)
    (k : ∀ (e : Addr) (H' : Hp) (cs : List (Str × Int)), HAt H' a b → Keep a b H H' → CntAt H' e cs → CntOk cs → (∀ t ∈ sh.map (·.1), t ∈ cs.map (·.1)) → Q (.ref e) H') :
    tCB (RK.rDictQ K) (tCons (tLc (iList K (tCB SRT (tCons (tVar 3) tNil))) (gName 13) tYes
      (tTup (tCons (tVar 13) (tCons (tCall spNext [] E0 (tCons (tVar 1) (tCons (tC (V.int 30)) tNil))) tNil)))
      (List.map (fun x => x.snd) [(Str.ofString "_law_table", 13)])) tNil) σ H Q := by
  obtain ⟨kvs, hd, pr⟩ := id S
  have n64 : (sh.map (·.1)).length < 64 := by rw [List.length_map]; have := I.few; omega
  subst hσ
  refine ⟨_, rfl, d, kvs, sh.map (·.1), rfl, Rd.of hd, pr_keys pr, n64, fun ys g perm _ hg => ?_⟩
  have s1 := Same.new (o := .lst (ys.map V.str)) hg
  have B1 := B.same s1
  have ng := B.ne hg
  have ly : ys.length ≤ 3 := by rw [perm.length_eq, List.length_map]; exact I.few
  have ndn : (sh.map (·.1)).Nodup := by
    rw [I.names]
    exact List.Sublist.nodup (List.take_sublist _ _) (by decide +kernel)
  have ndy : ys.Nodup := perm.nodup_iff.mpr ndn
  refine ⟨g, rfl, ⟨_, SqL.of upd_same⟩, fun D hD => ?_⟩
  have nD := B1.ne hD
  generalize hH1 : upd H g (.lst (ys.map V.str)) = H1 at s1 B1 hD
  have hg1 : H1 g = some (.lst (ys.map V.str)) := by rw [← hH1]; exact upd_same
  refine lc_list (K := K) (a := g) (xs := ys.map V.str) (fun i H' => HAt H' a b ∧ Keep a b H1 H' ∧ ∃ (ps : List Addr) (cs : List (Str × Int)), H' D = some (.lst (ps.map V.ref)) ∧ Paired (fun p (q : Str × Int) => SqT K H' p [.str q.1, .int q.2]) ps cs ∧ cs.map (·.1) = ys.take i ∧ CntOk cs)
    ⟨B1.upd nD, Keep.same (Same.new hD), [], [], upd_same, .nil, rfl, (fun q m => by cases m)⟩ (fun i H' _ ⟨_, kp, _⟩ => SqL.of (kp g _ ng.1 ng.2 hg1)) ?_ ?_
  · rintro i y H2 hi ⟨B2, k2, ps, cs, hD2, pw, ec, ck⟩
    have hi1 : i < ys.length := by have q := (List.getElem?_eq_some_iff.mp hi).1; rw [List.length_map] at q; exact q
    obtain rfl : y = .str ys[i] := by rw [List.getElem?_map, List.getElem?_eq_getElem hi1] at hi; exact (Option.some.inj hi).symm
    have lps : ps.length = i := by
      have e := congrArg List.length ec
      rw [List.length_map, List.length_take] at e
      rw [Paired.length pw]
      omega
    refine ⟨rfl, _, rfl, _, rfl, a, b, 30, rfl, by decide, by decide, B2, fun r H6 r0 r1 B6 k26 => ⟨(by show 2 ≤ sizeLine; decide), fun p hp => ?_⟩⟩
    have s7 := Same.new (o := .tup [.str ys[i], .int r]) hp
    have hD7 := s7 _ _ (k26 D _ nD.1 nD.2 hD2)
    have kn : KeepN H2 (upd H6 p (.tup [.str ys[i], .int r])) := (k26.n B2).trans (KeepN.of s7)
    refine ⟨ps.map V.ref, hD7, Nat.lt_of_le_of_lt (show (ps.map V.ref).length ≤ 3 by rw [List.length_map]; omega) (by decide), (B6.same s7).upd nD, ?_, ps ++ [p], cs ++ [(ys[i], r)], ?_, ?_, ?_, ?_⟩
    · intro x o n1 n2 e
      rw [upd_ne (ne_of_none e hD)]
      exact s7 _ _ ((k2.trans k26) x o n1 n2 e)
    · rw [upd_same, List.map_append]; rfl
    · exact Paired.snoc (pw_imp (fun p' q' h => (KeepN.lst hD7).t (kn.t h)) pw) ((KeepN.lst hD7).t (SqT.of upd_same))
    · rw [List.map_append, ec, List.take_add_one, List.getElem?_eq_getElem hi1]; rfl
    · intro q' mq
      rcases List.mem_append.mp mq with mq | mq
      · exact ck q' mq
      · rw [List.mem_singleton.mp mq]
        exact ⟨r0, by show r ≤ 1000; omega⟩
  · rintro H2 ⟨B2, k2, ps, cs, hD2, pw, ec, ck⟩
    rw [List.length_map, List.take_length] at ec
    have ndc : ((([] : List (Str × Int)) ++ cs).map (·.1)).Nodup := by rw [List.nil_append, ec]; exact ndy
    refine ⟨D, ps, cs.map fun (q : Str × Int) => ((Sum.inr q.1 : Key), V.int q.2), rfl, SqL.of hD2, ?_, fun e he => ?_⟩
    · exact pw_dict pw
    · have s3 := Same.new (o := .dK (mergeK [] (cs.map fun (q : Str × Int) => ((Sum.inr q.1 : Key), V.int q.2)))) he
      have kk : Keep a b H (upd H2 e (.dK (mergeK [] (cs.map fun (q : Str × Int) => ((Sum.inr q.1 : Key), V.int q.2))))) := (Keep.same s1).trans (k2.trans (Keep.same s3))
      refine k e _ cs (B2.same s3) kk ⟨_, upd_same, cs_put cs [] [] .nil ndc⟩ ck fun t m => ?_
      rw [ec]
      exact perm.mem_iff.mpr m

/-! the indexes: sorted(set(few + more)) -/
theorem ks_of {K : PySem.W.Frag} {H : Hp} : ∀ {vs : List V} {il : List (Str × Str)}, Paired (FlR K H) vs il → ∃ ks : List (Addr × List Str), vs = ks.map (fun q => V.ref q.1) ∧ (∀ q ∈ ks, SqT K H q.1 (q.2.map V.str)) ∧ ks.map Prod.snd = il.map fun q => [q.1, q.2]
  | _, _, .nil => ⟨[], rfl, fun q m => (by cases m), rfl⟩
  | _, _, .cons ⟨p, e, h⟩ r => by
    obtain ⟨ks, e1, h1, e2⟩ := ks_of r
    refine ⟨(p, [_, _]) :: ks, by rw [List.map_cons, ← e1, e], fun q m => ?_, by rw [List.map_cons, List.map_cons, e2]⟩
    rcases List.mem_cons.mp m with z | z
    · rw [z]; exact h
    · exact h1 q z
def pairOf (k : List Str) : Str × Str := match k with
  | [a, b] => (a, b)
  | _ => (Str.empty, Str.empty)
theorem fl_of {K : PySem.W.Frag} {H : Hp} : ∀ {ks : List (Addr × List Str)}, (∀ q ∈ ks, SqT K H q.1 (q.2.map V.str)) → (∀ q ∈ ks, ∃ a b, q.2 = [a, b]) → Paired (FlR K H) (ks.map fun q => V.ref q.1) (ks.map fun q => pairOf q.2)
  | [], _, _ => .nil
  | (p, k) :: ks, h, g => by
    obtain ⟨a, b, e⟩ := g _ List.mem_cons_self
    have e : k = [a, b] := e
    subst e
    exact .cons ⟨p, rfl, h _ List.mem_cons_self⟩ (fl_of (fun q m => h q (List.mem_cons_of_mem _ m)) fun q m => g q (List.mem_cons_of_mem _ m))
theorem flds_in {t f : Str} (ht : t ∈ tabs) (hf : f ∈ flds) : [t, f] ∈ PT.U12 := by
  have key : (tabs.all fun t => flds.all fun f => PT.U12.any fun k => k == [t, f]) = true := by decide +kernel
  have z := List.all_eq_true.mp (List.all_eq_true.mp key t ht) f hf
  obtain ⟨k, mk, e⟩ := List.any_eq_true.mp z
  rw [← beq_iff_eq.mp e]
  exact mk
theorem sh_key {sh : List (Str × List Str)} {t : Str} {fs : List Str} (h : sh.lookup t = some fs) : t ∈ sh.map (·.1) := by
  induction sh with
  | nil => cases h
  | cons p r ih =>
    obtain ⟨k, x⟩ := p
    by_cases z : t = k
    · rw [z]; exact List.mem_cons_self
    · rw [List.lookup_cons, beq_eq_false_iff_ne.mpr z] at h
      exact List.mem_cons_of_mem _ (ih h)
theorem in_tabs {sh : List (Str × List Str)} (I : IsShapes sh) {q : Str × Str} (h : InSh sh q) : q.1 ∈ tabs ∧ q.2 ∈ flds := by
  obtain ⟨fs, e, m⟩ := h
  have mt := sh_key e
  obtain ⟨fs', n, e', _, _, ef⟩ := sh_look I mt
  rw [e] at e'
  injection e' with e'
  rw [e', ef] at m
  exact ⟨sh_names I mt, List.mem_of_mem_take m⟩
theorem te_more {σ : L2.St} {H : Hp} {Q : VK} {a b d l1 : Addr} {sh : List (Str × List Str)} {il1 : List (Str × Str)} {x0 x2 x5 x6 x7 x8 x9 x10 x11 x12 x13 x14 x15 x16 : Option V} (hσ : σ = [x0, some (.ref a), x2, some (.ref d), some (.ref l1), x5, x6, x7, x8, x9, x10, x11, x12, x13, x14, x15, x16]) (B : HAt H a b) (S : ShapesAt K H d sh) (I : IsShapes sh)
    (F1 : FlAt K H l1 il1) (ne : l1 ≠ a ∧ l1 ≠ b) (in1 : ∀ q ∈ il1, InSh sh q) (len : il1.length ≤ 12)
    (k : ∀ (r : Addr) (H' : Hp) (il : List (Str × Str)), HAt H' a b → Keep a b H H' → (r ≠ a ∧ r ≠ b) → FlAt K H' r il → (∀ q ∈ il, InSh sh q) → (∀ q ∈ il1, q ∈ il) → il.length ≤ 18 → Q (.ref r) H') :
    tCB (PT.rSortP K P w) (tCons (tCB (PT.rSetP K P w) (tCons (tOp rCat (tVar 4) (tCall (spIdx K) [] E0 (tCons (tVar 1) (tCons (tVar 3) tNil)))) tNil)) tNil) σ H Q := by
  subst hσ
  refine ⟨_, rfl, _, rfl, _, rfl, a, b, d, sh, rfl, B, S, I, fun r2 H2 il2 B2 k2 r20 F2 in2 len2 => ?_⟩
  have F1' := F1.keep B k2 ne.1 ne.2
  obtain ⟨vs1, h1, p1, o1⟩ := F1'
  obtain ⟨vs2, h2, p2, o2⟩ := F2
  have l1' : vs1.length = il1.length := Paired.length p1
  have l2' : vs2.length = il2.length := Paired.length p2
  refine ⟨l1, r2, vs1, vs2, rfl, rfl, h1, h2, Nat.le_trans (show vs1.length + vs2.length ≤ 24 by omega) (by decide), fun r3 r30 => ?_⟩
  have s3 := Same.new (o := .lst (vs1 ++ vs2)) r30
  have kn3 := KeepN.of s3
  obtain ⟨ks1, e1, q1, n1⟩ := ks_of (fl_mono (fun _ _ q => kn3.t q) p1)
  obtain ⟨ks2, e2, q2, n2⟩ := ks_of (fl_mono (fun _ _ q => kn3.t q) p2)
  have inU : ∀ q ∈ ks1 ++ ks2, ∃ x : Str × Str, q.2 = [x.1, x.2] ∧ InSh sh x := fun q m => by
    rcases List.mem_append.mp m with m | m
    · have z := List.mem_map_of_mem (f := Prod.snd) m
      rw [n1] at z
      obtain ⟨x, mx, ex⟩ := List.mem_map.mp z
      exact ⟨x, ex.symm, in1 x mx⟩
    · have z := List.mem_map_of_mem (f := Prod.snd) m
      rw [n2] at z
      obtain ⟨x, mx, ex⟩ := List.mem_map.mp z
      exact ⟨x, ex.symm, in2 x mx⟩
  have toU : ∀ q ∈ ks1 ++ ks2, q.2 ∈ PT.U12 := fun q m => by
    obtain ⟨x, ex, ix⟩ := inU q m
    rw [ex]
    exact flds_in (in_tabs I ix).1 (in_tabs I ix).2
  refine ⟨r3, ks1 ++ ks2, rfl, ?_, fun q m => ?_, toU, fun a4 L a40 sub all => ?_⟩
  · rw [List.map_append, ← e1, ← e2]
    exact SqL.of upd_same
  · rcases List.mem_append.mp m with m | m
    · exact q1 q m
    · exact q2 q m
  have s4 := Same.new (o := PT.SetP P w a4 L) a40
  have kn4 := KeepN.of s4
  have sqL : ∀ q ∈ L, SqT K (upd (upd H2 r3 (.lst (vs1 ++ vs2))) a4 (PT.SetP P w a4 L)) q.1 (q.2.map V.str) := fun q m => by
    rcases List.mem_append.mp (sub q m) with z | z
    · exact kn4.t (q1 q z)
    · exact kn4.t (q2 q z)
  refine ⟨a4, L, rfl, upd_same, sqL, fun q m => toU q (sub q m), fun L' p pm l18 p0 => ?_⟩
  have s5 := Same.new (o := .lst (L'.map fun q => V.ref q.1)) p0
  have s35 := s3.trans (s4.trans s5)
  have nk : ∀ q ∈ L', ∃ x : Str × Str, q.2 = [x.1, x.2] ∧ InSh sh x := fun q m => inU q (sub q (pm.mem_iff.mp m))
  refine k p _ (L'.map fun q => pairOf q.2) (B2.same s35) (k2.trans (Keep.same s35)) ((B2.same (s3.trans s4)).ne p0) ⟨_, upd_same, fl_of (fun q m => (KeepN.of s5).t (sqL q (pm.mem_iff.mp m))) fun q m => ?_, fun x mx => ?_⟩ (fun x mx => ?_) (fun x mx => ?_) ?_
  · obtain ⟨x, ex, _⟩ := nk q m
    exact ⟨x.1, x.2, ex⟩
  · obtain ⟨q, mq, rfl⟩ := List.mem_map.mp mx
    obtain ⟨x, ex, ix⟩ := nk q mq
    rw [ex]
    exact ⟨ok_tabs _ (in_tabs I ix).1, ok_flds _ (in_tabs I ix).2⟩
  · obtain ⟨q, mq, rfl⟩ := List.mem_map.mp mx
    obtain ⟨x, ex, ix⟩ := nk q mq
    rw [ex]
    exact ix
  · have z : [x.1, x.2] ∈ ks1.map Prod.snd := by rw [n1]; exact List.mem_map.mpr ⟨x, mx, rfl⟩
    obtain ⟨q, mq, eq⟩ := List.mem_map.mp z
    have z2 := all q (List.mem_append_left _ mq)
    obtain ⟨q', mq', eq'⟩ := List.mem_map.mp z2
    refine List.mem_map.mpr ⟨q', pm.mem_iff.mpr mq', ?_⟩
    rw [eq', eq]
    rfl
  · rw [List.length_map, pm.length_eq]
    exact l18
end
end K06

set_option maxHeartbeats 1000000
set_option linter.all false
namespace K06
open PySem L2 LamX
/-! k24: the plans of both, those of the one among the other's, what they cost -/
structure Asked (K : PySem.W.Frag) (H : Hp) (d p tt : Addr) (cv : V) (sh : List (Str × List Str)) (ts : List Str) (c : Option Tr) (x0 x1 x2 x5 x6 : V) : Prop where
  tree : SqT K H p [x0, x1, x2, .ref tt, cv, x5, x6]
  tbls : SqT K H tt (ts.map V.str)
  cond : CondAt K H cv c
  shps : ShapesAt K H d sh
  isSh : IsShapes sh
  tsOk : TsOk sh ts
  cdIn : CdIn (flOf sh ts) 8 c
theorem Asked.keep {K : PySem.W.Frag} {H H' : Hp} {d p tt : Addr} {cv : V} {sh : List (Str × List Str)} {ts : List Str} {c : Option Tr} {x0 x1 x2 x5 x6 : V} (k : KeepN H H') (h : Asked K H d p tt cv sh ts c x0 x1 x2 x5 x6) : Asked K H' d p tt cv sh ts c x0 x1 x2 x5 x6 :=
  ⟨k.t h.tree, k.t h.tbls, h.cond.keep k, h.shps.keep k, h.isSh, h.tsOk, h.cdIn⟩
theorem plans_same {K : PySem.W.Frag} {H H' : Hp} (s : Same H H') {r : Addr} {ps : List (List Way)} (h : PlansAt K H r ps) : PlansAt K H' r ps := by
  obtain ⟨us, hr, p⟩ := h
  exact ⟨us, s _ _ hr, pw_imp (fun x y q => PlanAt.mono (fun _ _ z => (KeepN.of s).t z) q) p⟩
section
variable {P : Program} {w : World} {K : PySem.W.Frag} {mg : Str → Option Value} {base : Heap}
theorem te_plans2 {σ : L2.St} {H : Hp} {Q : VK} {d p tt l1 l2 : Addr} {cv : V} {sh : List (Str × List Str)} {ts : List Str} {c : Option Tr} {y0 y1 y2 y5 y6 : V} {il1 il2 : List (Str × Str)} {x0 x1 x2 x7 x8 x9 x10 x11 x12 x13 x14 x15 x16 : Option V}
    (hσ : σ = [x0, x1, x2, some (.ref d), some (.ref l1), some (.ref l2), some (.ref p), x7, x8, x9, x10, x11, x12, x13, x14, x15, x16]) (A : Asked K H d p tt cv sh ts c y0 y1 y2 y5 y6) (F1 : FlAt K H l1 il1) (F2 : FlAt K H l2 il2) (in1 : ∀ q ∈ il1, InSh sh q) (in2 : ∀ q ∈ il2, InSh sh q)
    (k : ∀ (D r1 r2 : Addr) (H' : Hp), Same H H' → H' D = some (.lst [.ref r1, .ref r2]) → H r1 = none → H r2 = none → PlansAt K H' r1 (AP sh ts c il1) → PlansAt K H' r2 (AP sh ts c il2) → Q (.ref D) H') :
    tLc (iTup K (tTup (tCons (tVar 4) (tCons (tVar 5) tNil)))) (gName 9) tYes
      (tCall (spAllX K) [] E0 (tCons (tOp (rIxT K) (tVar 6) (tC (V.int 3))) (tCons (tOp (rIxT K) (tVar 6) (tC (V.int 4))) (tCons (tVar 3) (tCons (tVar 9) tNil)))))
      (List.map (fun x => x.snd) [(Str.ofString "_law_some_here", 9)]) σ H Q := by
  subst hσ
  refine ⟨_, rfl, _, rfl, (by show 2 ≤ sizeLine; decide), fun t t0 => ⟨t, rfl, ⟨_, SqT.of upd_same⟩, fun D hD => ?_⟩⟩
  have s1 := Same.new (o := .tup [.ref l1, .ref l2]) t0
  generalize hH1 : upd H t (.tup [.ref l1, .ref l2]) = H1 at s1 hD
  have ht1 : H1 t = some (.tup [.ref l1, .ref l2]) := by rw [← hH1]; exact upd_same
  have both : Paired (fun (v : V) (il : List (Str × Str)) => ∃ l, v = .ref l ∧ FlAt K H l il ∧ ∀ q ∈ il, InSh sh q) [.ref l1, .ref l2] [il1, il2] := .cons ⟨l1, rfl, F1, in1⟩ (.cons ⟨l2, rfl, F2, in2⟩ .nil)
  refine lc_tup (K := K) (a := t) (xs := [.ref l1, .ref l2]) (fun i H' => Same H1 H' ∧ ∃ us, H' D = some (.lst us) ∧ us.length = i ∧ Paired (fun (v : V) (il : List (Str × Str)) => ∃ r, v = .ref r ∧ r ≠ D ∧ H r = none ∧ PlansAt K H' r (AP sh ts c il)) us ([il1, il2].take i))
    ⟨Same.new hD, [], upd_same, rfl, .nil⟩ (fun i H' _ ⟨sm, _⟩ => SqT.of (sm _ _ ht1)) ?_ ?_
  · rintro i x H2 hi ⟨sm, us, hD2, lus, pw⟩
    obtain ⟨il, hil, l, rfl, Fl, inl⟩ := pw_at both hi
    have s2 := s1.trans sm
    have A2 := A.keep (KeepN.of s2)
    have li : i < 2 := (List.getElem?_eq_some_iff.mp hi).1
    refine ⟨rfl, _, rfl, p, _, 3, _, rfl, rfl, A2.tree, atI_of (by decide) rfl, _, rfl, p, _, 4, _, rfl, rfl, A2.tree, atI_of (by decide) rfl, _, rfl, _, rfl, tt, d, l, cv, sh, ts, c, il, rfl, A2.tbls, A2.cond, A2.shps, flIx (Fl.same s2), A2.isSh, A2.tsOk, A2.cdIn, (fun q m _ => inl q m), fun r H3 s3 r0 R3 => ?_⟩
    have nrD : r ≠ D := fun e => by rw [e, hD2] at r0; cases r0
    have hD3 := s3 _ _ hD2
    have up : ∀ {q : Addr} {ps : List (List Way)}, q ≠ D → PlansAt K H3 q ps → PlansAt K (upd H3 D (.lst (us ++ [.ref r]))) q ps := fun {q ps} n h => by
      obtain ⟨zs, hz, pz⟩ := h
      exact ⟨zs, by rw [upd_ne n]; exact hz, pw_imp (fun x y g => PlanAt.mono (fun _ _ g => (KeepN.lst hD3).t g) g) pz⟩
    have hr0 : H r = none := by
      cases z : H r with
      | none => rfl
      | some o => rw [s2 _ _ z] at r0; cases r0
    refine ⟨us, hD3, Nat.lt_of_le_of_lt (show us.length ≤ 2 by omega) (by decide), fun x o h => ?_, us ++ [.ref r], upd_same, by rw [List.length_append, lus]; rfl, ?_⟩
    · rw [upd_ne (ne_of_none h hD)]
      exact s3 _ _ (sm _ _ h)
    · rw [List.take_add_one, hil]
      exact Paired.snoc (pw_imp (fun v z ⟨q, e, qD, q0, g⟩ => ⟨q, e, qD, q0, up qD (plans_same s3 g)⟩) pw) ⟨r, rfl, nrD, hr0, up nrD R3⟩
  · rintro H2 ⟨sm, us, hD2, _, pw⟩
    have pw : Paired (fun (v : V) (il : List (Str × Str)) => ∃ r, v = .ref r ∧ r ≠ D ∧ H r = none ∧ PlansAt K H2 r (AP sh ts c il)) us [il1, il2] := pw
    cases pw with
    | cons h1 pw =>
      cases pw with
      | cons h2 pw =>
        cases pw
        obtain ⟨r1, rfl, _, z1, g1⟩ := h1
        obtain ⟨r2, rfl, _, z2, g2⟩ := h2
        exact k D r1 r2 H2 (s1.trans sm) hD2 z1 z2 g1 g2
/-- those plans of more that are there with few -/
theorem te_left {σ : L2.St} {H : Hp} {Q : VK} {r1 r2 : Addr} {ps1 ps2 : List (List Way)} {x0 x1 x2 x3 x4 x5 x6 x9 x10 x11 x12 x13 x14 x15 x16 : Option V} (hσ : σ = [x0, x1, x2, x3, x4, x5, x6, some (.ref r1), some (.ref r2), x9, x10, x11, x12, x13, x14, x15, x16])
    (R1 : PlansAt K H r1 ps1) (R2 : PlansAt K H r2 ps2) (L1 : Laid ps1) (L2 : Laid ps2) (few : ps2.length ≤ 400000) (k : ∀ (D : Addr) (H' : Hp), Same H H' → PlansAt K H' D (ps2.filter (isIn ps1)) → Q (.ref D) H') :
    tLc (iList K (tVar 8)) (gName 11) (tTest (tOp (SX.rInDB K) (tVar 11) (tVar 7))) (tVar 11) (List.map (fun x => x.snd) [(Str.ofString "_law_plan", 11)]) σ H Q := by
  obtain ⟨us, hr, pw⟩ := id R2
  subst hσ
  refine ⟨_, rfl, r2, rfl, ⟨_, SqL.of hr⟩, fun D hD => ?_⟩
  refine lc_list (K := K) (a := r2) (xs := us) (fun i H' => Same H H' ∧ ∃ zs, H' D = some (.lst zs) ∧ Paired (PlanAt K H) zs ((ps2.take i).filter (isIn ps1))) ⟨Same.new hD, [], upd_same, .nil⟩ (fun i H' _ ⟨sm, _⟩ => SqL.of (sm _ _ hr)) ?_ ?_
  · rintro i u H2 hi ⟨sm, zs, hD2, pz⟩
    obtain ⟨ws, hws, hp⟩ := pw_at pw hi
    have mws := List.mem_of_getElem? hws
    have li : i < ps2.length := (List.getElem?_eq_some_iff.mp hws).1
    have hp2 := hp.mono fun t xs q => (KeepN.of sm).t q
    refine ⟨rfl, _, rfl, _, rfl, encP ws, ps1.map encP, dpP hp2, .inl (dpL (plans_same sm R1)), (layP (L2 ws mws)).2, (layL L1).2, _, rfl, ?_⟩
    show if isIn ps1 ws = true then _ else _
    have nxt : (ps2.take (i + 1)).filter (isIn ps1) = (ps2.take i).filter (isIn ps1) ++ [ws].filter (isIn ps1) := by
      rw [List.take_add_one, hws, List.filter_append]
      rfl
    by_cases q : isIn ps1 ws = true
    · rw [if_pos q]
      have ez : [ws].filter (isIn ps1) = [ws] := by rw [List.filter_cons, if_pos q]; rfl
      refine ⟨_, rfl, zs, hD2, Nat.lt_of_le_of_lt (show zs.length ≤ 400000 by
        have z := Paired.length pz
        have z2 := List.length_filter_le (isIn ps1) (ps2.take i)
        rw [List.length_take] at z2
        omega) (by decide), fun x o h => ?_, zs ++ [u], upd_same, ?_⟩
      · rw [upd_ne (ne_of_none h hD)]
        exact sm _ _ h
      · rw [nxt, ez]
        exact Paired.snoc pz hp
    · rw [if_neg q]
      have ez : [ws].filter (isIn ps1) = [] := by rw [List.filter_cons, if_neg q]; rfl
      refine ⟨sm, zs, hD2, ?_⟩
      rw [nxt, ez, List.append_nil]
      exact pz
  · rintro H2 ⟨sm, zs, hD2, pz⟩
    have el : ps2.take us.length = ps2 := by rw [Paired.length pw]; exact List.take_length
    rw [el] at pz
    exact k D H2 sm ⟨zs, hD2, pw_imp (fun x y g => PlanAt.mono (fun _ _ z => (KeepN.of sm).t z) g) pz⟩
theorem str_shaped {t : Str} (h : PyData.strOk t = true) : SeqAt.shaped (.str t) = true := shaped_of (by simp [PyData.canLay0, h]) (by simp [PyData.depth])
theorem dp_strs {K : PySem.W.Frag} {H : Hp} : ∀ (ts : List Str), DpAll K H (ts.map V.str) (ts.map PyData.str)
  | [] => .nil
  | _ :: r => .cons (.str _) (dp_strs r)
theorem any_str (ts : List Str) (t : Str) : ((ts.map PyData.str).any fun z => PyData.eqv z (.str t)) = decide (t ∈ ts) := by
  by_cases m : t ∈ ts
  · rw [decide_eq_true m, List.any_eq_true]
    exact ⟨.str t, List.mem_map_of_mem m, by rw [evS]; exact beq_self_eq_true _⟩
  · rw [decide_eq_false m, List.any_eq_false]
    intro z mz e
    obtain ⟨q, mq, rfl⟩ := List.mem_map.mp mz
    rw [evS] at e
    exact m (beq_iff_eq.mp e ▸ mq)
/-- the indexes of the tables that are asked -/
theorem te_other {σ : L2.St} {H : Hp} {Q : VK} {d p tt l2 : Addr} {cv : V} {sh : List (Str × List Str)} {ts : List Str} {c : Option Tr} {y0 y1 y2 y5 y6 : V} {il2 : List (Str × Str)} {x0 x1 x2 x4 x7 x8 x9 x10 x11 x12 x13 x14 x15 x16 : Option V}
    (hσ : σ = [x0, x1, x2, some (.ref d), x4, some (.ref l2), some (.ref p), x7, x8, x9, x10, x11, x12, x13, x14, x15, x16]) (A : Asked K H d p tt cv sh ts c y0 y1 y2 y5 y6) (F2 : FlAt K H l2 il2) (len : il2.length ≤ 18)
    (k : ∀ (D : Addr) (H' : Hp), Same H H' → FlAt K H' D (il2.filter fun q => decide (q.1 ∈ ts)) → Q (.ref D) H') :
    tLc (iList K (tVar 5)) (gName 16) (tTest (tOp (SX.rInDB K) (tOp (rIxT K) (tVar 16) (tC (V.int 0))) (tOp (rIxT K) (tVar 6) (tC (V.int 3))))) (tVar 16) (List.map (fun x => x.snd) [(Str.ofString "_law_pair", 16)]) σ H Q := by
  obtain ⟨us, hr, pw, ok⟩ := id F2
  subst hσ
  have okt : ∀ t ∈ ts, PyData.strOk t = true := fun t m => ok_tabs _ (sh_names A.isSh (A.tsOk.2.2.2 t m))
  have lay := strs_shaped okt
  refine ⟨_, rfl, l2, rfl, ⟨_, SqL.of hr⟩, fun D hD => ?_⟩
  refine lc_list (K := K) (a := l2) (xs := us) (fun i H' => Same H H' ∧ ∃ zs, H' D = some (.lst zs) ∧ Paired (FlR K H) zs ((il2.take i).filter fun q => decide (q.1 ∈ ts))) ⟨Same.new hD, [], upd_same, .nil⟩ (fun i H' _ ⟨sm, _⟩ => SqL.of (sm _ _ hr)) ?_ ?_
  · rintro i u H2 hi ⟨sm, zs, hD2, pz⟩
    obtain ⟨q, hq, hp⟩ := pw_at pw hi
    have mq := List.mem_of_getElem? hq
    have li : i < il2.length := (List.getElem?_eq_some_iff.mp hq).1
    have A2 := A.keep (KeepN.of sm)
    obtain ⟨z, rfl, hz⟩ := id hp
    have hz2 := (KeepN.of sm).t hz
    refine ⟨rfl, _, rfl, z, _, 0, _, rfl, rfl, hz2, atI_of (by decide) rfl, _, rfl, p, _, 3, _, rfl, rfl, A2.tree, atI_of (by decide) rfl, .str q.1, ts.map PyData.str, .str _, .inr (.tup A2.tbls (dp_strs ts)), str_shaped (ok q mq).1, lay, _, rfl, ?_⟩
    rw [any_str]
    have nxt : (il2.take (i + 1)).filter (fun q => decide (q.1 ∈ ts)) = (il2.take i).filter (fun q => decide (q.1 ∈ ts)) ++ [q].filter (fun q => decide (q.1 ∈ ts)) := by
      rw [List.take_add_one, hq, List.filter_append]
      rfl
    by_cases g : q.1 ∈ ts
    · rw [decide_eq_true g]
      dsimp only
      rw [if_pos rfl]
      have ez : [q].filter (fun q => decide (q.1 ∈ ts)) = [q] := by rw [List.filter_cons, if_pos (decide_eq_true g)]; rfl
      refine ⟨_, rfl, zs, hD2, Nat.lt_of_le_of_lt (show zs.length ≤ 400000 by
        have z := Paired.length pz
        have z2 := List.length_filter_le (fun q : Str × Str => decide (q.1 ∈ ts)) (il2.take i)
        rw [List.length_take] at z2
        omega) (by decide), fun x o h => ?_, zs ++ [.ref z], upd_same, ?_⟩
      · rw [upd_ne (ne_of_none h hD)]
        exact sm _ _ h
      · rw [nxt, ez]
        exact Paired.snoc pz hp
    · rw [decide_eq_false g]
      dsimp only
      rw [if_neg (by decide)]
      have ez : [q].filter (fun q => decide (q.1 ∈ ts)) = [] := by rw [List.filter_cons, if_neg (by rw [decide_eq_false g]; decide)]; rfl
      refine ⟨sm, zs, hD2, ?_⟩
      rw [nxt, ez, List.append_nil]
      exact pz
  · rintro H2 ⟨sm, zs, hD2, pz⟩
    have el : il2.take us.length = il2 := by rw [Paired.length pw]; exact List.take_length
    rw [el] at pz
    exact k D H2 sm ⟨zs, hD2, fl_mono (fun _ _ q => (KeepN.of sm).t q) pz, fun q m => ok q (List.mem_filter.mp m).1⟩
/-- the tables of lambdas stay where lists alone change -/
theorem tabs_upd {PB D : Addr} {H : Hp} {xs : List V} {o' : HO} (h : H D = some (.lst xs)) (T : Tabs (Tb PB) H) : Tabs (Tb PB) (upd H D o') := fun p hp => by
  obtain ⟨ps, h1, h2, h3⟩ := T p hp
  have ne : ∀ {x o}, H x = some o → (∀ xs, o ≠ .lst xs) → x ≠ D := fun {x o} e n z => by rw [z, h] at e; exact n _ (Option.some.inj e).symm
  refine ⟨ps, by rw [upd_ne (ne h1 fun xs z => by cases z)]; exact h1, h2, fun pos cv hc => ?_⟩
  obtain ⟨c, e1, e2⟩ := h3 pos cv hc
  exact ⟨c, e1, by rw [upd_ne (ne e2 fun xs z => by unfold CodeO at z; cases z)]; exact e2⟩
theorem Asked.ext {K : PySem.W.Frag} {H H' : Hp} {d p tt : Addr} {cv : V} {sh : List (Str × List Str)} {ts : List Str} {c : Option Tr} {x0 x1 x2 x5 x6 : V} (e : ExtN H H') (h : Asked K H d p tt cv sh ts c x0 x1 x2 x5 x6) : Asked K H' d p tt cv sh ts c x0 x1 x2 x5 x6 := by
  refine ⟨extT e h.tree, extT e h.tbls, ?_, ?_, h.isSh, h.tsOk, h.cdIn⟩
  · cases c with
    | none => exact h.cond
    | some t => exact extTr e h.cond
  · obtain ⟨kvs, hd, pr⟩ := h.shps
    exact ⟨kvs, e _ _ hd (fun ps z => by cases z), pr_mono (fun v x ⟨t, z, q⟩ => ⟨t, z, extT e q⟩) pr⟩
theorem FlAt.ext {K : PySem.W.Frag} {H H' : Hp} (e : ExtN H H') {l : Addr} {fl : List (Str × Str)} (h : FlAt K H l fl) : FlAt K H' l fl := by
  obtain ⟨vs, hl, p, ok⟩ := h
  exact ⟨vs, e _ _ hl (fun ps z => by cases z), fl_mono (fun _ _ q => extT e q) p, ok⟩
/-- what the best ones of both cost -/
theorem te_costs2 {PB : Addr} {σ : L2.St} {H : Hp} {Q : VK} {d p tt l1 l2 e : Addr} {cv : V} {sh : List (Str × List Str)} {ts : List Str} {c : Option Tr} {y0 y1 y2 y5 y6 : V} {il1 il2 : List (Str × Str)} {cs : List (Str × Int)} {x0 x1 x2 x7 x8 x9 x10 x11 x13 x14 x15 x16 : Option V}
    (hσ : σ = [x0, x1, x2, some (.ref d), some (.ref l1), some (.ref l2), some (.ref p), x7, x8, x9, x10, x11, some (.ref e), x13, x14, x15, x16]) (plans : Plans AP) (A : Asked K H d p tt cv sh ts c y0 y1 y2 y5 y6) (F1 : FlAt K H l1 il1) (F2 : FlAt K H l2 il2) (in1 : ∀ q ∈ il1, InSh sh q) (in2 : ∀ q ∈ il2, InSh sh q)
    (C : CntAt H e cs) (ck : CntOk cs) (tcs : ∀ t ∈ ts, t ∈ cs.map (·.1)) (T : Tabs (Tb PB) H)
    (k : ∀ (D : Addr) (H' : Hp) (w1 w2 : List Way), ExtN H H' → Tabs (Tb PB) H' → H' D = some (.lst [.int (costF cs w1), .int (costF cs w2)]) → IsBest cs (AP sh ts c il1) w1 → IsBest cs (AP sh ts c il2) w2 → Q (.ref D) H') :
    tLc (iTup K (tTup (tCons (tVar 4) (tCons (tVar 5) tNil)))) (gName 9) tYes
      (tCall (spCost K) [] E0 (tCons (tCall (spBestT K PB) [] E0 (tCons (tOp (rIxT K) (tVar 6) (tC (V.int 3))) (tCons (tOp (rIxT K) (tVar 6) (tC (V.int 4))) (tCons (tVar 3) (tCons (tVar 9) (tCons (tVar 12) tNil)))))) (tCons (tVar 12) tNil)))
      (List.map (fun x => x.snd) [(Str.ofString "_law_some_here", 9)]) σ H Q := by
  subst hσ
  refine ⟨_, rfl, _, rfl, (by show 2 ≤ sizeLine; decide), fun t t0 => ⟨t, rfl, ⟨_, SqT.of upd_same⟩, fun D hD => ?_⟩⟩
  have s1 := Same.new (o := .tup [.ref l1, .ref l2]) t0
  generalize hH1 : upd H t (.tup [.ref l1, .ref l2]) = H1 at s1 hD
  have ht1 : H1 t = some (.tup [.ref l1, .ref l2]) := by rw [← hH1]; exact upd_same
  have both : Paired (fun (v : V) (il : List (Str × Str)) => ∃ l, v = .ref l ∧ FlAt K H l il ∧ ∀ q ∈ il, InSh sh q) [.ref l1, .ref l2] [il1, il2] := .cons ⟨l1, rfl, F1, in1⟩ (.cons ⟨l2, rfl, F2, in2⟩ .nil)
  have T1 : Tabs (Tb PB) H1 := T.ext s1
  refine lc_tup (K := K) (a := t) (xs := [.ref l1, .ref l2]) (fun i H' => ExtN H1 H' ∧ Tabs (Tb PB) H' ∧ ∃ us, H' D = some (.lst us) ∧ us.length = i ∧ Paired (fun (v : V) (il : List (Str × Str)) => ∃ ws, v = .int (costF cs ws) ∧ IsBest cs (AP sh ts c il) ws) us ([il1, il2].take i))
    ⟨ExtN.of (Same.new hD), T1.ext (Same.new hD), [], upd_same, rfl, .nil⟩ (fun i H' _ ⟨sm, _⟩ => SqT.of (sm _ _ ht1 fun ps z => by cases z)) ?_ ?_
  · rintro i x H2 hi ⟨sm, T2, us, hD2, lus, pw⟩
    obtain ⟨il, hil, l, rfl, Fl, inl⟩ := pw_at both hi
    have s2 : ExtN H H2 := (ExtN.of s1).trans sm
    have A2 := A.ext s2
    have li : i < 2 := (List.getElem?_eq_some_iff.mp hi).1
    refine ⟨rfl, _, rfl, p, _, 3, _, rfl, rfl, A2.tree, atI_of (by decide) rfl, _, rfl, p, _, 4, _, rfl, rfl, A2.tree, atI_of (by decide) rfl, _, rfl, _, rfl, _, rfl, tt, d, l, e, cv, sh, ts, c, il, cs, rfl, A2.tbls, A2.cond, A2.shps, flIx (Fl.ext s2), A2.isSh, A2.tsOk, A2.cdIn, inl, extC s2 C, ck, tcs, T2, fun v ws H3 eN T3 hv hb => ?_⟩
    obtain ⟨j, hj, _, _⟩ := id hb
    have mws := List.mem_of_getElem? hj
    have okw := plans.ok A2.isSh A2.tsOk A2.cdIn inl ws mws
    have hD3 := eN _ _ hD2 fun ps z => by cases z
    refine ⟨_, rfl, v, ws, e, cs, rfl, hv, extC (s2.trans eN) C, fun w mw => ⟨tcs _ (okw w mw).1, (okw w mw).2.1⟩, ck, fun H4 s4 => ?_⟩
    have hD4 := s4 _ _ hD3
    refine ⟨us, hD4, Nat.lt_of_le_of_lt (show us.length ≤ 2 by omega) (by decide), fun x o h n => ?_, tabs_upd hD4 (T3.ext s4), us ++ [.int (costF cs ws)], upd_same, by rw [List.length_append, lus]; rfl, ?_⟩
    · rw [upd_ne (ne_of_none h hD)]
      exact s4 _ _ (eN _ _ (sm _ _ h n) n)
    · rw [List.take_add_one, hil]
      exact Paired.snoc pw ⟨ws, rfl, hb⟩
  · rintro H2 ⟨sm, T2, us, hD2, _, pw⟩
    have pw : Paired (fun (v : V) (il : List (Str × Str)) => ∃ ws, v = .int (costF cs ws) ∧ IsBest cs (AP sh ts c il) ws) us [il1, il2] := pw
    cases pw with
    | cons h1 pw =>
      cases pw with
      | cons h2 pw =>
        cases pw
        obtain ⟨w1, rfl, g1⟩ := h1
        obtain ⟨w2, rfl, g2⟩ := h2
        exact k D H2 w1 w2 ((ExtN.of s1).trans sm) T2 hD2 g1 g2
end
end K06

set_option maxHeartbeats 1000000
set_option linter.all false
namespace K06
open PySem L2 LamX
section
variable {P : Program} {w : World} {K : PySem.W.Frag} {mg : Str → Option Value} {base : Heap}
theorem scLaw : FnScope ["_law_script", "_law_h", "_law_turn", "_law_shapes_here", "_law_few", "_law_more", "_law_tree", "_law_one", "_law_two", "_law_some_here", "_law_left", "_law_plan", "_law_counts", "_law_table", "_law_costs", "_law_other", "_law_pair"] ["_law_script"] (defScope slaw) := ⟨rfl, rfl, rfl, by decide +kernel, rfl, by decide +kernel, by decide +kernel⟩
theorem ok_law {PB : Addr} {n : Nat} {f f1 f2 f3 f4 f5 f6 f9 fa fb : Addr} {fd d1 d2 d3 d4 d5 d6 d9 da db : FuncData} (F : Fun K "law" "law" slaw f fd) (T : Txt24 mg) (plans : Plans AP) (Cmix : Cal P w K mg base n "_law_mix" ["_law_script", "_law_seed"] (spMix K) f1 d1) (Cnext : Cal P w K mg base n "_law_next" ["_law_h", "_law_many"] spNext f2 d2)
    (Cshapes : Cal P w K mg base n "_law_shapes" ["_law_h", "_law_many"] (spShapes K) f3 d3) (Cindexes : Cal P w K mg base n "_law_indexes" ["_law_h", "_law_shapes_here"] (spIdx K) f4 d4) (Clinked : Cal P w K mg base n "_law_linked" ["_law_h", "_law_tree", "_law_shapes_here"] (spLinked K) f5 d5)
    (Cask : Cal P w K mg base n "_law_ask" ["_law_h", "_law_shapes_here"] (spAsk K) f6 d6) (Ccost : Cal P w K mg base n "cost" ["plan", "counts"] (spCost K) f9 d9) (Call_plans : Cal P w K mg base n "all_plans" ["tables", "cond", "shapes", "indexes"] (spAllX K) fa da) (Cbest : Cal P w K mg base n "best" ["tables", "cond", "shapes", "indexes", "counts"] (spBestT K PB) fb db) :
    FnOk P w K mg base CX0 (n + 1) f fd ["_law_script"] (spLawT K PB) := by
  refine F.ok scLaw (fun vs H Q E h => ?_) (fun cdv A outer s H vs Q E hr h => ?_)
  · obtain ⟨l, ns, rfl, _⟩ := h
    rfl
  · obtain ⟨l, ns, rfl, hl, l63, hT, k⟩ := h
    have hr1 : Room n _ := hr
    refine ⟨_, (pss_cons (ps_set (i := 1) scLaw.nd rfl (Or.inr rfl) (pe_call Cmix.G hr1 (by rfl) Cmix.g Cmix.kp Cmix.b .nil pass0 (pa_cons (pv 0) (pa_cons pe_int pa_nil))))
      (pss_cons (ps_for PassesOwn.never rfl (pi_range1 rfl T.range (pa_cons pe_int pa_nil)) (pg_name (i := 2) scLaw.nd rfl (Or.inl rfl))
        (pss_cons (ps_set (i := 3) scLaw.nd rfl (Or.inr rfl) (pe_call Cshapes.G hr1 (by rfl) Cshapes.g Cshapes.kp Cshapes.b .nil pass0 (pa_cons (pv 1) (pa_cons pe_int pa_nil))))
        (pss_cons (ps_set (i := 4) scLaw.nd rfl (Or.inl rfl) (pe_call Cindexes.G hr1 (by rfl) Cindexes.g Cindexes.kp Cindexes.b .nil pass0 (pa_cons (pv 1) (pa_cons (pv 3) pa_nil))))
        (pss_cons (ps_set (i := 5) scLaw.nd rfl (Or.inl rfl) (pe_callB (PT.cr_sortP rfl) (by rfl) T.sorted (by decide +kernel) (pa_cons (pe_callTy (PT.cr_setP rfl (Nat.lt_of_le_of_lt (Nat.add_le_add_left (by decide) _) hr.units)) (by rfl) T.set (by decide +kernel) (pa_cons (pe_op op_cat (pv 4) (pe_call Cindexes.G hr1 (by rfl) Cindexes.g Cindexes.kp Cindexes.b .nil pass0 (pa_cons (pv 1) (pa_cons (pv 3) pa_nil)))) pa_nil)) pa_nil)))
        (pss_cons (ps_set (i := 6) scLaw.nd rfl (Or.inr rfl) (pe_call Clinked.G hr1 (by rfl) Clinked.g Clinked.kp Clinked.b .nil pass0 (pa_cons (pv 1) (pa_cons (pe_call Cask.G hr1 (by rfl) Cask.g Cask.kp Cask.b .nil pass0 (pa_cons (pv 1) (pa_cons (pv 3) pa_nil))) (pa_cons (pv 3) pa_nil)))))
        (pss_cons (ps_asg (pe_lc (own := [("_law_some_here", 9)]) rfl scLaw.nd (RK.piT (K := K) (pe_tup (pa_cons (pv 4) (pa_cons (pv 5) pa_nil)))) (blkOk_by (N := ["_law_script", "_law_h", "_law_turn", "_law_shapes_here", "_law_few", "_law_more", "_law_tree", "_law_one", "_law_two", "_law_some_here", "_law_left", "_law_plan", "_law_counts", "_law_table", "_law_costs", "_law_other", "_law_pair"]) (sc := defScope slaw) (by decide +kernel)) (fun _ _ _ _ _ => (pg_name (i := 9) scLaw.nd rfl (Or.inl rfl))) (fun _ _ _ _ _ => pts_nil) (fun _ _ _ _ _ => (pe_call Call_plans.G hr1 (by rfl) Call_plans.g Call_plans.kp Call_plans.b .nil pass0 (pa_cons (pe_ix (RK.ixT (K := K)) (pv 6) pe_int (fun _ _ => rfl)) (pa_cons (pe_ix (RK.ixT (K := K)) (pv 6) pe_int (fun _ _ => rfl)) (pa_cons (pv 3) (pa_cons (pv 9) pa_nil))))))) (pg_unl (n := 2) rfl (pgs_cons (pg_name (i := 7) scLaw.nd rfl (Or.inr rfl)) (pgs_cons (pg_name (i := 8) scLaw.nd rfl (Or.inl rfl)) pgs_nil))))
        (pss_cons (ps_setLc (i := 10) (own := [("_law_plan", 11)]) rfl scLaw.nd rfl rfl (sw_true rfl rfl rfl (by decide +kernel)) (RK.piL (K := K) (pv 8)) (blkOk_by (N := ["_law_script", "_law_h", "_law_turn", "_law_shapes_here", "_law_few", "_law_more", "_law_tree", "_law_one", "_law_two", "_law_some_here", "_law_left", "_law_plan", "_law_counts", "_law_table", "_law_costs", "_law_other", "_law_pair"]) (sc := defScope slaw) (by decide +kernel)) (fun _ _ _ _ _ => (pg_name (i := 11) scLaw.nd rfl (Or.inl rfl))) (fun _ _ _ _ _ => (pts_one (pt_cmpR (SX.inDB (K := K) (Nat.lt_of_succ_lt (room66 hr))) (pv 11) (pv 7) (by rfl)))) (fun _ _ _ _ _ => (pv 11)))
        (pss_cons (ps_if (pt_cmpR (RK.neD (K := K) hr.units) (pv 10) (pv 7) (nomark _)) (pss_one (ps_ret pe_bl)) pss_nil)
        (pss_cons (ps_set (i := 12) scLaw.nd rfl (Or.inr rfl) (pe_callTy (RK.dictQ (K := K) rfl) (by rfl) T.dict (by decide +kernel) (pa_cons (pe_lc (own := [("_law_table", 13)]) rfl scLaw.nd (RK.piL (K := K) (pe_callB (call_sortedD rfl) (by rfl) T.sorted (by decide +kernel) (pa_cons (pv 3) pa_nil))) (blkOk_by (N := ["_law_script", "_law_h", "_law_turn", "_law_shapes_here", "_law_few", "_law_more", "_law_tree", "_law_one", "_law_two", "_law_some_here", "_law_left", "_law_plan", "_law_counts", "_law_table", "_law_costs", "_law_other", "_law_pair"]) (sc := defScope slaw) (by decide +kernel)) (fun _ _ _ _ _ => (pg_name (i := 13) scLaw.nd rfl (Or.inl rfl))) (fun _ _ _ _ _ => pts_nil) (fun _ _ _ _ _ => (pe_tup (pa_cons (pv 13) (pa_cons (pe_call Cnext.G hr1 (by rfl) Cnext.g Cnext.kp Cnext.b .nil pass0 (pa_cons (pv 1) (pa_cons pe_int pa_nil))) pa_nil))))) pa_nil)))
        (pss_cons (ps_setLc (i := 14) (own := [("_law_some_here", 9)]) rfl scLaw.nd rfl rfl (sw_true rfl rfl rfl (by decide +kernel)) (RK.piT (K := K) (pe_tup (pa_cons (pv 4) (pa_cons (pv 5) pa_nil)))) (blkOk_by (N := ["_law_script", "_law_h", "_law_turn", "_law_shapes_here", "_law_few", "_law_more", "_law_tree", "_law_one", "_law_two", "_law_some_here", "_law_left", "_law_plan", "_law_counts", "_law_table", "_law_costs", "_law_other", "_law_pair"]) (sc := defScope slaw) (by decide +kernel)) (fun _ _ _ _ _ => (pg_name (i := 9) scLaw.nd rfl (Or.inl rfl))) (fun _ _ _ _ _ => pts_nil) (fun _ _ _ _ _ => (pe_call Ccost.G hr1 (by rfl) Ccost.g Ccost.kp Ccost.b .nil pass0 (pa_cons (pe_call Cbest.G hr1 (by rfl) Cbest.g Cbest.kp Cbest.b .nil pass0 (pa_cons (pe_ix (RK.ixT (K := K)) (pv 6) pe_int (fun _ _ => rfl)) (pa_cons (pe_ix (RK.ixT (K := K)) (pv 6) pe_int (fun _ _ => rfl)) (pa_cons (pv 3) (pa_cons (pv 9) (pa_cons (pv 12) pa_nil)))))) (pa_cons (pv 12) pa_nil)))))
        (pss_cons (ps_if (pt_cmpR op_gt (pe_ix (RK.ixL (K := K)) (pv 14) pe_int (fun _ _ => rfl)) (pe_ix (RK.ixL (K := K)) (pv 14) pe_int (fun _ _ => rfl)) (nomark _)) (pss_one (ps_ret pe_bl)) pss_nil)
        (pss_cons (ps_setLc (i := 15) (own := [("_law_pair", 16)]) rfl scLaw.nd rfl rfl (sw_true rfl rfl rfl (by decide +kernel)) (RK.piL (K := K) (pv 5)) (blkOk_by (N := ["_law_script", "_law_h", "_law_turn", "_law_shapes_here", "_law_few", "_law_more", "_law_tree", "_law_one", "_law_two", "_law_some_here", "_law_left", "_law_plan", "_law_counts", "_law_table", "_law_costs", "_law_other", "_law_pair"]) (sc := defScope slaw) (by decide +kernel)) (fun _ _ _ _ _ => (pg_name (i := 16) scLaw.nd rfl (Or.inl rfl))) (fun _ _ _ _ _ => (pts_one (pt_cmpR (SX.inDB (K := K) (Nat.lt_of_succ_lt (room66 hr))) (pe_ix (RK.ixT (K := K)) (pv 16) pe_int (fun _ _ => rfl)) (pe_ix (RK.ixT (K := K)) (pv 6) pe_int (fun _ _ => rfl)) (by rfl)))) (fun _ _ _ _ _ => (pv 16)))
        (pss_one (ps_if (pt_cmpR (RK.neD (K := K) hr.units) (pe_call Call_plans.G hr1 (by rfl) Call_plans.g Call_plans.kp Call_plans.b .nil pass0 (pa_cons (pe_ix (RK.ixT (K := K)) (pv 6) pe_int (fun _ _ => rfl)) (pa_cons (pe_ix (RK.ixT (K := K)) (pv 6) pe_int (fun _ _ => rfl)) (pa_cons (pv 3) (pa_cons (pe_op op_cat (pv 15) (pe_lst (pa_cons (pe_tup (pa_cons pe_str (pa_cons pe_str pa_nil))) pa_nil))) pa_nil))))) (pv 8) (nomark _)) (pss_one (ps_ret pe_bl)) pss_nil))))))))))))))
      (pss_one (ps_ret pe_bl)))), ?_⟩
    refine sa1 ?_
    refine ⟨_, rfl, l, ns, 101, rfl, hl, l63, fun a b H1 a0 b0 B1 s1 => ?_⟩
    refine gn ?_
    refine ⟨5, rfl, by decide, by decide, for_range (lo := 0) (n := 5) (fun i σ H' => ∃ v2 v3 v4 v5 v6 v7 v8 v9 v10 v11 v12 v13 v14 v15 v16, σ = [some (.ref l), some (.ref a), v2, v3, v4, v5, v6, v7, v8, v9, v10, v11, v12, v13, v14, v15, v16] ∧ HAt H' a b ∧ Tabs (Tb PB) H')
      ⟨_, _, _, _, _, _, _, _, _, _, _, _, _, _, _, rfl, B1, hT.ext fun b o h => s1 _ _ h⟩ ?_ ?_⟩
    · rintro i σ H2 hi ⟨v2, v3, v4, v5, v6, v7, v8, v9, v10, v11, v12, v13, v14, v15, v16, rfl, B2, T2⟩
      refine ⟨_, rfl, a, b, rfl, B2, fun d H3 sh B3 k3 d0 S3 I l1 => ?_⟩
      refine gn ?_
      try dsimp only
      refine sa1 ?_
      refine ⟨_, rfl, _, rfl, a, b, d, sh, rfl, B3, S3, I, fun r4 H4 il1 B4 k4 r40 F4 in1 len1 => ?_⟩
      refine gn ?_
      have S4 := S3.keep (k4.n B3)
      have nr4 := B3.ne r40
      have T4 := tabs_keep B3 k4 (tabs_keep B2 k3 T2)
      try dsimp only
      refine sa1 ?_
      refine te_more (K := K) (P := P) (w := w) rfl B4 S4 I F4 nr4 in1 len1 fun r5 H5 il2 B5 k5 nr5 F5 in2 sub len2 => ?_
      refine gn ?_
      have S5 := S4.keep (k5.n B4)
      have F45 := F4.keep B4 k5 nr4.1 nr4.2
      have T5 := tabs_keep B4 k5 T4
      try dsimp only
      refine sa1 ?_
      refine ⟨_, rfl, _, rfl, _, rfl, a, b, d, sh, rfl, B5, S5, I, l1, fun va H6 ts c B6 k6 A6 tk c5 => ?_⟩
      have S6 := S5.keep (k6.n B5)
      refine ⟨_, rfl, a, b, d, va, sh, ts, c, rfl, B6, A6, tk, S6, I, c5, fun vb H7 c' B7 k7 A7 c8 => ?_⟩
      refine gn ?_
      have S7 := S6.keep (k7.n B6)
      have F47 := (F45.keep B5 k6 nr4.1 nr4.2).keep B6 k7 nr4.1 nr4.2
      have F57 := (F5.keep B5 k6 nr5.1 nr5.2).keep B6 k7 nr5.1 nr5.2
      have T7 := tabs_keep B6 k7 (tabs_keep B5 k6 T5)
      obtain ⟨p, tt, x0, x1, x2, cv, x5, x6, rfl, hp, htt, hcv⟩ := A7
      have AA : Asked K H7 d p tt cv sh ts c' x0 x1 x2 x5 x6 := ⟨hp, htt, hcv, S7, I, tk, c8⟩
      clear hp htt hcv
      try dsimp only
      refine sa1 ?_
      refine te_plans2 (K := K) rfl AA F47 F57 in1 in2 fun D r7 r8 H8 s8 hD8 r70 r80 R7 R8 => ?_
      refine ⟨D, _, rfl, SqL.of hD8, rfl, _, _, rfl, gn ⟨_, _, rfl, gn ⟨rfl, ?_⟩⟩⟩
      have ok1 := plans.ok (il := il1) I tk c8 in1
      have ok2 := plans.ok (il := il2) I tk c8 in2
      have few2 := plans.few (il := il2) I tk c8 in2
      have Y1 : Laid (AP sh ts c' il1) := fun ws m w mw => (ok1 ws m w mw).2.2
      have Y2 : Laid (AP sh ts c' il2) := fun ws m w mw => (ok2 ws m w mw).2.2
      have nr8 := B7.ne r80
      try dsimp only
      refine sa1 ?_
      refine te_left (K := K) rfl R7 R8 Y1 Y2 few2 fun D10 H10 s10 R10 => ?_
      refine gn ?_
      have eL : (AP sh ts c' il2).filter (isIn (AP sh ts c' il1)) = AP sh ts c' il1 := AP_left sub sh tk.2.1 c' _ fun p m => isIn_iff fun w mw => (ok2 p m w mw).2.2
      rw [eL] at R10
      have s810 := s8.trans s10
      have B10 := B7.same s810
      have T10 : Tabs (Tb PB) H10 := T7.ext s810
      have A10 := AA.keep (KeepN.of s810)
      refine ⟨_, rfl, _, rfl, _, _, dpL R10, dpL (plans_same s10 R7), (layL Y1).2, (layL Y1).2, _, rfl, ?_⟩
      rw [eqvL Y1]
      refine iteF ?_
      try dsimp only [tNext]
      refine sa1 ?_
      refine te_counts (K := K) rfl B10 A10.shps I fun e H11 cs B11 k11 C11 ck tcs => ?_
      refine gn ?_
      have A11 := A10.keep (k11.n B10)
      have F411 := (F47.same s810).keep B10 k11 nr4.1 nr4.2
      have F511 := (F57.same s810).keep B10 k11 nr5.1 nr5.2
      have T11 := tabs_keep B10 k11 T10
      have R811 : PlansAt K H11 r8 (AP sh ts c' il2) := by
        obtain ⟨us, hr, pw⟩ := plans_same s10 R8
        exact ⟨us, k11 _ _ nr8.1 nr8.2 hr, pw_imp (fun x y q => PlanAt.mono (fun _ _ z => (k11.n B10).t z) q) pw⟩
      try dsimp only
      refine sa1 ?_
      refine te_costs2 (K := K) rfl plans A11 F411 F511 in1 in2 C11 ck (fun t m => tcs _ (tk.2.2.2 t m)) T11 fun D14 H12 w1 w2 e12 T12 hD12 b1 b2 => ?_
      refine gn ?_
      have A12 := A11.ext e12
      have F512 := F511.ext e12
      have B12 := B11.extN e12
      have R812 : PlansAt K H12 r8 (AP sh ts c' il2) := by
        obtain ⟨us, hr, pw⟩ := R811
        exact ⟨us, e12 _ _ hr (fun ps z => by cases z), pw_imp (fun x y q => extP e12 q) pw⟩
      have cheap : costF cs w2 ≤ costF cs w1 := by
        obtain ⟨j, hj, _, _⟩ := b1
        obtain ⟨_, _, h2, _⟩ := b2
        exact best_fewer sub sh tk.2.1 c' (List.mem_of_getElem? hj) h2
      refine ⟨_, rfl, D14, _, 1, _, rfl, rfl, SqL.of hD12, atI_of (by decide) rfl, _, rfl, D14, _, 0, _, rfl, rfl, SqL.of hD12, atI_of (by decide) rfl, _, _, rfl, rfl, _, rfl, ?_⟩
      rw [decide_eq_false (by omega)]
      refine iteF ?_
      try dsimp only [tNext]
      refine sa1 ?_
      refine te_other (K := K) rfl A12 F512 len2 fun D15 H13 s13 F13 => ?_
      refine gn ?_
      have A13 := A12.keep (KeepN.of s13)
      obtain ⟨zs, hz, pz, oz⟩ := F13
      have lz : zs.length ≤ 18 := by
        have z := Paired.length pz
        have z2 := List.length_filter_le (fun q : Str × Str => decide (q.1 ∈ ts)) il2
        omega
      refine ⟨_, rfl, p, _, 3, _, rfl, rfl, A13.tree, atI_of (by decide) rfl, _, rfl, p, _, 4, _, rfl, rfl, A13.tree, atI_of (by decide) rfl, _, rfl, _, rfl, (by show 2 ≤ sizeLine; decide), fun u hu => ⟨(by show 1 ≤ sizeLine; decide), fun v hv => ?_⟩⟩
      have g1 := Same.new (o := .tup [.str (Str.ofString "zz"), .str (Str.ofString "x")]) hu
      have g2 := Same.new (o := .lst [.ref u]) hv
      have g12 := g1.trans g2
      refine ⟨D15, v, zs, [.ref u], rfl, rfl, g12 _ _ hz, upd_same, Nat.le_trans (show zs.length + 1 ≤ 19 by omega) (by decide), fun q hq => ?_⟩
      have g3 := Same.new (o := .lst (zs ++ [.ref u])) hq
      have g13 := g12.trans g3
      have A16 := A13.keep (KeepN.of g13)
      have zzn : Str.ofString "zz" ∉ tabs := by decide +kernel
      have names : ∀ t ∈ sh.map (·.1), t ∈ tabs := fun t m => sh_names I m
      have alike : Alike ts (il2.filter (fun q => decide (q.1 ∈ ts)) ++ [(Str.ofString "zz", Str.ofString "x")]) il2 := fun t mt f => by
        rw [List.mem_append, List.mem_filter, List.mem_singleton]
        constructor
        · rintro (⟨m, _⟩ | m)
          · exact m
          · injection m with m _
            exact absurd (names t (tk.2.2.2 t mt)) (m ▸ zzn)
        · intro m
          exact .inl ⟨m, decide_eq_true mt⟩
      have ixq : IxAt K (upd (upd (upd H13 u (.tup [.str (Str.ofString "zz"), .str (Str.ofString "x")])) v (.lst [.ref u])) q (.lst (zs ++ [.ref u]))) q (il2.filter (fun q => decide (q.1 ∈ ts)) ++ [(Str.ofString "zz", Str.ofString "x")]) := by
        refine ⟨zs ++ [.ref u], .inr upd_same, Paired.snoc (fl_mono (fun _ _ z => (KeepN.of g13).t z) pz) ⟨u, rfl, SqT.of (g3 _ _ (g2 _ _ upd_same))⟩, fun x mx => ?_⟩
        rcases List.mem_append.mp mx with m | m
        · exact oz x m
        · rw [List.mem_singleton.mp m]
          exact ⟨by decide +kernel, by decide +kernel⟩
      have inq : ∀ x ∈ il2.filter (fun q => decide (q.1 ∈ ts)) ++ [(Str.ofString "zz", Str.ofString "x")], x.1 ∈ sh.map (·.1) → InSh sh x := fun x mx nx => by
        rcases List.mem_append.mp mx with m | m
        · exact in2 x (List.mem_filter.mp m).1
        · rw [List.mem_singleton.mp m] at nx
          exact absurd (names _ nx) zzn
      refine ⟨tt, d, q, cv, sh, ts, c', _, rfl, A16.tbls, A16.cond, A16.shps, ixq, I, tk, c8, inq, fun r16 H16 s16 r160 R16 => ?_⟩
      rw [AP_alike alike] at R16
      have s1316 := s13.trans (g13.trans s16)
      refine ⟨_, rfl, _, _, dpL R16, dpL (plans_same s1316 R812), (layL Y2).2, (layL Y2).2, _, rfl, ?_⟩
      rw [eqvL Y2]
      exact iteF ⟨_, _, _, _, _, _, _, _, _, _, _, _, _, _, _, rfl, B12.same s1316, T12.ext s1316⟩
    · rintro σ H2 ⟨v2, v3, v4, v5, v6, v7, v8, v9, v10, v11, v12, v13, v14, v15, v16, rfl, B2, T2⟩
      exact k H2

end
end K06


set_option Elab.async false
set_option maxRecDepth 100000
set_option maxHeartbeats 4000000
namespace K06
open PySem L2
section
variable {P : Program} {w : World} {K : PySem.W.Frag} {mg : Str → Option Value} {base : Heap}
theorem all_cond {f fn ft : Addr} {fd fdn fdt : FuncData} (F : Fun K "_law_cond" "_law_cond" sLcond f fd) (T : Txt mg) (Cnext : Cal P w K mg base 1 "_law_next" ["_law_h", "_law_many"] spNext fn fdn) (Cterm : Cal P w K mg base 4 "_law_term" ["_law_h", "_law_fields", "_law_deep"] (spTerm K 2) ft fdt)
    (g : mg "_law_cond" = some (.ref f)) (b : Binds K fd ["_law_h", "_law_fields", "_law_deep"] []) : ∀ n : Nat, FnOk P w K mg base CX0 (n + 4) f fd ["_law_h", "_law_fields", "_law_deep"] (spCond K n)
  | 0 => none_left fun vs H Q E h => by
    obtain ⟨_, _, _, _, dp, _, h0, h1, _⟩ := h
    omega
  | n + 1 => ok_cond F T (Cnext.mono (by omega)) (Cterm.mono (by omega)) ⟨g, F.kp, b, all_cond F T Cnext Cterm g b n⟩
end
theorem all_mk {l : PySem.W.OpenLaw} {w : World} {K : PySem.W.Frag} {h : Heap} {mg : Str → Option Value} {fa f1 f2 f3 f4 f5 f6 f7 f8 f9 f10 f11 f12 f13 f14 f15 f16 f17 f18 f19 f20 f21 f22 f23 f24 f25 f26 f27 f28 f29 f30 : Addr} (X : K.In h) (G : h.Ns mainGlobals mg) (hfa : mg "law" = some (.ref fa))
    {od1 an1 od2 an2 od3 an3 od4 an4 od5 an5 od6 an6 od7 an7 od8 an8 od9 an9 od10 an10 od11 an11 od12 an12 od13 an13 od14 an14 od15 an15 od16 an16 od17 an17 od18 an18 od19 an19 od20 an20 od21 an21 od22 an22 od23 an23 od24 an24 od25 an25 od26 an26 od27 an27 od28 an28 od29 an29 od30 an30 : Option Addr} {fc ft fj cB PB : Addr} {odC odJ : Option Addr} {itC itJ : Array Value} {nC nJ : Nat} {slC slJ : Array (Option Value)} {esT : Array DictEntry} {nT : Nat} {tk1 tk2 tk3 tk4 tk5 : Tok} {sl1 sl2 sl3 sl4 sl5 sl6 sl7 sl8 sl9 sl10 sl11 sl12 sl13 sl14 sl15 sl16 sl17 sl18 sl19 sl20 sl21 sl22 sl23 sl24 sl25 sl26 sl27 sl28 sl29 sl30 : Array (Option Value)} {oc1 kV1 dc1 pm1 cd1 ct1 oc2 kV2 dc2 pm2 cd2 ct2 oc3 kV3 dc3 pm3 cd3 ct3 oc4 kV4 dc4 pm4 cd4 ct4 oc5 kV5 dc5 pm5 cd5 ct5 oc6 kV6 dc6 pm6 cd6 ct6 oc7 kV7 dc7 pm7 cd7 ct7 oc8 kV8 dc8 pm8 cd8 ct8 oc9 kV9 dc9 pm9 cd9 ct9 oc10 kV10 dc10 pm10 cd10 ct10 oc11 kV11 dc11 pm11 cd11 ct11 oc12 kV12 dc12 pm12 cd12 ct12 oc13 kV13 dc13 pm13 cd13 ct13 oc14 kV14 dc14 pm14 cd14 ct14 oc15 kV15 dc15 pm15 cd15 ct15 oc16 kV16 dc16 pm16 cd16 ct16 oc17 kV17 dc17 pm17 cd17 ct17 oc18 kV18 dc18 pm18 cd18 ct18 oc19 kV19 dc19 pm19 ct19 oc20 kV20 dc20 pm20 cd20 ct20 oc21 kV21 dc21 pm21 cd21 ct21 oc22 kV22 dc22 pm22 cd22 ct22 oc23 kV23 dc23 pm23 cd23 ct23 oc24 kV24 dc24 pm24 cd24 ct24 oc25 kV25 dc25 pm25 cd25 ct25 oc26 kV26 dc26 pm26 cd26 ct26 oc27 kV27 dc27 pm27 cd27 ct27 oc28 kV28 dc28 pm28 cd28 ct28 oc29 kV29 dc29 pm29 cd29 ct29 oc30 kV30 dc30 pm30 cd30 ct30 : Value}
    (a1 : PySem.W.nsIn K mainGlobals "is_so" = some (some (.ref f1))) (l1 : K.lookup f1 = some ⟨oc1, od1, .func (PySem.W.fnOf "is_so" "is_so" (defArgs sisso) (defBody sisso) (defScope sisso) .none kV1 dc1 pm1 an1 cd1 ct1), sl1⟩) (c1 : PySem.W.codeIn K cd1 "is_so" = true) (k1 : PySem.W.keepIn K (.ref f1) = true)
    (a2 : PySem.W.nsIn K mainGlobals "bounds" = some (some (.ref f2))) (l2 : K.lookup f2 = some ⟨oc2, od2, .func (PySem.W.fnOf "bounds" "bounds" (defArgs sbounds) (defBody sbounds) (defScope sbounds) .none kV2 dc2 pm2 an2 cd2 ct2), sl2⟩) (c2 : PySem.W.codeIn K cd2 "bounds" = true) (k2 : PySem.W.keepIn K (.ref f2) = true)
    (a3 : PySem.W.nsIn K mainGlobals "musts" = some (some (.ref f3))) (l3 : K.lookup f3 = some ⟨oc3, od3, .func (PySem.W.fnOf "musts" "musts" (defArgs smusts) (defBody smusts) (defScope smusts) .none kV3 dc3 pm3 an3 cd3 ct3), sl3⟩) (c3 : PySem.W.codeIn K cd3 "musts" = true) (k3 : PySem.W.keepIn K (.ref f3) = true)
    (a4 : PySem.W.nsIn K mainGlobals "is_of" = some (some (.ref f4))) (l4 : K.lookup f4 = some ⟨oc4, od4, .func (PySem.W.fnOf "is_of" "is_of" (defArgs sisof) (defBody sisof) (defScope sisof) .none kV4 dc4 pm4 an4 cd4 ct4), sl4⟩) (c4 : PySem.W.codeIn K cd4 "is_of" = true) (k4 : PySem.W.keepIn K (.ref f4) = true)
    (a5 : PySem.W.nsIn K mainGlobals "ends" = some (some (.ref f5))) (l5 : K.lookup f5 = some ⟨oc5, od5, .func (PySem.W.fnOf "ends" "ends" (defArgs sends) (defBody sends) (defScope sends) .none kV5 dc5 pm5 an5 cd5 ct5), sl5⟩) (c5 : PySem.W.codeIn K cd5 "ends" = true) (k5 : PySem.W.keepIn K (.ref f5) = true)
    (a6 : PySem.W.nsIn K mainGlobals "narrow" = some (some (.ref f6))) (l6 : K.lookup f6 = some ⟨oc6, od6, .func (PySem.W.fnOf "narrow" "narrow" (defArgs snarrow) (defBody snarrow) (defScope snarrow) .none kV6 dc6 pm6 an6 cd6 ct6), sl6⟩) (c6 : PySem.W.codeIn K cd6 "narrow" = true) (k6 : PySem.W.keepIn K (.ref f6) = true)
    (a7 : PySem.W.nsIn K mainGlobals "greater" = some (some (.ref f7))) (l7 : K.lookup f7 = some ⟨oc7, od7, .func (PySem.W.fnOf "greater" "greater" (defArgs sgreater) (defBody sgreater) (defScope sgreater) .none kV7 dc7 pm7 an7 cd7 ct7), sl7⟩) (c7 : PySem.W.codeIn K cd7 "greater" = true) (k7 : PySem.W.keepIn K (.ref f7) = true)
    (a8 : PySem.W.nsIn K mainGlobals "lesser" = some (some (.ref f8))) (l8 : K.lookup f8 = some ⟨oc8, od8, .func (PySem.W.fnOf "lesser" "lesser" (defArgs slesser) (defBody slesser) (defScope slesser) .none kV8 dc8 pm8 an8 cd8 ct8), sl8⟩) (c8 : PySem.W.codeIn K cd8 "lesser" = true) (k8 : PySem.W.keepIn K (.ref f8) = true)
    (a9 : PySem.W.nsIn K mainGlobals "is_crossed" = some (some (.ref f9))) (l9 : K.lookup f9 = some ⟨oc9, od9, .func (PySem.W.fnOf "is_crossed" "is_crossed" (defArgs siscrossed) (defBody siscrossed) (defScope siscrossed) .none kV9 dc9 pm9 an9 cd9 ct9), sl9⟩) (c9 : PySem.W.codeIn K cd9 "is_crossed" = true) (k9 : PySem.W.keepIn K (.ref f9) = true)
    (a10 : PySem.W.nsIn K mainGlobals "all_plans" = some (some (.ref f10))) (l10 : K.lookup f10 = some ⟨oc10, od10, .func (PySem.W.fnOf "all_plans" "all_plans" (defArgs sallplans) (defBody sallplans) (defScope sallplans) .none kV10 dc10 pm10 an10 cd10 ct10), sl10⟩) (c10 : PySem.W.codeIn K cd10 "all_plans" = true) (k10 : PySem.W.keepIn K (.ref f10) = true)
    (a11 : PySem.W.nsIn K mainGlobals "plans_in_order" = some (some (.ref f11))) (l11 : K.lookup f11 = some ⟨oc11, od11, .func (PySem.W.fnOf "plans_in_order" "plans_in_order" (defArgs splansinorder) (defBody splansinorder) (defScope splansinorder) .none kV11 dc11 pm11 an11 cd11 ct11), sl11⟩) (c11 : PySem.W.codeIn K cd11 "plans_in_order" = true) (k11 : PySem.W.keepIn K (.ref f11) = true)
    (a12 : PySem.W.nsIn K mainGlobals "ways_of" = some (some (.ref f12))) (l12 : K.lookup f12 = some ⟨oc12, od12, .func (PySem.W.fnOf "ways_of" "ways_of" (defArgs swaysof) (defBody swaysof) (defScope swaysof) .none kV12 dc12 pm12 an12 cd12 ct12), sl12⟩) (c12 : PySem.W.codeIn K cd12 "ways_of" = true) (k12 : PySem.W.keepIn K (.ref f12) = true)
    (a13 : PySem.W.nsIn K mainGlobals "is_way" = some (some (.ref f13))) (l13 : K.lookup f13 = some ⟨oc13, od13, .func (PySem.W.fnOf "is_way" "is_way" (defArgs sisway) (defBody sisway) (defScope sisway) .none kV13 dc13 pm13 an13 cd13 ct13), sl13⟩) (c13 : PySem.W.codeIn K cd13 "is_way" = true) (k13 : PySem.W.keepIn K (.ref f13) = true)
    (a14 : PySem.W.nsIn K mainGlobals "way_of" = some (some (.ref f14))) (l14 : K.lookup f14 = some ⟨oc14, od14, .func (PySem.W.fnOf "way_of" "way_of" (defArgs swayof) (defBody swayof) (defScope swayof) .none kV14 dc14 pm14 an14 cd14 ct14), sl14⟩) (c14 : PySem.W.codeIn K cd14 "way_of" = true) (k14 : PySem.W.keepIn K (.ref f14) = true)
    (a15 : PySem.W.nsIn K mainGlobals "tables_in" = some (some (.ref f15))) (l15 : K.lookup f15 = some ⟨oc15, od15, .func (PySem.W.fnOf "tables_in" "tables_in" (defArgs stablesin) (defBody stablesin) (defScope stablesin) .none kV15 dc15 pm15 an15 cd15 ct15), sl15⟩) (c15 : PySem.W.codeIn K cd15 "tables_in" = true) (k15 : PySem.W.keepIn K (.ref f15) = true)
    (a16 : PySem.W.nsIn K mainGlobals "cost" = some (some (.ref f16))) (l16 : K.lookup f16 = some ⟨oc16, od16, .func (PySem.W.fnOf "cost" "cost" (defArgs scost) (defBody scost) (defScope scost) .none kV16 dc16 pm16 an16 cd16 ct16), sl16⟩) (c16 : PySem.W.codeIn K cd16 "cost" = true) (k16 : PySem.W.keepIn K (.ref f16) = true)
    (a17 : PySem.W.nsIn K mainGlobals "rows_expected" = some (some (.ref f17))) (l17 : K.lookup f17 = some ⟨oc17, od17, .func (PySem.W.fnOf "rows_expected" "rows_expected" (defArgs srowsexpected) (defBody srowsexpected) (defScope srowsexpected) .none kV17 dc17 pm17 an17 cd17 ct17), sl17⟩) (c17 : PySem.W.codeIn K cd17 "rows_expected" = true) (k17 : PySem.W.keepIn K (.ref f17) = true)
    (a18 : PySem.W.nsIn K mainGlobals "rows_between" = some (some (.ref f18))) (l18 : K.lookup f18 = some ⟨oc18, od18, .func (PySem.W.fnOf "rows_between" "rows_between" (defArgs srowsbetween) (defBody srowsbetween) (defScope srowsbetween) .none kV18 dc18 pm18 an18 cd18 ct18), sl18⟩) (c18 : PySem.W.codeIn K cd18 "rows_between" = true) (k18 : PySem.W.keepIn K (.ref f18) = true)
    (a19 : PySem.W.nsIn K mainGlobals "best" = some (some (.ref f19))) (l19 : K.lookup f19 = some ⟨oc19, od19, .func (PySem.W.fnOf "best" "best" (defArgs sbest) (defBody sbest) (defScope sbest) .none kV19 dc19 pm19 an19 (.ref cB) ct19), sl19⟩) (c19 : PySem.W.codeIn K (.ref cB) "best" = true) (k19 : PySem.W.keepIn K (.ref f19) = true)
    (a20 : PySem.W.nsIn K mainGlobals "_law_mix" = some (some (.ref f20))) (l20 : K.lookup f20 = some ⟨oc20, od20, .func (PySem.W.fnOf "_law_mix" "_law_mix" (defArgs sLmix) (defBody sLmix) (defScope sLmix) .none kV20 dc20 pm20 an20 cd20 ct20), sl20⟩) (c20 : PySem.W.codeIn K cd20 "_law_mix" = true) (k20 : PySem.W.keepIn K (.ref f20) = true)
    (a21 : PySem.W.nsIn K mainGlobals "_law_next" = some (some (.ref f21))) (l21 : K.lookup f21 = some ⟨oc21, od21, .func (PySem.W.fnOf "_law_next" "_law_next" (defArgs sLnext) (defBody sLnext) (defScope sLnext) .none kV21 dc21 pm21 an21 cd21 ct21), sl21⟩) (c21 : PySem.W.codeIn K cd21 "_law_next" = true) (k21 : PySem.W.keepIn K (.ref f21) = true)
    (a22 : PySem.W.nsIn K mainGlobals "_law_shapes" = some (some (.ref f22))) (l22 : K.lookup f22 = some ⟨oc22, od22, .func (PySem.W.fnOf "_law_shapes" "_law_shapes" (defArgs sLshapes) (defBody sLshapes) (defScope sLshapes) .none kV22 dc22 pm22 an22 cd22 ct22), sl22⟩) (c22 : PySem.W.codeIn K cd22 "_law_shapes" = true) (k22 : PySem.W.keepIn K (.ref f22) = true)
    (a23 : PySem.W.nsIn K mainGlobals "_law_number" = some (some (.ref f23))) (l23 : K.lookup f23 = some ⟨oc23, od23, .func (PySem.W.fnOf "_law_number" "_law_number" (defArgs sLnumber) (defBody sLnumber) (defScope sLnumber) .none kV23 dc23 pm23 an23 cd23 ct23), sl23⟩) (c23 : PySem.W.codeIn K cd23 "_law_number" = true) (k23 : PySem.W.keepIn K (.ref f23) = true)
    (a24 : PySem.W.nsIn K mainGlobals "_law_term" = some (some (.ref f24))) (l24 : K.lookup f24 = some ⟨oc24, od24, .func (PySem.W.fnOf "_law_term" "_law_term" (defArgs sLterm) (defBody sLterm) (defScope sLterm) .none kV24 dc24 pm24 an24 cd24 ct24), sl24⟩) (c24 : PySem.W.codeIn K cd24 "_law_term" = true) (k24 : PySem.W.keepIn K (.ref f24) = true)
    (a25 : PySem.W.nsIn K mainGlobals "_law_cond" = some (some (.ref f25))) (l25 : K.lookup f25 = some ⟨oc25, od25, .func (PySem.W.fnOf "_law_cond" "_law_cond" (defArgs sLcond) (defBody sLcond) (defScope sLcond) .none kV25 dc25 pm25 an25 cd25 ct25), sl25⟩) (c25 : PySem.W.codeIn K cd25 "_law_cond" = true) (k25 : PySem.W.keepIn K (.ref f25) = true)
    (a26 : PySem.W.nsIn K mainGlobals "_law_some" = some (some (.ref f26))) (l26 : K.lookup f26 = some ⟨oc26, od26, .func (PySem.W.fnOf "_law_some" "_law_some" (defArgs sLsome) (defBody sLsome) (defScope sLsome) .none kV26 dc26 pm26 an26 cd26 ct26), sl26⟩) (c26 : PySem.W.codeIn K cd26 "_law_some" = true) (k26 : PySem.W.keepIn K (.ref f26) = true)
    (a27 : PySem.W.nsIn K mainGlobals "_law_ask" = some (some (.ref f27))) (l27 : K.lookup f27 = some ⟨oc27, od27, .func (PySem.W.fnOf "_law_ask" "_law_ask" (defArgs sLask) (defBody sLask) (defScope sLask) .none kV27 dc27 pm27 an27 cd27 ct27), sl27⟩) (c27 : PySem.W.codeIn K cd27 "_law_ask" = true) (k27 : PySem.W.keepIn K (.ref f27) = true)
    (a28 : PySem.W.nsIn K mainGlobals "_law_linked" = some (some (.ref f28))) (l28 : K.lookup f28 = some ⟨oc28, od28, .func (PySem.W.fnOf "_law_linked" "_law_linked" (defArgs sLlinked) (defBody sLlinked) (defScope sLlinked) .none kV28 dc28 pm28 an28 cd28 ct28), sl28⟩) (c28 : PySem.W.codeIn K cd28 "_law_linked" = true) (k28 : PySem.W.keepIn K (.ref f28) = true)
    (a29 : PySem.W.nsIn K mainGlobals "_law_indexes" = some (some (.ref f29))) (l29 : K.lookup f29 = some ⟨oc29, od29, .func (PySem.W.fnOf "_law_indexes" "_law_indexes" (defArgs sLindexes) (defBody sLindexes) (defScope sLindexes) .none kV29 dc29 pm29 an29 cd29 ct29), sl29⟩) (c29 : PySem.W.codeIn K cd29 "_law_indexes" = true) (k29 : PySem.W.keepIn K (.ref f29) = true)
    (a30 : PySem.W.nsIn K mainGlobals "law" = some (some (.ref f30))) (l30 : K.lookup f30 = some ⟨oc30, od30, .func (PySem.W.fnOf "law" "law" (defArgs slaw) (defBody slaw) (defScope slaw) .none kV30 dc30 pm30 an30 cd30 ct30), sl30⟩) (c30 : PySem.W.codeIn K cd30 "law" = true) (k30 : PySem.W.keepIn K (.ref f30) = true)
    (z_len : PySem.W.nsIn K mainGlobals "len" = some none) (z_range : PySem.W.nsIn K mainGlobals "range" = some none) (z_list : PySem.W.nsIn K mainGlobals "list" = some none) (z_tuple : PySem.W.nsIn K mainGlobals "tuple" = some none) (z_max : PySem.W.nsIn K mainGlobals "max" = some none) (z_sorted : PySem.W.nsIn K mainGlobals "sorted" = some none) (z_min : PySem.W.nsIn K mainGlobals "min" = some none) (z_int : PySem.W.nsIn K mainGlobals "int" = some none) (z_dict : PySem.W.nsIn K mainGlobals "dict" = some none) (z_isinstance : PySem.W.nsIn K mainGlobals "isinstance" = some none) (z_bool : PySem.W.nsIn K mainGlobals "bool" = some none) (z_str : PySem.W.nsIn K mainGlobals "str" = some none) (z_any : PySem.W.nsIn K mainGlobals "any" = some none) (z_all : PySem.W.nsIn K mainGlobals "all" = some none) (z_enumerate : PySem.W.nsIn K mainGlobals "enumerate" = some none) (z_set : PySem.W.nsIn K mainGlobals "set" = some none)
    (aC : PySem.W.nsIn K mainGlobals "COMPARISONS" = some (some (.ref fc)))
    (lC : K.lookup fc = some ⟨.type "tuple", odC, .seq itC nC, slC⟩)
    (hC : itC.size ≤ sizeLine)
    (vC : Vals (signs.map V.str) itC.toList)
    (aJ : PySem.W.nsIn K mainGlobals "JOINING" = some (some (.ref fj)))
    (lJ : K.lookup fj = some ⟨.type "tuple", odJ, .seq itJ nJ, slJ⟩)
    (hJ : itJ.size ≤ sizeLine)
    (vJ : Vals (joins.map V.str) itJ.toList)
    (aQ : PySem.W.nsIn K mainGlobals "permutations" = some (some (.type "itertools.permutations")))
    (aT : PySem.W.nsIn K mainGlobals "TURNED" = some (some (.ref ft)))
    (lT : K.lookup ft = some ⟨.type "dict", none, .dict esT nT, #[]⟩)
    (vT : PySem.W.KeysLit w.params esT.toList)
    (t1 : PySem.W.nsIn K ft "=" = some (some (.str "=" tk1)))
    (t2 : PySem.W.nsIn K ft "<" = some (some (.str ">" tk2)))
    (t3 : PySem.W.nsIn K ft ">" = some (some (.str "<" tk3)))
    (t4 : PySem.W.nsIn K ft "<=" = some (some (.str ">=" tk4)))
    (t5 : PySem.W.nsIn K ft ">=" = some (some (.str "<=" tk5)))
    (tI : PySem.W.tabIn K "best" = some (cB, PB))
    (nP : K.lookup PB = none)
    (hTab : ∀ c P, PySem.W.tabIn K "best" = some (c, P) → PySem.W.CodeHd h c P ∧ h.get? P = some { cls := .none, data := .fields #[] }) :
    LamX.LawAtS l w K CX0 20 63 "_law_script" mg fa h := by
  have e := hfa.symm.trans (PySem.W.mg_of X G a30)
  cases e
  have m_len : mg "len" = none := PySem.W.mg_none_of X G z_len
  have m_range : mg "range" = none := PySem.W.mg_none_of X G z_range
  have m_list : mg "list" = none := PySem.W.mg_none_of X G z_list
  have m_tuple : mg "tuple" = none := PySem.W.mg_none_of X G z_tuple
  have m_max : mg "max" = none := PySem.W.mg_none_of X G z_max
  have m_sorted : mg "sorted" = none := PySem.W.mg_none_of X G z_sorted
  have m_min : mg "min" = none := PySem.W.mg_none_of X G z_min
  have m_int : mg "int" = none := PySem.W.mg_none_of X G z_int
  have m_dict : mg "dict" = none := PySem.W.mg_none_of X G z_dict
  have m_isinstance : mg "isinstance" = none := PySem.W.mg_none_of X G z_isinstance
  have m_bool : mg "bool" = none := PySem.W.mg_none_of X G z_bool
  have m_str : mg "str" = none := PySem.W.mg_none_of X G z_str
  have m_any : mg "any" = none := PySem.W.mg_none_of X G z_any
  have m_all : mg "all" = none := PySem.W.mg_none_of X G z_all
  have m_enumerate : mg "enumerate" = none := PySem.W.mg_none_of X G z_enumerate
  have m_set : mg "set" = none := PySem.W.mg_none_of X G z_set
  have F1 := fun_mk (st := sisso) l1 c1 k1
  have g1 : mg "is_so" = some (.ref f1) := PySem.W.mg_of X G a1
  have b1 := F1.binds (ps := ["sign", "one", "other"]) fun _ _ _ _ _ _ us hl => match us, hl with | [_, _, _], _ => rfl
  have F2 := fun_mk (st := sbounds) l2 c2 k2
  have g2 : mg "bounds" = some (.ref f2) := PySem.W.mg_of X G a2
  have b2 := F2.binds (ps := ["cond", "table"]) fun _ _ _ _ _ _ us hl => match us, hl with | [_, _], _ => rfl
  have F3 := fun_mk (st := smusts) l3 c3 k3
  have g3 : mg "musts" = some (.ref f3) := PySem.W.mg_of X G a3
  have b3 := F3.binds (ps := ["cond"]) fun _ _ _ _ _ _ us hl => match us, hl with | [_], _ => rfl
  have F4 := fun_mk (st := sisof) l4 c4 k4
  have g4 : mg "is_of" = some (.ref f4) := PySem.W.mg_of X G a4
  have b4 := F4.binds (ps := ["term", "table"]) fun _ _ _ _ _ _ us hl => match us, hl with | [_, _], _ => rfl
  have F5 := fun_mk (st := sends) l5 c5 k5
  have g5 : mg "ends" = some (.ref f5) := PySem.W.mg_of X G a5
  have b5 := F5.binds (ps := ["sign", "number"]) fun _ _ _ _ _ _ us hl => match us, hl with | [_, _], _ => rfl
  have F6 := fun_mk (st := snarrow) l6 c6 k6
  have g6 : mg "narrow" = some (.ref f6) := PySem.W.mg_of X G a6
  have b6 := F6.binds (ps := ["told", "field", "both"]) fun _ _ _ _ _ _ us hl => match us, hl with | [_, _, _], _ => rfl
  have F7 := fun_mk (st := sgreater) l7 c7 k7
  have g7 : mg "greater" = some (.ref f7) := PySem.W.mg_of X G a7
  have b7 := F7.binds (ps := ["one", "other"]) fun _ _ _ _ _ _ us hl => match us, hl with | [_, _], _ => rfl
  have F8 := fun_mk (st := slesser) l8 c8 k8
  have g8 : mg "lesser" = some (.ref f8) := PySem.W.mg_of X G a8
  have b8 := F8.binds (ps := ["one", "other"]) fun _ _ _ _ _ _ us hl => match us, hl with | [_, _], _ => rfl
  have F9 := fun_mk (st := siscrossed) l9 c9 k9
  have g9 : mg "is_crossed" = some (.ref f9) := PySem.W.mg_of X G a9
  have b9 := F9.binds (ps := ["least", "greatest"]) fun _ _ _ _ _ _ us hl => match us, hl with | [_, _], _ => rfl
  have F10 := fun_mk (st := sallplans) l10 c10 k10
  have g10 : mg "all_plans" = some (.ref f10) := PySem.W.mg_of X G a10
  have b10 := F10.binds (ps := ["tables", "cond", "shapes", "indexes"]) fun _ _ _ _ _ _ us hl => match us, hl with | [_, _, _, _], _ => rfl
  have F11 := fun_mk (st := splansinorder) l11 c11 k11
  have g11 : mg "plans_in_order" = some (.ref f11) := PySem.W.mg_of X G a11
  have b11 := F11.binds (ps := ["order", "cond", "shapes", "indexes"]) fun _ _ _ _ _ _ us hl => match us, hl with | [_, _, _, _], _ => rfl
  have F12 := fun_mk (st := swaysof) l12 c12 k12
  have g12 : mg "ways_of" = some (.ref f12) := PySem.W.mg_of X G a12
  have b12 := F12.binds (ps := ["table", "ahead", "cond", "shapes", "indexes"]) fun _ _ _ _ _ _ us hl => match us, hl with | [_, _, _, _, _], _ => rfl
  have F13 := fun_mk (st := sisway) l13 c13 k13
  have g13 : mg "is_way" = some (.ref f13) := PySem.W.mg_of X G a13
  have b13 := F13.binds (ps := ["one", "other", "table", "ahead", "fields"]) fun _ _ _ _ _ _ us hl => match us, hl with | [_, _, _, _, _], _ => rfl
  have F14 := fun_mk (st := swayof) l14 c14 k14
  have g14 : mg "way_of" = some (.ref f14) := PySem.W.mg_of X G a14
  have b14 := F14.binds (ps := ["field", "term", "key"]) fun _ _ _ _ _ _ us hl => match us, hl with | [_, _, _], _ => rfl
  have F15 := fun_mk (st := stablesin) l15 c15 k15
  have g15 : mg "tables_in" = some (.ref f15) := PySem.W.mg_of X G a15
  have b15 := F15.binds (ps := ["term"]) fun _ _ _ _ _ _ us hl => match us, hl with | [_], _ => rfl
  have F16 := fun_mk (st := scost) l16 c16 k16
  have g16 : mg "cost" = some (.ref f16) := PySem.W.mg_of X G a16
  have b16 := F16.binds (ps := ["plan", "counts"]) fun _ _ _ _ _ _ us hl => match us, hl with | [_, _], _ => rfl
  have F17 := fun_mk (st := srowsexpected) l17 c17 k17
  have g17 : mg "rows_expected" = some (.ref f17) := PySem.W.mg_of X G a17
  have b17 := F17.binds (ps := ["way", "many"]) fun _ _ _ _ _ _ us hl => match us, hl with | [_, _], _ => rfl
  have F18 := fun_mk (st := srowsbetween) l18 c18 k18
  have g18 : mg "rows_between" = some (.ref f18) := PySem.W.mg_of X G a18
  have b18 := F18.binds (ps := ["least", "greatest", "many"]) fun _ _ _ _ _ _ us hl => match us, hl with | [_, _, _], _ => rfl
  have F19 := fun_mk (st := sbest) l19 c19 k19
  have g19 : mg "best" = some (.ref f19) := PySem.W.mg_of X G a19
  have b19 := F19.binds (ps := ["tables", "cond", "shapes", "indexes", "counts"]) fun _ _ _ _ _ _ us hl => match us, hl with | [_, _, _, _, _], _ => rfl
  have F20 := fun_mk (st := sLmix) l20 c20 k20
  have g20 : mg "_law_mix" = some (.ref f20) := PySem.W.mg_of X G a20
  have b20 := F20.binds (ps := ["_law_script", "_law_seed"]) fun _ _ _ _ _ _ us hl => match us, hl with | [_, _], _ => rfl
  have F21 := fun_mk (st := sLnext) l21 c21 k21
  have g21 : mg "_law_next" = some (.ref f21) := PySem.W.mg_of X G a21
  have b21 := F21.binds (ps := ["_law_h", "_law_many"]) fun _ _ _ _ _ _ us hl => match us, hl with | [_, _], _ => rfl
  have F22 := fun_mk (st := sLshapes) l22 c22 k22
  have g22 : mg "_law_shapes" = some (.ref f22) := PySem.W.mg_of X G a22
  have b22 := F22.binds (ps := ["_law_h", "_law_many"]) fun _ _ _ _ _ _ us hl => match us, hl with | [_, _], _ => rfl
  have F23 := fun_mk (st := sLnumber) l23 c23 k23
  have g23 : mg "_law_number" = some (.ref f23) := PySem.W.mg_of X G a23
  have b23 := F23.binds (ps := ["_law_h"]) fun _ _ _ _ _ _ us hl => match us, hl with | [_], _ => rfl
  have F24 := fun_mk (st := sLterm) l24 c24 k24
  have g24 : mg "_law_term" = some (.ref f24) := PySem.W.mg_of X G a24
  have b24 := F24.binds (ps := ["_law_h", "_law_fields", "_law_deep"]) fun _ _ _ _ _ _ us hl => match us, hl with | [_, _, _], _ => rfl
  have F25 := fun_mk (st := sLcond) l25 c25 k25
  have g25 : mg "_law_cond" = some (.ref f25) := PySem.W.mg_of X G a25
  have b25 := F25.binds (ps := ["_law_h", "_law_fields", "_law_deep"]) fun _ _ _ _ _ _ us hl => match us, hl with | [_, _, _], _ => rfl
  have F26 := fun_mk (st := sLsome) l26 c26 k26
  have g26 : mg "_law_some" = some (.ref f26) := PySem.W.mg_of X G a26
  have b26 := F26.binds (ps := ["_law_h", "_law_shapes_here", "_law_tables"]) fun _ _ _ _ _ _ us hl => match us, hl with | [_, _, _], _ => rfl
  have F27 := fun_mk (st := sLask) l27 c27 k27
  have g27 : mg "_law_ask" = some (.ref f27) := PySem.W.mg_of X G a27
  have b27 := F27.binds (ps := ["_law_h", "_law_shapes_here"]) fun _ _ _ _ _ _ us hl => match us, hl with | [_, _], _ => rfl
  have F28 := fun_mk (st := sLlinked) l28 c28 k28
  have g28 : mg "_law_linked" = some (.ref f28) := PySem.W.mg_of X G a28
  have b28 := F28.binds (ps := ["_law_h", "_law_tree", "_law_shapes_here"]) fun _ _ _ _ _ _ us hl => match us, hl with | [_, _, _], _ => rfl
  have F29 := fun_mk (st := sLindexes) l29 c29 k29
  have g29 : mg "_law_indexes" = some (.ref f29) := PySem.W.mg_of X G a29
  have b29 := F29.binds (ps := ["_law_h", "_law_shapes_here"]) fun _ _ _ _ _ _ us hl => match us, hl with | [_, _], _ => rfl
  have F30 := fun_mk (st := slaw) l30 c30 k30
  have T1 : Txt mg := ⟨m_len, m_range, m_list, m_tuple, m_max⟩
  have T6 : Txt6 mg := ⟨T1, m_sorted, m_min, m_int, m_dict, m_isinstance, m_bool, m_str⟩
  have TM : TxtM mg := ⟨m_max, m_min⟩
  have TP : TxtP K w mg fc ft := ⟨m_any, m_max, m_min, PySem.W.mg_of X G aC, fun _ => .inr ⟨_, itC, nC, lC, rfl, rfl, hC, vC⟩, PySem.W.mg_of X G aT, fun op hop => by
    rcases sign_cases hop with rfl | rfl | rfl | rfl | rfl
    · exact ⟨esT, nT, _, lT, vT, t1, ⟨_, rfl⟩⟩
    · exact ⟨esT, nT, _, lT, vT, t2, ⟨_, rfl⟩⟩
    · exact ⟨esT, nT, _, lT, vT, t3, ⟨_, rfl⟩⟩
    · exact ⟨esT, nT, _, lT, vT, t4, ⟨_, rfl⟩⟩
    · exact ⟨esT, nT, _, lT, vT, t5, ⟨_, rfl⟩⟩⟩
  have TJ : TxtJ K mg fj := ⟨m_all, PySem.W.mg_of X G aJ, fun _ => .inr ⟨_, itJ, nJ, lJ, rfl, rfl, hJ, vJ⟩⟩
  have TQ : TxtQ mg := ⟨m_enumerate, PySem.W.mg_of X G aQ⟩
  have hT2 := hTab cB PB tI
  refine ⟨PySem.W.fnOf "law" "law" (defArgs slaw) (defBody slaw) (defScope slaw) .none kV30 dc30 pm30 an30 cd30 ct30, [(cB, PB)], spLawT K PB, fun p hp => ?_, fun p hp => ?_, fun p hp => ?_, fun s v => .of_eq rfl, fun H a ns hl _ hH hS => ⟨a, ns, rfl, hS, hl, fun p hp => ?_, fun _ => rfl⟩, fun base _ _ TBs => ?_⟩
  · rw [List.mem_singleton.mp hp]; exact hT2.2
  · rw [List.mem_singleton.mp hp]; exact nP
  · rw [List.mem_singleton.mp hp]; exact hT2.1
  · rw [List.mem_singleton.mp hp]; exact LamX.TabS.nil (hH (cB, PB) (List.mem_singleton.mpr rfl))
  have TB := TBs (cB, PB) (List.mem_singleton.mpr rfl)
  have C1 : Cal l.prog w K mg base 2 "is_so" ["sign", "one", "other"] spIsso f1 _ := ⟨g1, k1, b1, (ok_isso F1).mono (by decide)⟩
  have C3 : Cal l.prog w K mg base 2 "musts" ["cond"] (spMusts K) f3 _ := ⟨g3, k3, b3, (ok_musts F3 TP).mono (by decide)⟩
  have C4 : Cal l.prog w K mg base 1 "is_of" ["term", "table"] (spIsof K) f4 _ := ⟨g4, k4, b4, ok_isof F4⟩
  have C5 : Cal l.prog w K mg base 2 "ends" ["sign", "number"] spEnds f5 _ := ⟨g5, k5, b5, (ok_ends F5).mono (by decide)⟩
  have C7 : Cal l.prog w K mg base 1 "greater" ["one", "other"] spGreater f7 _ := ⟨g7, k7, b7, ok_greater F7 TP⟩
  have C8 : Cal l.prog w K mg base 1 "lesser" ["one", "other"] spLesser f8 _ := ⟨g8, k8, b8, ok_lesser F8 TP⟩
  have C9 : Cal l.prog w K mg base 2 "is_crossed" ["least", "greatest"] spCrossed f9 _ := ⟨g9, k9, b9, (ok_crossed F9).mono (by decide)⟩
  have C6 : Cal l.prog w K mg base 2 "narrow" ["told", "field", "both"] (spNarrow K) f6 _ := ⟨g6, k6, b6, ok_narrow2 F6 C7 C8⟩
  have C2 : Cal l.prog w K mg base 3 "bounds" ["cond", "table"] (spBnd K) f2 _ := ⟨g2, k2, b2, ok_bounds F2 TP C1 C3 (C4.mono (by decide)) C5 C6 C9⟩
  have C15 : Cal l.prog w K mg base 1 "tables_in" ["term"] (spTabsIn K) f15 _ := ⟨g15, k15, b15, ok_tabsin F15 TJ⟩
  have C14 : Cal l.prog w K mg base 3 "way_of" ["field", "term", "key"] (spWayOf K) f14 _ := ⟨g14, k14, b14, (ok_wayof F14).mono (by decide)⟩
  have C13 : Cal l.prog w K mg base 3 "is_way" ["one", "other", "table", "ahead", "fields"] (spIsWay K) f13 _ := ⟨g13, k13, b13, (ok_isway F13 TJ C4 C15).mono (by decide)⟩
  have C12 : Cal l.prog w K mg base 4 "ways_of" ["table", "ahead", "cond", "shapes", "indexes"] (spWaysOf K) f12 _ := ⟨g12, k12, b12, ok_waysof (fj := fj) F12 C2 (C3.mono (by decide)) C13 C14⟩
  have C11 : Cal l.prog w K mg base 5 "plans_in_order" ["order", "cond", "shapes", "indexes"] (spPlansIn K) f11 _ := ⟨g11, k11, b11, ok_plansin F11 TQ C12⟩
  have C10 : Cal l.prog w K mg base 6 "all_plans" ["tables", "cond", "shapes", "indexes"] (spAllX K) f10 _ := ⟨g10, k10, b10, ok_allplans F10 TQ C11⟩
  have C18 : Cal l.prog w K mg base 1 "rows_between" ["least", "greatest", "many"] spBetween f18 _ := ⟨g18, k18, b18, ok_between F18 TM⟩
  have C17 : Cal l.prog w K mg base 2 "rows_expected" ["way", "many"] (spExpected K) f17 _ := ⟨g17, k17, b17, ok_expected F17 TM C18⟩
  have C16 : Cal l.prog w K mg base 3 "cost" ["plan", "counts"] (spCost K) f16 _ := ⟨g16, k16, b16, ok_costP F16 C17⟩
  have C19 : Cal l.prog w K mg base 19 "best" ["tables", "cond", "shapes", "indexes", "counts"] (spBestT K PB) f19 _ := ⟨g19, k19, b19, (ok_best l19 c19 TB TM C10 C16).mono (by decide)⟩
  have C20 : Cal l.prog w K mg base 19 "_law_mix" ["_law_script", "_law_seed"] (spMix K) f20 _ := ⟨g20, k20, b20, (ok_mix F20 T1).mono (by decide)⟩
  have C21 : Cal l.prog w K mg base 1 "_law_next" ["_law_h", "_law_many"] spNext f21 _ := ⟨g21, k21, b21, ok_next F21 T1⟩
  have C23 : Cal l.prog w K mg base 2 "_law_number" ["_law_h"] spNumber f23 _ := ⟨g23, k23, b23, ok_number F23 C21⟩
  have C22 : Cal l.prog w K mg base 19 "_law_shapes" ["_law_h", "_law_many"] (spShapes K) f22 _ := ⟨g22, k22, b22, (ok_shapes F22 T1 C21).mono (by decide)⟩
  have C24 : Cal l.prog w K mg base 18 "_law_term" ["_law_h", "_law_fields", "_law_deep"] (spTerm K 3) f24 _ := ⟨g24, k24, b24, (all_term F24 T1 C21 C23 g24 b24 3).mono (by decide)⟩
  have Ct2 : Cal l.prog w K mg base 4 "_law_term" ["_law_h", "_law_fields", "_law_deep"] (spTerm K 2) f24 _ := ⟨g24, k24, b24, all_term F24 T1 C21 C23 g24 b24 2⟩
  have C25 : Cal l.prog w K mg base 18 "_law_cond" ["_law_h", "_law_fields", "_law_deep"] (spCond K 4) f25 _ := ⟨g25, k25, b25, (all_cond F25 T1 C21 Ct2 g25 b25 4).mono (by decide)⟩
  have C26 : Cal l.prog w K mg base 18 "_law_some" ["_law_h", "_law_shapes_here", "_law_tables"] (spSome K) f26 _ := ⟨g26, k26, b26, (ok_some F26).mono (by decide)⟩
  have C27 : Cal l.prog w K mg base 19 "_law_ask" ["_law_h", "_law_shapes_here"] (spAsk K) f27 _ := ⟨g27, k27, b27, ok_ask F27 T6 (C21.mono (by decide)) C26 C24 C25⟩
  have C28 : Cal l.prog w K mg base 19 "_law_linked" ["_law_h", "_law_tree", "_law_shapes_here"] (spLinked K) f28 _ := ⟨g28, k28, b28, (ok_linked F28 T6 C21).mono (by decide)⟩
  have C29 : Cal l.prog w K mg base 19 "_law_indexes" ["_law_h", "_law_shapes_here"] (spIdx K) f29 _ := ⟨g29, k29, b29, (ok_indexes F29 T6 C21).mono (by decide)⟩
  exact ok_law F30 ⟨T6, m_set⟩ plans_AP C20 (C21.mono (by decide)) C22 C29 C28 C27 (C16.mono (by decide)) (C10.mono (by decide)) C19

theorem walk {l : PySem.W.OpenLaw} {q : Program} {loose : List Str} {XP : (Str → Option Value) → Heap → Prop} {YP : World → Heap → Prop} {d : DefRec} {K : Params → PySem.W.Frag} (hn : l.most = some 63) (hdf : d.params.defaults = []) (hrec : ((PyProof.Rows.recsOf q).find? fun e => e.name == (("best" : String) : Str)).isSome = true)
    (hY : ∀ (w : World) (h : Heap), YP w h → (K w.params).In h)
    (F : ∀ (w : World) (mg : Str → Option Value) (fa : Addr) (h : Heap), (K w.params).In h → h.Ns mainGlobals mg → mg d.name = some (.ref fa) → (∀ c P, PySem.W.tabIn (K w.params) "best" = some (c, P) → PySem.W.CodeHd h c P ∧ h.get? P = some { cls := .none, data := .fields #[] }) →
      LamX.LawAtS l w (K w.params) CX0 20 63 "_law_script" mg fa h) :
    PySem.W.WalkO q loose XP YP l.row.toRowW d [] (fun f vs => PySem.call f vs) := by
  refine Att.attach_callB hn hdf fun w s₀ s₁ mg mb fa o pm cd doc a vs ns G Y ho hd hcd hmg hobj hints hlen hbits hg => ?_
  have KX := hY w _ Y
  obtain ⟨dB, hB⟩ := Option.isSome_iff_exists.mp hrec
  obtain ⟨fd, cs, sp, hT, nT, C, hb, hsp, hF⟩ := F w mg fa _ KX G.T.g hmg fun c P ht => PySem.W.tab_of G.T KX hB ht
  exact LamX.law_callTs KX G.T.g G.T.b G.T.builtins G.T.nolimit hg hT nT C G.T.bmain hobj hints (Nat.le_trans hlen (by decide)) ⟨rfl, by decide, by decide⟩ hF hb (fun H hH hS => hsp H a ns hlen hbits hH hS) fun H e s' z => z
end K06
open PySem PySem.W PyProof.Rows in
set_option maxRecDepth 100000 in
set_option maxHeartbeats 0 in
theorem PySem.Challenge.cw_granary_k24_whole_indexes_give_plans_mor_holds : PySem.Challenge.rw_granary_k24_whole_indexes_give_plans_mor.Holds := by
  w_on; o_law; k_head; (case hw => w_witness2)
  k_fill
  refine K06.walk (l := PySem.Challenge.rw_granary_k24_whole_indexes_give_plans_mor) rfl rfl (by decide +kernel) (fun w h Y => PySem.W.km_in_of Y) ?F
  case F =>
    intro w mg fa h KX G hmg hTab
    refine' K06.all_mk KX G hmg ?a1 ?l1 ?c1 ?k1 ?a2 ?l2 ?c2 ?k2 ?a3 ?l3 ?c3 ?k3 ?a4 ?l4 ?c4 ?k4 ?a5 ?l5 ?c5 ?k5 ?a6 ?l6 ?c6 ?k6 ?a7 ?l7 ?c7 ?k7 ?a8 ?l8 ?c8 ?k8 ?a9 ?l9 ?c9 ?k9 ?a10 ?l10 ?c10 ?k10 ?a11 ?l11 ?c11 ?k11 ?a12 ?l12 ?c12 ?k12 ?a13 ?l13 ?c13 ?k13 ?a14 ?l14 ?c14 ?k14 ?a15 ?l15 ?c15 ?k15 ?a16 ?l16 ?c16 ?k16 ?a17 ?l17 ?c17 ?k17 ?a18 ?l18 ?c18 ?k18 ?a19 ?l19 ?c19 ?k19 ?a20 ?l20 ?c20 ?k20 ?a21 ?l21 ?c21 ?k21 ?a22 ?l22 ?c22 ?k22 ?a23 ?l23 ?c23 ?k23 ?a24 ?l24 ?c24 ?k24 ?a25 ?l25 ?c25 ?k25 ?a26 ?l26 ?c26 ?k26 ?a27 ?l27 ?c27 ?k27 ?a28 ?l28 ?c28 ?k28 ?a29 ?l29 ?c29 ?k29 ?a30 ?l30 ?c30 ?k30 ?z_len ?z_range ?z_list ?z_tuple ?z_max ?z_sorted ?z_min ?z_int ?z_dict ?z_isinstance ?z_bool ?z_str ?z_any ?z_all ?z_enumerate ?z_set ?aC ?lC ?hC ?vC ?aJ ?lJ ?hJ ?vJ ?aQ ?aT ?lT ?vT ?t1 ?t2 ?t3 ?t4 ?t5 ?tI ?nP hTab
    (case a1 => k_is)
    (case l1 => k_is)
    (case c1 => k_is)
    (case k1 => k_is)
    (case a2 => k_is)
    (case l2 => k_is)
    (case c2 => k_is)
    (case k2 => k_is)
    (case a3 => k_is)
    (case l3 => k_is)
    (case c3 => k_is)
    (case k3 => k_is)
    (case a4 => k_is)
    (case l4 => k_is)
    (case c4 => k_is)
    (case k4 => k_is)
    (case a5 => k_is)
    (case l5 => k_is)
    (case c5 => k_is)
    (case k5 => k_is)
    (case a6 => k_is)
    (case l6 => k_is)
    (case c6 => k_is)
    (case k6 => k_is)
    (case a7 => k_is)
    (case l7 => k_is)
    (case c7 => k_is)
    (case k7 => k_is)
    (case a8 => k_is)
    (case l8 => k_is)
    (case c8 => k_is)
    (case k8 => k_is)
    (case a9 => k_is)
    (case l9 => k_is)
    (case c9 => k_is)
    (case k9 => k_is)
    (case a10 => k_is)
    (case l10 => k_is)
    (case c10 => k_is)
    (case k10 => k_is)
    (case a11 => k_is)
    (case l11 => k_is)
    (case c11 => k_is)
    (case k11 => k_is)
    (case a12 => k_is)
    (case l12 => k_is)
    (case c12 => k_is)
    (case k12 => k_is)
    (case a13 => k_is)
    (case l13 => k_is)
    (case c13 => k_is)
    (case k13 => k_is)
    (case a14 => k_is)
    (case l14 => k_is)
    (case c14 => k_is)
    (case k14 => k_is)
    (case a15 => k_is)
    (case l15 => k_is)
    (case c15 => k_is)
    (case k15 => k_is)
    (case a16 => k_is)
    (case l16 => k_is)
    (case c16 => k_is)
    (case k16 => k_is)
    (case a17 => k_is)
    (case l17 => k_is)
    (case c17 => k_is)
    (case k17 => k_is)
    (case a18 => k_is)
    (case l18 => k_is)
    (case c18 => k_is)
    (case k18 => k_is)
    (case a19 => k_is)
    (case l19 => k_is)
    (case c19 => k_is)
    (case k19 => k_is)
    (case a20 => k_is)
    (case l20 => k_is)
    (case c20 => k_is)
    (case k20 => k_is)
    (case a21 => k_is)
    (case l21 => k_is)
    (case c21 => k_is)
    (case k21 => k_is)
    (case a22 => k_is)
    (case l22 => k_is)
    (case c22 => k_is)
    (case k22 => k_is)
    (case a23 => k_is)
    (case l23 => k_is)
    (case c23 => k_is)
    (case k23 => k_is)
    (case a24 => k_is)
    (case l24 => k_is)
    (case c24 => k_is)
    (case k24 => k_is)
    (case a25 => k_is)
    (case l25 => k_is)
    (case c25 => k_is)
    (case k25 => k_is)
    (case a26 => k_is)
    (case l26 => k_is)
    (case c26 => k_is)
    (case k26 => k_is)
    (case a27 => k_is)
    (case l27 => k_is)
    (case c27 => k_is)
    (case k27 => k_is)
    (case a28 => k_is)
    (case l28 => k_is)
    (case c28 => k_is)
    (case k28 => k_is)
    (case a29 => k_is)
    (case l29 => k_is)
    (case c29 => k_is)
    (case k29 => k_is)
    (case a30 => k_is)
    (case l30 => k_is)
    (case c30 => k_is)
    (case k30 => k_is)
    (case z_len => k_is)
    (case z_range => k_is)
    (case z_list => k_is)
    (case z_tuple => k_is)
    (case z_max => k_is)
    (case z_sorted => k_is)
    (case z_min => k_is)
    (case z_int => k_is)
    (case z_dict => k_is)
    (case z_isinstance => k_is)
    (case z_bool => k_is)
    (case z_str => k_is)
    (case z_any => k_is)
    (case z_all => k_is)
    (case z_enumerate => k_is)
    (case z_set => k_is)
    (case aC => k_is)
    (case lC => k_is)
    (case hC => decide)
    (case vC => exact .cons ⟨_, rfl⟩ (.cons ⟨_, rfl⟩ (.cons ⟨_, rfl⟩ (.cons ⟨_, rfl⟩ (.cons ⟨_, rfl⟩ (.nil))))))
    (case aJ => k_is)
    (case lJ => k_is)
    (case hJ => decide)
    (case vJ => exact .cons ⟨_, rfl⟩ (.cons ⟨_, rfl⟩ (.cons ⟨_, rfl⟩ (.cons ⟨_, rfl⟩ (.cons ⟨_, rfl⟩ (.cons ⟨_, rfl⟩ (.cons ⟨_, rfl⟩ (.cons ⟨_, rfl⟩ (.cons ⟨_, rfl⟩ (.cons ⟨_, rfl⟩ (.nil)))))))))))
    (case aQ => k_is)
    (case aT => k_is)
    (case lT => k_is)
    (case vT => exact ⟨⟨_, _, rfl, rfl⟩, ⟨_, _, rfl, rfl⟩, ⟨_, _, rfl, rfl⟩, ⟨_, _, rfl, rfl⟩, ⟨_, _, rfl, rfl⟩, trivial⟩)
    (case t1 => k_is)
    (case t2 => k_is)
    (case t3 => k_is)
    (case t4 => k_is)
    (case t5 => k_is)
    (case tI => first | k_is | rfl)
    (case nP => first | k_is | rfl)

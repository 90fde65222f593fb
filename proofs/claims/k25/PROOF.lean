import PyProof.Rows.All
import Wide.All
import OpenK.AllK
import Wide.FinOn
import HandS.ForMost
import HandS.IsInst
import HandS.TupAny
import HandS.Deep
import HandS.DeepEq
import KE.GoesEnum
import HandS.Walk
import HandS.TupSets
import HandS.SetTxt0
import HandS.Strs
import HandS.SetKeys
import HandS.Style
import PySem.Challenge.RW_granary_k25_whole_what_several_condition
import PyProof.P3Eq
import HandS.More
set_option Elab.async false
namespace RK
open PySem L2
section
variable {X : Cx} {K : PySem.W.Frag}
theorem ixL (h : X.K = K := by rfl) : IxR X (rIxL K) := by subst h; exact ix_list
theorem ixT (h : X.K = K := by rfl) : IxR X (rIxT K) := by subst h; exact ix_tup
theorem ixQ (h : X.K = K := by rfl) : IxR X (rIx K) := by subst h; exact ix_seq
theorem eqD (hu : X.A.units + 64 < cLine) (h : X.K = K := by rfl) : OpR X (compareOp .Eq) (rEqD K) := by subst h; exact op_eqD hu
theorem neD (hu : X.A.units + 64 < cLine) (h : X.K = K := by rfl) : OpR X (compareOp .NotEq) (rNeD K) := by subst h; exact op_neD hu
theorem inQ (h : X.K = K := by rfl) : OpR X (compareOp .In) (rIn K false) := by subst h; exact op_in_seq
theorem notInQ (h : X.K = K := by rfl) : OpR X (compareOp .NotIn) (rIn K true) := by subst h; exact op_notIn_seq
def rLenQ (K : PySem.W.Frag) : List V → Hp → VK → Prop := fun xs H Q => ∃ p ys, xs = [.ref p] ∧ (SqL K H p ys ∨ SqT K H p ys) ∧ Q (.int ys.length) H
theorem lenQ (h : X.K = K := by rfl) : CallR X (.builtin "len") (rLenQ K) := by subst h; exact call_len_seq
def rListQ (K : PySem.W.Frag) : List V → Hp → VK → Prop := fun xs H Q => ∃ p ys, xs = [.ref p] ∧ (SqL K H p ys ∨ SqT K H p ys) ∧ ∀ l, H l = none → Q (.ref l) (upd H l (.lst ys))
theorem listQ (h : X.K = K := by rfl) : CallR X (.type "list") (rListQ K) := by subst h; exact call_list_of
def rTupQ (K : PySem.W.Frag) : List V → Hp → VK → Prop := fun xs H Q => ∃ p ys, xs = [.ref p] ∧ ((SqL K H p ys ∧ ∀ l, H l = none → Q (.ref l) (upd H l (.tup ys))) ∨ (SqT K H p ys ∧ Q (.ref p) H))
theorem tupQ (h : X.K = K := by rfl) : CallR X (.type "tuple") (rTupQ K) := by subst h; exact call_tuple_of
theorem slL (h : X.K = K := by rfl) : SlR X (rSlL K) := by subst h; exact sl_list
theorem slT (h : X.K = K := by rfl) : SlR X (rSlA K) := by subst h; exact sl_tupA
theorem catT (h : X.K = K := by rfl) : OpR X (binaryOp .Add) (rCatA K) := by subst h; exact op_catA
theorem isi (h : X.K = K := by rfl) : CallR X (.builtin "isinstance") (rIsi K) := by subst h; exact call_isi
theorem isiT (h : X.K = K := by rfl) : CallR X (.builtin "isinstance") (rIsiT K) := by subst h; exact call_isiT
theorem piL {tg l : Expr} {tl : TE} (hl : PE X l tl) (h : X.K = K := by rfl) : PI X tg l (iList K tl) := by subst h; exact pi_list hl
theorem piT {tg l : Expr} {tl : TE} (hl : PE X l tl) (h : X.K = K := by rfl) : PI X tg l (iTup K tl) := by subst h; exact pi_tup hl
def rAllQ (K : PySem.W.Frag) : List V → Hp → VK → Prop := fun xs H Q => ∃ (a : Addr) (bs : List Bool), xs = [.ref a] ∧ SqL K H a (bs.map V.bl) ∧ Q (.bl (bs.all id)) H
def rAnyQ (K : PySem.W.Frag) : List V → Hp → VK → Prop := fun xs H Q => ∃ (a : Addr) (bs : List Bool), xs = [.ref a] ∧ SqL K H a (bs.map V.bl) ∧ Q (.bl (bs.any id)) H
theorem allQ (hc : X.calm = true) (h : X.K = K := by rfl) : CallR X (.builtin "all") (rAllQ K) := by subst h; exact cr_all hc
theorem anyQ (hc : X.calm = true) (h : X.K = K := by rfl) : CallR X (.builtin "any") (rAnyQ K) := by subst h; exact cr_any hc
theorem pgTup {es : List Expr} {kk n : Nat} {pos : Pos} {t : TGs} (hc : X.calm = true) (ht : PGs X es t) (h : X.K = K := by rfl) (hn : (assignEach es X.env).length = n := by rfl) (hst : (assignEach es X.env).findIdx? (·.1) = none := by rfl) :
    PG X (.Tuple es kk pos) (gTup K n t) := by subst h; exact pg_tup hc ht hn hst
end
end RK

set_option Elab.async false
namespace RK
open PySem L2
section
variable {X : Cx} {K : PySem.W.Frag} {o e : Expr} {es : List Expr} {to : TE} {t : TA} {name : Str} {apos cpos : Pos} {T id : String} {r : V → List V → Hp → VK → Prop}
/-- a method of a list, in a comprehension too -/
theorem bm (pa : PlainAttrs T) (slot : Slot T name id) (ty : typeOf (.builtin id) = pure (.type "method_descriptor")) (mt : MtR X id r) (ho : PE X o to) (ha : PA X (e :: es) t) (hK : X.K = K := by rfl)
    (h1 : attributeBase o name X.env (eval o X.env) = eval o X.env := by rfl)
    (h2 : ((backTo cpos (starEach (e :: es) X.env)).all (fun y => !y.1) && (backToKw cpos (keywordEach [] X.env)).all (fun y => y.1.isSome)
      && decide ((e :: es).length + ([] : List Keyword).length + (if ([] : List Keyword).isEmpty then 0 else 1) < 30)) = true := by rfl)
    (h3 : (apos.endLine == cpos.line) = true := by rfl) (h4 : starEach (e :: es) X.env = (false, eval e X.env) :: starEach es X.env := by rfl) (h5 : (backTo cpos (starEach es X.env)).any (·.1) = false := by rfl) :
    PE X (.Call (.Attribute o name apos) (e :: es) [] cpos) (tBM K T r to t) := by subst hK; exact pe_bm pa slot ty mt ho ha h1 h2 h3 h4 h5
theorem bm0 (pa : PlainAttrs T) (slot : Slot T name id) (ty : typeOf (.builtin id) = pure (.type "method_descriptor")) (mt : MtR X id r) (ho : PE X o to) (hK : X.K = K := by rfl)
    (h1 : attributeBase o name X.env (eval o X.env) = eval o X.env := by rfl) (h2 : (apos.endLine == cpos.line) = true := by rfl) : PE X (.Call (.Attribute o name apos) [] [] cpos) (tBM0 K T r to) := by subst hK; exact pe_bm0 pa slot ty mt ho h1 h2
def rDictQ (K : PySem.W.Frag) : List V → Hp → VK → Prop := fun xs H Q => ∃ (a : Addr) (ps : List Addr) (kvs : List (Key × V)), xs = [.ref a] ∧ SqL K H a (ps.map V.ref) ∧ Paired (fun q kv => SqT K H q [kV kv.1, kv.2]) ps kvs ∧ ∀ q, H q = none → Q (.ref q) (upd H q (.dK (mergeK [] kvs)))
theorem dictQ (hc : X.calm = true) (h : X.K = K := by rfl) : CallR X (.type "dict") (rDictQ K) := by subst h; exact call_dictP hc
theorem minQ (hc : X.calm = true) (h : X.K = K := by rfl) : CallR X (.builtin "min") (rMin K) := by subst h; exact cr_min hc
theorem indexQ (h : X.K = K := by rfl) : MtR X "list.index" (rIndex K) := by subst h; exact mt_index
theorem inD (hu : X.A.units + 65 < cLine) (h : X.K = K := by rfl) : OpR X (compareOp .In) (rInD K) := by subst h; exact op_inD hu
end
end RK

set_option Elab.async false
set_option maxRecDepth 100000
set_option maxHeartbeats 4000000
/-! a pair the other way about: t[::-1] -/
namespace RV
open PySem PySem.Spec PyProof.Rows L2
section
variable {prog : Program} {w : World} {A : Around} {E : Value → Shared → Prop} {s : Shared}
theorem back2 {sl : Addr} {vl vu vs : Value} {Q : Int × Int × Nat → Shared → Prop} (hs : s.heap.IsSliceOf sl vl vu vs) (pl : IsPart vl none) (pu : IsPart vu none) (ps : IsPart vs (some (-1)))
    (q : Q (1, -1, 2) s) : wpAny (model prog w) A (Builtin.Slice.sliceApplied (.ref sl) (pure 2)) Q E s := by
  obtain ⟨o, e1, e2, e3⟩ := id hs
  (unfold Builtin.Slice.sliceApplied; unfold Builtin.Slice.sliceFields)
  refine wpAny_bind (wpAny_bind (wpAny_field e1 e3 (x := vl) rfl (wpAny_bind (wpAny_field e1 e3 (x := vu) rfl (wpAny_bind (wpAny_field e1 e3 (x := vs) rfl (wpAny_pure (wpAny_bind (HT.slicePart_ ps ?_)))))))))
  show wpAny _ _ (if ((-1 : Int) == 0) = true then _ else _) _ _ s
  rw [if_neg (show ¬ ((-1 : Int) == 0) = true by decide)]
  refine wpAny_bind (HT.slicePart_ pl (wpAny_bind (HT.slicePart_ pu (wpAny_bind (wpAny_pure ?_)))))
  exact wpAny_pure q
theorem turned2 {t sl : Addr} {x y vl vu vs : Value} {Q : Value → Shared → Prop} (ht : IsTup s.heap t #[x, y]) (hs : s.heap.IsSliceOf sl vl vu vs) (pl : IsPart vl none) (pu : IsPart vu none) (ps : IsPart vs (some (-1)))
    (q : Q (.ref s.heap.objs.size) { s with heap := s.heap.push { cls := .type "tuple", data := .seq #[y, x] } }) : wpAny (model prog w) A (getItem (.ref t) (.ref sl)) Q E s := by
  have two : sizeOk (.seq #[y, x]) := by
    show (#[y, x] : Array Value).size ≤ sizeLine
    exact (by decide : 2 ≤ sizeLine)
  obtain ⟨o, e1, e2, e3⟩ := id hs
  have isSl : s.TypeIs (.ref sl) "slice" := ⟨o, e1, e2⟩
  (unfold getItem; try (with_reducible refine wpAny_holding ?_)); (first | refine wpAny_bind (wpAny_pure ?_) | skip)
  refine wpAny_bind (wpAny_sequenceKey ht.typeIs (by decide) (wpAny_bind (wpAny_callSpecial?_slot (name := Str.ofString "__getitem__") ht.typeIs PyProof.Rows.slot_tuple_getitem (wpAny_call_entry PyProof.Rows.slot_tuple_getitem ht.typeIs entry_tuple_getitem ?_ (args_tuple_getitem _ _)))))
  refine wpAny_bind (m := Builtin.Tuple.tupleItemsOf (.ref t)) (tupleItemsOf_ ht (wpAny_bind (wpAny_typeOf isSl ?_)))
  rw [if_pos (show (Value.type "slice" == Value.type "slice") = true by decide)]
  refine wpAny_bind (back2 hs pl pu ps ?_)
  show wpAny _ _ (if ((1 : Int) == 0 && (-1 : Int) == 1 && (2 : Nat) == 2) = true then _ else _) _ _ s
  rw [if_neg (show ¬ ((1 : Int) == 0 && (-1 : Int) == 1 && (2 : Nat) == 2) = true by decide)]
  show wpAny _ _ (Builtin.Tuple.tupleExact #[y, x] >>= _) _ _ s
  first
    | exact wpAny_bind (wpAny_newObj_type (wpAny_pure ⟨_, rfl, wpAny_pure q⟩) two)
    | exact wpAny_bind (wpAny_newObj_type (wpAny_bind (wpAny_pure (wpAny_pure ⟨_, rfl, wpAny_pure q⟩))) two)
end
end RV
namespace L2
open PySem PySem.Spec PyProof.Rows
section
variable {X : Cx}
/-- t[::-1], t a pair -/
def tRevP (K : PySem.W.Frag) (te : TE) : TE := fun σ H Q => te σ H fun x H1 => ∃ a u v, x = .ref a ∧ SqT K H1 a [u, v] ∧ ∀ p, H1 p = none → Q (.ref p) (upd H1 p (.tup [v, u]))
theorem pe_revP {K : PySem.W.Frag} {e : Expr} {te : TE} {k : Nat} {p1 p2 p3 pos : Pos} (he : PE X e te) (hK : X.K = K := by rfl) :
    PE X (.Subscript e (.Slice none none (some (.UnaryOp .USub (.Constant (.int 1) k p1) p2)) p3) pos) (tRevP K te) := by
  subst hK
  refine ⟨fun pins s σ H Q I h => Subscript_ (thn (he.run pins s σ H _ I h) fun v0 s1 ⟨x, H1, I1, r1, z⟩ => ?_)⟩
  obtain ⟨a, u, v, ex, hx, q⟩ := z
  subst ex
  cases r1
  have hm : PO X (some (.UnaryOp .USub (.Constant (.int 1) k p1) p2)) (tPart (tUn (rU fun i => .int (-i)) (tC (.int 1)))) := po_some (pe_un un_neg pe_int)
  refine wpAny_Slice (thn (po_none.run pins s1 σ H1 (fun o H2 => o = none ∧ H2 = H1) I1 ⟨rfl, rfl⟩) fun vl s2 ⟨l, H2, I2, pl, ea, eb⟩ => ?_)
  subst ea eb
  refine thn (po_none.run pins s2 σ H2 (fun o H3 => o = none ∧ H3 = H2) I2 ⟨rfl, rfl⟩) fun vu s3 ⟨o3, H3, I3, pu, ea, eb⟩ => ?_
  subst ea eb
  refine thn (hm.run pins s3 σ H3 (fun o H4 => o = some (-1) ∧ H4 = H3) I3 ⟨1, rfl, -1, rfl, rfl, rfl⟩) fun vs s4 ⟨o, H4, I4, ps, ea, eb⟩ => ?_
  subst ea eb
  have J : Inv X pins σ H4 { s4 with heap := s4.heap.push { cls := .type "slice", data := .fields #[vl, vu, vs] } } := I4.kept (t' := s4.toks) fun b ob c => Heap.get?_push_of_some _ c
  obtain ⟨its, r, ht, hz⟩ := J.tuple hx
  obtain ⟨u1, v1, rfl, ru, rv⟩ := vals2 r
  show wpAny _ X.A (subscriptTail e (.Slice none none (some (.UnaryOp .USub (.Constant (.int 1) k p1) p2)) p3) (.ref a) (.ref s4.heap.objs.size)) _ X.xe _
  refine tail_any (ops := [.ref a, .ref s4.heap.objs.size]) ht.typeIs PyProof.Rows.slot_tuple_getitem.lookup ?_ (by with_unfolding_all rfl)
  refine RV.turned2 ht (Heap.IsSliceOf.new _ vl vu vs) pl pu ps ?_
  exact ⟨.ref _, _, J.laid (t' := s4.toks) (o := .tup [v, u]) (fun b ob c => Heap.get?_push_of_some _ c) (Nat.le_refl _) ⟨(by decide : 2 ≤ sizeLine), [v1, u1], .cons rv (.cons ru .nil), IsTup.new _ _⟩, rfl, q _ (J.hok.fresh (Nat.le_refl _))⟩
end
end L2

set_option Elab.async false
set_option maxRecDepth 100000
set_option maxHeartbeats 4000000
/-! a != b, two dicts that are equal, or None twice -/
namespace L2
open PySem PySem.Spec PyProof.Rows
def AlikeV (K : PySem.W.Frag) (H : Hp) (x u : V) : Prop := ∃ d e, Dp K H x d ∧ Dp K H u e ∧ SeqAt.shaped d = true ∧ SeqAt.shaped e = true ∧ PyData.eqv d e = true
def rNeSame (K : PySem.W.Frag) : R2 := fun x y H Q => (x = .non ∧ y = .non ∧ Q (.bl false) H) ∨
  ∃ a b ks ls, x = .ref a ∧ y = .ref b ∧ H a = some (.dK ks) ∧ H b = some (.dK ls) ∧ ks.length = ls.length ∧ (∀ p ∈ ks, ∃ u, valV ls p.1 = some u ∧ AlikeV K H p.2 u) ∧ Q (.bl false) H
section
variable {X : Cx} {pins : List (Addr × Obj)} {σ : St} {H : Hp} {s : Shared}
theorem same_hits (I : Inv X pins σ H s) {A : Around} (hu : A.in1.units + 64 < cLine) {ls : List (Key × V)} {vb : List (Key × Value)} (rb : KV ls vb) {ks : List (Key × V)} {va : List (Key × Value)} (ra : KV ks va) :
    (∀ p ∈ ks, ∃ u, valV ls p.1 = some u ∧ AlikeV X.K H p.2 u) → PySem.W.KeqHits A.in1 s vb va true := by
  unfold KV at ra
  induction ra with
  | nil => exact fun _ => .nil
  | @cons p q ps qs h t ih =>
    intro all
    obtain ⟨u, e1, d, e, d1, d2, sd, se, ev⟩ := all p List.mem_cons_self
    have rr : RelO (some u) (valueAt vb p.1) := by rw [← e1]; exact rb.val p.1
    obtain ⟨y, hy, ry⟩ := rr.some_of
    obtain ⟨key, v⟩ := q
    obtain ⟨k1, k2⟩ := h
    have k1 : p.1 = key := k1
    rw [k1] at hy
    obtain ⟨as, r1⟩ := Dp.reads I d _ _ d1 k2
    obtain ⟨bs, r2⟩ := Dp.reads I e _ _ d2 ry
    have at1 := PySem.W.keq_at (A := A) r1 r2 sd se hu
    rw [ev] at at1
    exact .hit (b := true) hy at1 (ih fun p' m => all p' (List.mem_cons_of_mem _ m))
theorem op_neSame {K : PySem.W.Frag} (hu : X.A.units + 66 < cLine) (hK : X.K = K := by rfl) : OpR X (compareOp .NotEq) (rNeSame K) := by
  subst hK
  intro pins s σ H x y v u Q I rx ry h
  rcases h with ⟨rfl, rfl, q⟩ | ⟨a, b, ks, ls, rfl, rfl, ha, hb, hl, all, q⟩
  · exact op_ne pins s σ H .non .non v u Q I rx ry ⟨rfl, q⟩
  · obtain rfl : v = Value.ref a := rx
    obtain rfl : u = Value.ref b := ry
    obtain ⟨_, ya, va, ra, da⟩ := (show ObjOk X.prog X.w H s.heap a (.dK ks) from I.hok a _ ha)
    obtain ⟨_, yb, vb, rb, db⟩ := (show ObjOk X.prog X.w H s.heap b (.dK ls) from I.hok b _ hb)
    refine PySem.W.keq_ne (knd := mixKind X.prog X.w) (r := true) ya yb da db (by omega) (fun _ => same_hits I (A := X.A) (by show X.A.units + 1 + 64 < cLine; omega) rb ra all) ?_
    have e : va.length = vb.length := by rw [← ra.length, ← rb.length]; exact hl
    rw [show (!(va.length == vb.length && true)) = false by rw [e]; simp]
    exact ⟨.bl false, H, I, rfl, q⟩
end
end L2

set_option Elab.async false
set_option maxRecDepth 100000
set_option maxHeartbeats 4000000
namespace EN
open PySem PySem.Spec PyProof.Rows L2
open Sem (wp)
/-- enumerate(v) of anything whose iter is told -/
theorem enum_new1 {v : Value} {ob : Obj} {G : Heap → Prop} (B : Begins v ob G) :
    Meets (Builtin.«enumerate.__new__» ⟨[.type "enumerate", v], []⟩) (fun _ R s => G s.heap ∧
      R (.ok (.ret (.ref (s.heap.push ob).objs.size))) { s with heap := (s.heap.push ob).push ⟨.type "enumerate", none, .fields #[.none, .bool false, .ref s.heap.objs.size, rawInt 0, .none, .none], #[]⟩ }) :=
  .of_wp fun prog w A R sh hh => by
    obtain ⟨hp, gg, dd, tt, oo⟩ := sh; obtain ⟨g1, hh⟩ := hh
    have hsub := sub_enumerate
    have qi : ∀ {A' : Around} {E Q : Value → Shared → Prop}, Q (.ref hp.objs.size) ⟨hp.push ob, gg, dd, tt, oo⟩ → wpAny (model prog w) A' (pyIter v) Q E ⟨hp, gg, dd, tt, oo⟩ :=
      fun q => B.iter prog w _ _ ⟨hp, gg, dd, tt, oo⟩ _ g1 q
    wp_walk using qi
    refine wpAny_stack_any fun stk => wpAny_pure ?_
    split
    · rename_i cc _ _ _ _ _
      cases (cc == Value.type "enumerate")
      · wp_walk using qi
        exact ⟨_, rfl, hh⟩
      · wp_walk using qi
        exact ⟨_, rfl, hh⟩
    · wp_walk using qi
      exact ⟨_, rfl, hh⟩
theorem enum_call1 {prog : Program} {w : World} {A : Around} {E Q : Value → Shared → Prop} {s : Shared} {v : Value} {ob : Obj} {G : Heap → Prop} (B : Begins v ob G) (g1 : G s.heap)
    (k : ∀ h2, IsEnum h2 (s.heap.objs.size + 1) s.heap.objs.size 0 .none → h2.get? s.heap.objs.size = some ob → h2.objs.size = s.heap.objs.size + 2 →
      (∀ b o, s.heap.get? b = some o → h2.get? b = some o) → Q (.ref (s.heap.objs.size + 1)) { s with heap := h2 }) :
    wpAny (model prog w) A (call (.type "enumerate") [v]) Q E s := by
  refine callType_new F.called_enumerate (by decide) (F.typeCall_enumerate_1 _) (F.newCall_enumerate_1 _) (fun oj => F.args_object_init_2 oj _) F.entry_enumerate_new (enum_new1 B) ⟨g1, ?_⟩
  have hz : (s.heap.push ob).objs.size = s.heap.objs.size + 1 := Heap.size_push ..
  show _ ∧ _
  rw [hz]
  have he : IsEnum ((s.heap.push ob).push ⟨.type "enumerate", none, .fields #[.none, .bool false, .ref s.heap.objs.size, rawInt 0, .none, .none], #[]⟩) (s.heap.objs.size + 1) s.heap.objs.size 0 .none := by
    have q := Heap.get?_push_size (s.heap.push ob) (o := ⟨.type "enumerate", none, .fields #[.none, .bool false, .ref s.heap.objs.size, rawInt 0, .none, .none], #[]⟩) rfl
    rw [hz] at q
    exact q
  exact ⟨⟨_, he, rfl⟩, k _ he (Heap.get?_push_of_some _ (Heap.get?_push_size _ B.free)) (by rw [Heap.size_push, hz]) fun b o x => Heap.get?_push_of_some _ (Heap.get?_push_of_some _ x)⟩
/-- a tuple at a, each item in a new pair -/
def IteT (K : PySem.W.Frag) (a : Addr) : It :=
  ⟨fun i H => ∃ (xs : List V) (x : V), SqT K H a xs ∧ xs[i]? = some x, fun i H v H' => ∃ T x, v = .ref T ∧ H T = none ∧ H' = upd H T (.tup [.int (i : Nat), x]) ∧ ∀ xs, SqT K H a xs → xs[i]? = some x,
    fun i H => ∃ xs : List V, SqT K H a xs ∧ xs.length ≤ i⟩
theorem turn_enumT {P : Program} {w : World} {K : PySem.W.Frag} {elts : List Expr} {kk : Nat} {tpos : Pos} (a e it : Addr) :
    Turn P w K (.Tuple elts kk tpos) (IteT K a) [e, it] e (fun i h => (∃ old, IsEnum h e it ((i : Nat) : Int) old) ∧ h.IsTupleIter it a i ∧ e ≠ it ∧ e ≠ a ∧ a ≠ it) where
  mem := by simp
  obj := fun i h st b hb => by
    obtain ⟨⟨old, he⟩, ⟨o, ho, hc, hd⟩, _⟩ := st
    have e' : b = e ∨ b = it := by simpa using hb
    rcases e' with z | z
    · rw [z]; exact ⟨_, he, fun v q => nomatch q⟩
    · rw [z]; exact ⟨o, ho, fun v q => by rw [hd] at q; cases q⟩
  keep := fun i h h' st k => let ⟨⟨old, he⟩, hi, hne⟩ := st; ⟨⟨old, k e (by simp) _ he⟩, hi.at fun o q => k it (by simp) o q, hne⟩
  item := by
    intro X hP hw hK hc i pins s σ H E I hf st hg
    subst hP hw hK
    obtain ⟨⟨old, he⟩, hit, hne, hea, hai⟩ := st
    obtain ⟨xs, x, hq, hx⟩ := hg
    obtain ⟨its, rv, p, hz⟩ := I.tuple hq
    obtain ⟨u, hu, ru⟩ := rv.get hx
    have hel : e < s.heap.objs.size := Heap.lt_size he
    have hil : it < s.heap.objs.size := by obtain ⟨_, q, _⟩ := hit; exact Heap.lt_size q
    have pt : s.heap.IsTuple a its.toArray := p
    have hlt : i < its.toArray.size := by
      have q := (List.getElem?_eq_some_iff.mp hu).1
      simpa using q
    refine wpAny_pyNext_enum_itemD (Draws.tuple (A := X.A.in1) (show X.A.in1.handled = none from I.ok.hd hc) it a hai its.toArray) he ⟨hit, pt⟩ hlt hne (by simp [hne, hea]) fun y h' tk hy ho hit' hT hsz hk => ?_
    obtain rfl : y = u := by
      have q : its.toArray[i]? = some u := by simpa using hu
      rw [hy] at q
      exact Option.some.inj q
    refine ⟨_, rfl, wpAny_letOwnedTupleGo_enum (s := { s with heap := h', toks := tk + 1 }) ho fun h'' he' sb => ?_⟩
    have hT2 : h''.get? s.heap.objs.size = some { cls := .type "tuple", data := .seq #[.int i tk, y] } := (sb.2 _ (Nat.ne_of_gt hel)).trans hT
    have new : ObjOk X.prog X.w (upd H s.heap.objs.size (.tup [.int (i : Nat), x])) h'' s.heap.objs.size (.tup [.int (i : Nat), x]) :=
      ⟨by show 2 ≤ sizeLine; decide, [.int i tk, y], .cons ⟨_, rfl⟩ (.cons ru .nil), ⟨_, hT2, rfl, _, rfl⟩⟩
    have I1 : Inv X pins σ (upd H s.heap.objs.size (.tup [.int (i : Nat), x])) { s with heap := h'', toks := tk + 1 } :=
      I.turnedNew (ch := [e, it]) (fun b ob hb q => (sb.2 b (fun z => hb (by simp [z]))).trans (hk b ob (fun z => hb (by simp [z])) (fun z => hb (by simp [z])) q)) hf (Nat.le_refl _) new
    refine ⟨.ref s.heap.objs.size, _, I1, rfl, ⟨_, x, rfl, I.hok.fresh (Nat.le_refl _), rfl, fun ys hy => by rw [I.tuple_inj hy hq]; exact hx⟩, ⟨⟨y, ?_⟩, hit'.1.at fun o q => (sb.2 it (Ne.symm hne)).trans q, hne, hea, hai⟩, fun b hb => ?_⟩
    · have e1 : ((i + 1 : Nat) : Int) = (i : Int) + 1 := by omega
      rw [e1]; exact he'
    · have hb' : b < s.heap.objs.size := by
        have e' : b = e ∨ b = it := by simpa using hb
        rcases e' with z | z
        · rw [z]; exact hel
        · rw [z]; exact hil
      rw [upd_ne (Nat.ne_of_lt hb')]
      exact (hf b hb).1
  done := by
    intro X hP hw hK hc i pins s σ H E I hf st hg
    subst hP hw hK
    obtain ⟨⟨old, he⟩, hit, hne, hea, hai⟩ := st
    obtain ⟨xs, hq, hx⟩ := hg
    obtain ⟨its, rv, p, hz⟩ := I.tuple hq
    obtain ⟨f0, f1, f2, f3, f4, f5⟩ := hf it (by simp)
    have hl := rv.length
    have pt : s.heap.IsTuple a its.toArray := p
    have hh : X.A.handled = none := I.ok.hd hc
    unfold pyNext
    refine wpAny_bind (wpAny_attempt (wpAny_callSpecial?_slot (name := Str.ofString "__next__") ⟨_, he, rfl⟩ F.slot_enumerate_next (wpAny_call_entry F.slot_enumerate_next ⟨_, he, rfl⟩ F.entry_enumerate_next ?_ (F.args_enumerate_next_1 _))))
    show wpAny _ _ (field (.ref e) 2 >>= _) _ _ _
    refine wpAny_bind (wpAny_field he rfl (x := .ref it) rfl ?_)
    refine wpAny_bind (wpAny_nextOf_tuple_end hh hit pt (by simp; omega) fun h' x he' hx' => ?_)
    obtain ⟨o, ho, hc⟩ := hx'
    exact wpAny_bind (wpAny_isInstance (T := "StopIteration") (b := true) ⟨o, ho, hc⟩ isSubtype_stop (wpAny_pure ⟨rfl, I.turned (t' := s.toks) (fun b o hb q => he' b o hb q) f0 f1 f3 f4 f5⟩))
  self := fun A i s Q E st h => let ⟨⟨_, he⟩, _⟩ := st; wpAny_pyIter_enum he h
def iEnumT (K : PySem.W.Frag) (ta : TA) : TI := fun σ H R => ta σ H fun vs H1 => ∃ a xs, vs = [.ref a] ∧ SqT K H1 a xs ∧ R (IteT K a) H1
theorem pi_enumT {X : Cx} {K : PySem.W.Frag} {e : Expr} {ta : TA} {p pos tpos : Pos} {elts : List Expr} {kk : Nat} (hg : Gl X "enumerate") (hm : X.mg "enumerate" = none) (ha : PA X [e] ta) (hK : X.K = K := by rfl) (hs : starEach [e] X.env = [(false, eval e X.env)] := by rfl) :
    PI X (.Tuple elts kk tpos) (.Call (.Name "enumerate" p) [e] [] pos) (iEnumT K ta) := by
  subst hK
  refine ⟨fun pins s σ H R I h => ?_⟩
  refine Call_ (ld_blt I hg hm boot_enumerate (PyProof.Rows.callWith_type1 (thn (ha.run pos pins s σ H _ I h) fun us s1 ⟨vs, H1, I1, r1, q1⟩ => ?_) hs rfl))
  obtain ⟨a, xs, ex, hq, q⟩ := q1
  subst ex
  cases r1 with
  | cons r rr =>
    cases rr
    cases r
    obtain ⟨its, rv, p', hz⟩ := I1.tuple hq
    have pt : s1.heap.IsTuple a its.toArray := p'
    have hal : a < s1.heap.objs.size := by obtain ⟨_, q, _⟩ := id pt; exact Heap.lt_size q
    refine enum_call1 (begins_tuple a its.toArray) pt fun h' he hit hsz hk => wpAny_pyIter_enum he ?_
    have I2 : Inv X pins σ H1 { s1 with heap := h' } := I1.kept (t' := s1.toks) hk
    refine ⟨s1.heap.objs.size + 1, [s1.heap.objs.size + 1, s1.heap.objs.size], _, _, H1, rfl, I2, turn_enumT a (s1.heap.objs.size + 1) s1.heap.objs.size,
      ⟨⟨.none, he⟩, ⟨_, hit, rfl, rfl⟩, Nat.succ_ne_self _, Nat.ne_of_gt (Nat.lt_succ_of_lt hal), Nat.ne_of_lt hal⟩, fun b hb => ?_, q⟩
    have e' : b = s1.heap.objs.size + 1 ∨ b = s1.heap.objs.size := by simpa using hb
    have hle : s1.heap.objs.size ≤ b := by
      rcases e' with z | z
      · rw [z]; exact Nat.le_add_right _ _
      · rw [z]; exact Nat.le_refl _
    exact I1.fpOk hle (I1.hok.fresh hle)
theorem walk_enumT {K : PySem.W.Frag} {a : Addr} {xs : List V} : Walk (IteT K a) xs.length (fun H => SqT K H a xs) (YPair (fun i => some (.int (i : Nat))) (fun i => xs[i]?)) where
  goes := fun i H hi q => ⟨xs, xs[i], q, List.getElem?_eq_getElem hi⟩
  stops := fun H q => ⟨xs, q, Nat.le_refl _⟩
  yields := fun i H x H' hi q y => let ⟨T, z, e1, e2, e3, e4⟩ := y; ⟨T, _, z, e1, e2, e3, rfl, e4 xs q⟩
end EN

set_option Elab.async false
set_option linter.all false
set_option maxRecDepth 100000
/-! the set table laid anew for masks 7, 15, 31 -/
namespace ST
open PySem PySem.Spec PyProof.Rows L2

def Mk (m : Nat) : Prop := m = 7 ∨ m = 15 ∨ m = 31
theorem all7 : ((List.range 8).all fun i => (List.range 8).all fun j => (List.range 8).any fun k => lcgI 7 i k == j) = true := by decide +kernel
theorem all15 : ((List.range 16).all fun i => (List.range 16).all fun j => (List.range 16).any fun k => lcgI 15 i k == j) = true := by decide +kernel
theorem all31 : ((List.range 32).all fun i => (List.range 32).all fun j => (List.range 32).any fun k => lcgI 31 i k == j) = true := by decide +kernel
theorem of_all {m : Nat} (h : ((List.range (m + 1)).all fun i => (List.range (m + 1)).all fun j => (List.range (m + 1)).any fun k => lcgI m i k == j) = true) {i j : Nat} (hi : i ≤ m) (hj : j ≤ m) : ∃ k, k ≤ m ∧ lcgI m i k = j := by
  have a := List.all_eq_true.mp h i (List.mem_range.mpr (Nat.lt_succ_of_le hi))
  have b := List.all_eq_true.mp a j (List.mem_range.mpr (Nat.lt_succ_of_le hj))
  obtain ⟨k, hk, e⟩ := List.any_eq_true.mp b
  exact ⟨k, Nat.le_of_lt_succ (List.mem_range.mp hk), by simpa using e⟩
theorem round {m : Nat} (hm : Mk m) {i j : Nat} (hi : i ≤ m) (hj : j ≤ m) : ∃ k, k ≤ m ∧ lcgI m i k = j := by
  rcases hm with rfl | rfl | rfl
  · exact of_all all7 hi hj
  · exact of_all all15 hi hj
  · exact of_all all31 hi hj

/-- the way, within the table -/
theorem in_tab (m : Nat) (h : Int) (k : Nat) : way m h k ≤ m := by
  have hi : SetTable.bits h % (m + 1) ≤ m := Nat.le_of_lt_succ (Nat.mod_lt _ (Nat.succ_pos m))
  have hb := runEnd_bd hi
  have q := nth_in (m := m) k (runAt m (SetTable.bits h % (m + 1)) (SetTable.bits h)) (by
    show SetTable.bits h % (m + 1) + (SetTable.runEnd m (SetTable.bits h % (m + 1)) - SetTable.bits h % (m + 1)) ≤ m
    omega)
  show (nth m (runAt m (SetTable.bits h % (m + 1)) (SetTable.bits h)) k).j ≤ m
  omega

/-- a free slot is found where there is one -/
theorem found {m : Nat} (hm : Mk m) (owner : Array (Option Nat)) (h : Int) {j : Nat} (hj : j ≤ m) (hf : oAt owner j = none) :
    ∃ i, SetTable.layClean.free m owner (SetTable.turns m) (SetTable.bits h % (m + 1)) (SetTable.bits h) = some i ∧ i ≤ m ∧ oAt owner i = none := by
  obtain ⟨k, hk, ek⟩ := round hm (runI_le m (SetTable.bits h) 12) hj
  have e : runI m (SetTable.bits h) (12 + k) = j := by rw [runI_tail (bits_lt h)]; exact ek
  have hw : way m h (off m (SetTable.bits h % (m + 1)) (SetTable.bits h) (12 + k)) = j := by
    show (nth m _ _).j = j
    rw [nth_off, itL_run]
    exact e
  obtain ⟨K, k1, k2, k3⟩ := st_least (p := fun q => oAt owner (way m h q) = none) _ (by
    show oAt owner (way m h (off m (SetTable.bits h % (m + 1)) (SetTable.bits h) (12 + k))) = none
    rw [show way m h (off m (SetTable.bits h % (m + 1)) (SetTable.bits h) (12 + k)) = j from hw]
    exact hf)
  refine ⟨way m h K, free_spec m owner (SetTable.turns m) (12 + k) _ _ K (by unfold SetTable.turns; omega) k1 (fun q hq => ?_) ?_, in_tab m h K, k2⟩
  · cases z : oAt owner (nth m (runAt m (SetTable.bits h % (m + 1)) (SetTable.bits h)) q).j with
    | none => exact absurd z (k3 q hq)
    | some _ => rfl
  · show (oAt owner (way m h K)).isNone = true
    rw [show oAt owner (way m h K) = none from k2]
    rfl

/-- n of them sit in the table -/
structure Sit (m n : Nat) (owner : Array (Option Nat)) : Prop where
  sz : owner.size = m + 1
  all : ∀ k, k < n → ∃ j, j ≤ m ∧ oAt owner j = some k
  ps : ∃ ps : List Nat, ps.length = n ∧ ∀ j, j ≤ m → oAt owner j ≠ none → j ∈ ps
theorem sit_one {m n : Nat} (hm : Mk m) {owner : Array (Option Nat)} (W : Sit m n owner) (hl : n ≤ m) (h : Int) :
    ∃ j, SetTable.layClean.free m owner (SetTable.turns m) (SetTable.bits h % (m + 1)) (SetTable.bits h) = some j ∧ Sit m (n + 1) (owner.setIfInBounds j (some n)) := by
  obtain ⟨ps, hps, hin⟩ := W.ps
  obtain ⟨j0, h0, hn0⟩ := st_missing ps (m + 1) (by omega)
  have hj0 : oAt owner j0 = none := by
    cases z : oAt owner j0 with
    | none => rfl
    | some k => exact absurd (hin j0 (Nat.le_of_lt_succ h0) (by rw [z]; exact fun e => nomatch e)) hn0
  obtain ⟨i, e1, e2, e3⟩ := found hm owner h (Nat.le_of_lt_succ h0) hj0
  have his : i < owner.size := by rw [W.sz]; exact Nat.lt_succ_of_le e2
  have self := oAt_set_self (some n) his
  refine ⟨i, e1, by rw [Array.size_setIfInBounds]; exact W.sz, fun k hk => ?_, i :: ps, by rw [List.length_cons, hps], fun j hj e => ?_⟩
  · rcases Nat.lt_or_ge k n with c | c
    · obtain ⟨j, hj, e⟩ := W.all k c
      exact ⟨j, hj, by rw [oAt_set_ne _ (fun z => by rw [z, e3] at e; cases e)]; exact e⟩
    · have ek : k = n := by omega
      subst ek
      exact ⟨i, e2, self⟩
  · by_cases c : j = i
    · rw [c]; exact List.mem_cons_self
    · rw [oAt_set_ne _ c] at e
      exact List.mem_cons_of_mem _ (hin j hj e)
theorem sit_all {m : Nat} (hm : Mk m) : ∀ (rest : List Int) (n : Nat) (owner : Array (Option Nat)), Sit m n owner → n + rest.length ≤ m →
    ∃ owner', rest.foldl (stepF m) (some (owner, n)) = some (owner', n + rest.length) ∧ Sit m (n + rest.length) owner'
  | [], n, owner, W, _ => ⟨owner, rfl, W⟩
  | h :: rest, n, owner, W, hl => by
    rw [List.length_cons] at hl
    obtain ⟨j, e, W'⟩ := sit_one hm W (by omega) h
    obtain ⟨o2, f, W2⟩ := sit_all hm rest (n + 1) _ W' (by omega)
    have en : n + (h :: rest).length = n + 1 + rest.length := by rw [List.length_cons]; omega
    refine ⟨o2, ?_, by rw [en]; exact W2⟩
    rw [List.foldl_cons, stepF_some e, en]
    exact f
theorem clean {m : Nat} (hm : Mk m) {hs : Array Int} (hn : hs.size ≤ m) : ∃ owner, SetTable.layClean m hs = some owner ∧ Sit m hs.size owner := by
  have W0 : Sit m 0 (Array.replicate (m + 1) none) := ⟨by simp, fun k hk => absurd hk (Nat.not_lt_zero _), [], rfl, fun j hj e => absurd (oAt_init hj) e⟩
  obtain ⟨owner, f, W⟩ := sit_all hm hs.toList 0 _ W0 (by rw [Array.length_toList]; omega)
  have ez : 0 + hs.toList.length = hs.size := by rw [Array.length_toList]; omega
  rw [ez] at W f
  refine ⟨owner, ?_, W⟩
  rw [layClean_eq, f]
  rfl
theorem relaid {m : Nat} (hm : Mk m) (t : SetTable) {hs : Array Int} {wanted : Nat} (hw : SetTable.sizeAbove wanted - 1 = m) (hn : hs.size ≤ m) :
    ∃ t' order, t.relaid hs wanted = some (t', order) ∧ order.toList.Perm (List.range hs.size) ∧ t'.mask = m ∧ t'.led = t.led ∧ t'.dummies = #[] ∧ t'.place.size = hs.size ∧ Ris t'.place.toList := by
  obtain ⟨owner, e, W⟩ := clean hm hn
  have hr : t.relaid hs wanted = some (tabOf t m owner, ((liveOf m owner).map (·.2)).toArray) := by
    rw [relaid_eq, hw, e]
    rfl
  have ris := ris_live (fun j => owner.getD j none) (List.range (m + 1)) (by
    unfold Ris
    first | exact List.pairwise_lt_range | exact List.pairwise_lt_range _)
  have r1 : Ris ((liveOf m owner).map (·.1)) := ris.1
  have nd : ((liveOf m owner).map (·.1)).Nodup := List.Pairwise.imp (fun h => Nat.ne_of_lt h) r1
  have hlen : (liveOf m owner).length = hs.size := by
    obtain ⟨ps, p1, p2⟩ := W.ps
    have a := nat_nodup_len ((liveOf m owner).map (·.1)) ps nd fun x hx => by
      obtain ⟨⟨y, k⟩, hq, ey⟩ := List.mem_map.mp hx
      have ey : y = x := ey
      subst ey
      obtain ⟨b1, b2⟩ := (mem_live W.sz).1 hq
      exact p2 y b1 (by rw [b2]; exact fun z => nomatch z)
    have b := nat_nodup_len (List.range hs.size) ((liveOf m owner).map (·.2)) List.nodup_range fun k hk => by
      obtain ⟨j, b1, b2⟩ := W.all k (List.mem_range.mp hk)
      exact List.mem_map.mpr ⟨(j, k), (mem_live W.sz).2 ⟨b1, b2⟩, rfl⟩
    rw [List.length_map] at a b
    rw [List.length_range] at b
    omega
  refine ⟨tabOf t m owner, _, hr, perm_range hs.size _ ?_ fun k hk => ?_, rfl, rfl, rfl, ?_, r1⟩
  · show ((liveOf m owner).map (·.2)).length = hs.size
    rw [List.length_map]
    exact hlen
  · obtain ⟨j, b1, b2⟩ := W.all k hk
    exact List.mem_map.mpr ⟨(j, k), (mem_live W.sz).2 ⟨b1, b2⟩, rfl⟩
  · show ((liveOf m owner).map (·.1)).toArray.size = hs.size
    rw [List.size_toArray, List.length_map]
    exact hlen
/-- the entries in another order -/
theorem reorder {α : Type} (es : Array α) (order : Array Nat) (h : order.toList.Perm (List.range es.size)) : (order.filterMap (es[·]?)).toList.Perm es.toList := by
  have e : (order.filterMap (es[·]?)).toList = order.toList.filterMap (es.toList[·]?) := by
    rw [Array.toList_filterMap]
    exact congrArg (fun f => List.filterMap f order.toList) (funext fun i => (Array.getElem?_toList).symm)
  rw [e]
  have q := h.filterMap (fun i => es.toList[i]?)
  have z := List.filterMap_getElem?_range_length es.toList
  rw [Array.length_toList] at z
  rw [z] at q
  exact q
theorem size7 : ∀ w, w < 8 → SetTable.sizeAbove w - 1 = 7 := by decide +kernel
theorem size15 : ∀ w, w < 16 → 8 ≤ w → SetTable.sizeAbove w - 1 = 15 := by decide +kernel
theorem size31 : ∀ w, w < 32 → 16 ≤ w → SetTable.sizeAbove w - 1 = 31 := by decide +kernel
theorem sizeMk {w : Nat} (h : w < 32) : ∃ m, Mk m ∧ SetTable.sizeAbove w - 1 = m ∧ (w < 2 * (m + 1)) ∧ w ≤ m + 1 + 0 * w ∧ SetTable.sizeAbove w ≤ 32 := by
  rcases Nat.lt_or_ge w 8 with a | a
  · have e := size7 w a; exact ⟨7, .inl rfl, e, by omega, by omega, by omega⟩
  · rcases Nat.lt_or_ge w 16 with b | b
    · have e := size15 w b a; exact ⟨15, .inr (.inl rfl), e, by omega, by omega, by omega⟩
    · have e := size31 w h b; exact ⟨31, .inr (.inr rfl), e, by omega, by omega, by omega⟩
end ST

set_option Elab.async false
set_option linter.all false
set_option maxRecDepth 100000
set_option maxHeartbeats 1000000
/-! sets of texts: their state, added to, laid anew, merged -/
noncomputable section
namespace ST
open PySem PySem.Spec PyProof.Rows L2 PySem.Froz

def kT : Value → Str
  | .str k _ => k
  | _ => Str.empty
def ins (k : Str) (l : List Str) : List Str := if k ∈ l then l else k :: l
theorem mem_ins {k j : Str} {l : List Str} : j ∈ ins k l ↔ j = k ∨ j ∈ l := by
  unfold ins
  split
  · rename_i h
    exact ⟨.inr, fun q => q.elim (fun e => e ▸ h) id⟩
  · exact List.mem_cons
theorem ins_nodup {k : Str} {l : List Str} (h : l.Nodup) : (ins k l).Nodup := by
  unfold ins
  split
  · exact h
  · rename_i q
    exact List.nodup_cons.mpr ⟨q, h⟩
theorem ins_len (k : Str) (l : List Str) : (ins k l).length ≤ l.length + 1 := by
  unfold ins
  split
  · omega
  · exact Nat.le_refl _
/-- the payload holds the texts l -/
structure Tx (w : World) (D : SD) (l : List Str) : Prop where
  good : ∀ e ∈ D.1.toList, ∃ k u, e = (hashStr w k, Value.str k u)
  pm : (D.1.toList.map fun e => kT e.2).Perm l
  fit : D.2.2.fits D.1.size = true
  ris : Ris D.2.2.place.toList
  led : D.2.2.led = !w.params.followText "set-order"
variable {P : Program} {w : World} {A : Around} {E : Value → Shared → Prop} {s : Shared}
theorem Tx.size {D : SD} {l : List Str} (F : Tx w D l) : D.1.size = l.length := by
  have q := F.pm.length_eq
  rw [List.length_map, Array.length_toList] at q
  exact q
theorem Tx.ok {D : SD} {l : List Str} (F : Tx w D l) : TxOk P w D l where
  el := fun e he => by
    obtain ⟨k, u, rfl⟩ := F.good e he
    exact ⟨⟨k, is_str k u, rfl⟩, rfl⟩
  mem := fun k => by
    rw [← F.pm.mem_iff, List.mem_map]
    constructor
    · rintro ⟨e, he, rfl⟩
      obtain ⟨k, u, rfl⟩ := F.good e he
      exact ⟨_, he, is_str k u⟩
    · rintro ⟨e, he, q⟩
      obtain ⟨k', u, rfl⟩ := F.good e he
      exact ⟨_, he, ((strKind P w).inj (.str k' u) k k' q (is_str k' u)).symm⟩
  sz := F.size
  fit := F.fit
theorem Tx.fresh (w : World) (ep f m : Nat) : Tx w (#[], ep, .fresh f m (!w.params.followText "set-order")) [] where
  good := fun e he => by simp at he
  pm := List.Perm.nil
  fit := rfl
  ris := List.Pairwise.nil
  led := rfl
theorem Tx.perm {es es' : Array (Int × Value)} {ep ep' : Nat} {t t' : SetTable} {l : List Str} (F : Tx w (es, ep, t) l) (p : es'.toList.Perm es.toList) (hf : t'.fits es'.size = true) (hr : Ris t'.place.toList)
    (hl : t'.led = !w.params.followText "set-order") : Tx w (es', ep', t') l where
  good := fun e he => F.good e (p.mem_iff.mp he)
  pm := (p.map _).trans F.pm
  fit := hf
  ris := hr
  led := hl
theorem Tx.add {D : SD} {l : List Str} (F : Tx w D l) (k : Str) (u : Tok) : Tx w (addTx (hashStr w k) (.str k u) D) (k :: l) := by
  obtain ⟨es, ep, t⟩ := D
  have hp := layNew_perm t es (hashStr w k) (.str k u)
  have hf := layNew_fits t es (hashStr w k) (.str k u)
  have hr := layNew_ris t es (hashStr w k) (.str k u) F.ris
  have hl := layNew_led t es (hashStr w k) (.str k u)
  rw [Array.toList_push] at hp
  have hl' : (layNew t es (hashStr w k) (.str k u)).2.1.led = !w.params.followText "set-order" := hl.trans F.led
  have mid : Tx w ((layNew t es (hashStr w k) (.str k u)).1, ep, if (layNew t es (hashStr w k) (.str k u)).2.1.plain = true then { (layNew t es (hashStr w k) (.str k u)).2.1 with plain := false } else (layNew t es (hashStr w k) (.str k u)).2.1) (k :: l) := by
    refine ⟨fun e he => ?_, ?_, ?_, ?_, ?_⟩
    · rcases List.mem_append.mp (hp.mem_iff.mp he) with q | q
      · exact F.good e q
      · rw [List.mem_singleton] at q
        exact ⟨k, u, q⟩
    · refine (hp.map _).trans ?_
      rw [List.map_append]
      refine (List.perm_append_comm).trans ?_
      exact List.Perm.cons k F.pm
    · by_cases c : (layNew t es (hashStr w k) (.str k u)).2.1.plain = true
      · rw [if_pos c]
        exact SetTable.fits_plain_off hf
      · rw [if_neg c]
        exact hf
    · show Ris (SetTable.place (if _ then _ else _)).toList
      split <;> exact hr
    · show SetTable.led (if _ then _ else _) = _
      split <;> exact hl'
  show Tx w (tailTx ep (layNew t es (hashStr w k) (.str k u)).1 (if (layNew t es (hashStr w k) (.str k u)).2.1.plain = true then { (layNew t es (hashStr w k) (.str k u)).2.1 with plain := false } else (layNew t es (hashStr w k) (.str k u)).2.1) (layNew t es (hashStr w k) (.str k u)).2.2.1) (k :: l)
  revert mid
  generalize (if (layNew t es (hashStr w k) (.str k u)).2.1.plain = true then { (layNew t es (hashStr w k) (.str k u)).2.1 with plain := false } else (layNew t es (hashStr w k) (.str k u)).2.1) = t2
  intro mid
  unfold tailTx
  split
  · exact mid.perm (relayAll_perm t2 _ _) (relayAll_fits t2 _ _) (relayAll_ris _ _ _) ((relayAll_led _ _ _).trans mid.led)
  · exact ⟨mid.good, mid.pm, mid.fit, mid.ris, mid.led⟩

/-- one text added, met or not -/
theorem add1 {a : Addr} {T : String} {D : SD} {l : List Str} {k : Str} {u : Tok} {Q : Bool → Shared → Prop} (ho : s.heap.get? a = some (sObj T D)) (F : Tx w D l) (hb : l.length + 1 < scanBound)
    (h : ∀ b h' D', Heap.SameBut a s.heap h' → h'.get? a = some (sObj T D') → Tx w D' (ins k l) → Q b { s with heap := h' }) : wpAny (model P w) A (setAddHashed a (.str k u) (hashStr w k)) Q E s := by
  by_cases hk : k ∈ l
  · have q := h false s.heap D (Heap.SameBut.refl ..) ho (by unfold ins; rw [if_pos hk]; exact F)
    have K : TxOk P w D l := F.ok
    obtain ⟨es, ep, t⟩ := D
    have hd : (sObj T (es, ep, t)).data = .set es ep t := rfl
    have hf : t.fits es.size = true := F.fit
    have hel : ElemsOf (strKind P w) es.toList := K.el
    have hsz : es.size = l.length := F.size
    have hb0 : es.size < scanBound := by omega
    have hkey : (strKind P w).is k (.str k u) = true := is_str k u
    obtain ⟨e, he, qe⟩ := (K.mem k).mp hk
    have hsome : ∃ j, List.findIdx? (fun e => (strKind P w).is k e.2) es.toList = some j := by
      cases hr : List.findIdx? (fun e => (strKind P w).is k e.2) es.toList with
      | some j => exact ⟨j, rfl⟩
      | none =>
        have z := List.findIdx?_eq_none_iff.mp hr e he
        simp [qe] at z
    obtain ⟨j, hj⟩ := hsome
    unfold setAddHashed setAddHashedIn
    refine wpAny_holding (wpAny_bind (wpAny_setState_of ho hd hf ?_))
    dsimp only
    rw [byScan_of rfl hb0 hel]
    simp only [↓reduceIte]
    unfold setAddByScan
    refine wpAny_bind ?_
    refine wpAny_bind (wpAny_rule ?_)
    refine wpAny_bind (wpAny_setScan_of (knd := strKind P w) (k := k) hkey ho hd hf hel ?_)
    rw [hj]
    dsimp only
    exact wpAny_pure (wpAny_pure q)
  · exact add_x ho F.ok hk hb (h _ _ _ (Heap.SameBut.update ..) (get_upd _ ho rfl) (by unfold ins; rw [if_neg hk]; exact F.add k u))

/-- laid anew -/
theorem relay1 {a : Addr} {T : String} {D : SD} {l : List Str} {wanted : Nat} {Q : Unit → Shared → Prop} (ho : s.heap.get? a = some (sObj T D)) (F : Tx w D l) (hl : l.length ≤ 7) (hw : wanted < 32)
    (h : ∀ h' D', Heap.SameBut a s.heap h' → h'.get? a = some (sObj T D') → Tx w D' l → Q () { s with heap := h' }) : wpAny (model P w) A (setRelay a wanted) Q E s := by
  obtain ⟨es, ep, t⟩ := D
  have hd : (sObj T (es, ep, t)).data = .set es ep t := rfl
  have hf : t.fits es.size = true := F.fit
  have hsz : es.size = l.length := F.size
  obtain ⟨m, hm, e1, _, _, e4⟩ := sizeMk hw
  have hmz : 7 ≤ m := by rcases hm with rfl | rfl | rfl <;> omega
  obtain ⟨t', order, e, hp, em, el, ed, ep', hr⟩ := ST.relaid hm t (hs := es.map (·.1)) e1 (by rw [Array.size_map]; omega)
  rw [Array.size_map] at hp ep'
  have pm := reorder es order hp
  have hs2 : (order.filterMap (es[·]?)).size = es.size := by
    have q := pm.length_eq
    rw [Array.length_toList, Array.length_toList] at q
    exact q
  rw [setRelay_eq]
  refine wpAny_bind (wpAny_setState_of ho hd hf ?_)
  dsimp only
  refine wp_if_neg (by rw [sizeLine_eq]; omega) ?_
  try refine wpAny_bind (wpAny_pure ?_)
  rw [e]
  dsimp only
  refine wpAny_bind ?_
  refine wp_if_neg (by rw [hs2]; simp) ?_
  try refine wpAny_bind (wpAny_pure ?_)
  refine wpAny_pure ?_
  dsimp only
  refine wpAny_storeSet_of ho hd ?_ (by rw [hs2, hsz, sizeLine_eq]; omega)
  have e1 : s.heap.update a (Obj.putSet (order.filterMap (es[·]?)) t') = s.heap.update a (fun _ => sObj T (order.filterMap (es[·]?), ep + 1, t')) := (upd_const _ ho).trans rfl
  rw [e1]
  refine h _ _ (Heap.SameBut.update ..) (get_upd _ ho rfl) (F.perm pm ?_ hr (el.trans F.led))
  rw [hs2]
  unfold SetTable.fits SetTable.fill
  rw [ed, ep', em]
  simp
  omega
/-- room made -/
theorem room1 {a : Addr} {T : String} {D : SD} {l : List Str} {more : Nat} {Q : Unit → Shared → Prop} (ho : s.heap.get? a = some (sObj T D)) (F : Tx w D l) (hl : l.length ≤ 7) (hw : l.length + more < 16)
    (h : ∀ h' D', Heap.SameBut a s.heap h' → h'.get? a = some (sObj T D') → Tx w D' l → Q () { s with heap := h' }) : wpAny (model P w) A (setRoomFor a more) Q E s := by
  have hf : D.2.2.fits D.1.size = true := F.fit
  have hps : D.2.2.place.size = l.length := by
    have q := F.fit
    unfold SetTable.fits at q
    rw [Bool.and_eq_true, beq_iff_eq] at q
    rw [q.1, F.size]
  unfold setRoomFor
  refine wpAny_bind (wpAny_setState_of ho (show (sObj T D).data = .set D.1 D.2.1 D.2.2 from rfl) hf ?_)
  dsimp only
  unfold SetTable.roomFor
  split
  · rename_i e0
    refine relay1 ho F hl ?_ h
    split at e0
    · have e1 := Option.some.inj e0
      rw [hps] at e1
      omega
    · cases e0
  · exact wpAny_pure (h s.heap D (Heap.SameBut.refl ..) ho F)
end ST

set_option Elab.async false
set_option linter.all false
set_option maxRecDepth 100000
set_option maxHeartbeats 1000000
noncomputable section
namespace ST
open PySem PySem.Spec PyProof.Rows L2 PySem.Froz
variable {P : Program} {w : World} {A : Around} {E : Value → Shared → Prop} {s : Shared}
theorem fresh_room {n : Nat} (h : n ≤ 4) (f m : Nat) (b : Bool) : (SetTable.fresh f m b).roomFor n = none := by
  unfold SetTable.roomFor SetTable.fill SetTable.fresh
  rw [if_neg]
  simp
  omega
/-- into a new set -/
theorem merge0 {r o : Addr} {T To : String} {D : SD} {lo : List Str} {f m : Nat} {each : Sem Unit} {Q : Unit → Shared → Prop} (hne : r ≠ o)
    (hr : s.heap.get? r = some (sObj T (#[], 0, .fresh f m (!w.params.followText "set-order")))) (ho : s.heap.get? o = some (sObj To D)) (F : Tx w D lo) (hl : lo.length ≤ 4)
    (h : ∀ h' D', Heap.SameBut r s.heap h' → h'.get? r = some (sObj T D') → Tx w D' lo → (lo = [] → h' = s.heap) → Q () { s with heap := h' }) : wpAny (model P w) A (setMerge r o each) Q E s := by
  obtain ⟨es, ep, t⟩ := D
  have hd : (sObj To (es, ep, t)).data = .set es ep t := rfl
  have hf : t.fits es.size = true := F.fit
  have hsz : es.size = lo.length := F.size
  have hdr : (sObj T (#[], 0, .fresh f m (!w.params.followText "set-order"))).data = .set #[] 0 (.fresh f m (!w.params.followText "set-order")) := rfl
  have hfr : (SetTable.fresh f m (!w.params.followText "set-order")).fits (#[] : Array (Int × Value)).size = true := rfl
  unfold setMerge
  refine wp_if_neg (by simpa using hne) ?_
  try refine wpAny_bind (wpAny_pure ?_)
  refine wpAny_bind (wpAny_setState_of ho hd hf ?_)
  dsimp only
  by_cases c : lo = []
  · refine wp_if_pos (by simp [Array.isEmpty, hsz, c]) ?_
    exact wpAny_pure (h s.heap _ (Heap.SameBut.refl ..) hr (by rw [c]; exact Tx.fresh ..) fun _ => rfl)
  · have hz : 0 < lo.length := by
      cases lo with
      | nil => exact absurd rfl c
      | cons _ _ => simp
    have hie : es.isEmpty = false := by
      simp only [Array.isEmpty, decide_eq_false_iff_not]
      omega
    refine wp_if_neg (by rw [hie]; exact Bool.false_ne_true) ?_
    try refine wpAny_bind (wpAny_pure ?_)
    unfold setRoomFor
    refine wpAny_bind (wpAny_bind (wpAny_setState_of hr hdr hfr ?_))
    dsimp only
    rw [fresh_room (by omega)]
    dsimp only
    refine wpAny_pure ?_
    refine wpAny_bind (wpAny_setState_of hr hdr hfr ?_)
    dsimp only
    have hb : es.size ≤ sizeLine := by rw [hsz, sizeLine_eq]; omega
    have up : ∀ (es' : Array (Int × Value)) (t' : SetTable), s.heap.update r (Obj.putSet es' t') = s.heap.update r (fun _ => sObj T (es', 1, t')) := fun es' t' => (upd_const _ hr).trans rfl
    have hled : ((!w.params.followText "set-order") && t.led) = !w.params.followText "set-order" := by
      rw [show t.led = !w.params.followText "set-order" from F.led]
      simp
    have hrd : (SetTable.fresh f m (!w.params.followText "set-order")).road t = .slotForSlot ∨ (SetTable.fresh f m (!w.params.followText "set-order")).road t = .clean := by
      unfold SetTable.road
      rw [if_neg (show ¬ ((SetTable.fresh f m (!w.params.followText "set-order")).fill != 0) = true from by simp [SetTable.fill, SetTable.fresh])]
      split
      · exact .inl rfl
      · exact .inr rfl
    rcases hrd with ed0 | ed0 <;> rw [ed0]
    · try dsimp only
      refine wpAny_storeSet_of hr hdr ?_ hb
      rw [up]
      exact h _ _ (Heap.SameBut.update ..) (get_upd _ hr rfl) (F.perm (List.Perm.refl _) hf F.ris hled) fun z => absurd z c
    · try dsimp only
      have e := relaid (m := 7) (.inl rfl) ({ mask := 7, place := #[], dummies := #[], finger := f, led := (!w.params.followText "set-order") && t.led, moves := m, plain := true && t.plain } : SetTable) (hs := es.map (·.1)) (wanted := 0) rfl (by rw [Array.size_map]; omega)
      obtain ⟨t', order, e, hp, em, el, ed, ep', hri⟩ := e
      rw [Array.size_map] at hp ep'
      have pm := reorder es order hp
      have hs2 : (order.filterMap (es[·]?)).size = es.size := by
        have q := pm.length_eq
        rw [Array.length_toList, Array.length_toList] at q
        exact q
      have e' : SetTable.laid (SetTable.fresh f m (!w.params.followText "set-order")).mask (SetTable.fresh f m (!w.params.followText "set-order")).finger (SetTable.fresh f m (!w.params.followText "set-order")).moves
          (led := (SetTable.fresh f m (!w.params.followText "set-order")).led && t.led) (plain := (SetTable.fresh f m (!w.params.followText "set-order")).plain && t.plain) (es.map (·.1)) = some (t', order) := e
      rw [e']
      refine wpAny_bind ?_
      wp_delta
      dsimp only
      refine wp_if_neg (by rw [hs2]; simp) ?_
      try refine wpAny_bind (wpAny_pure ?_)
      refine wpAny_pure ?_
      dsimp only
      refine wpAny_storeSet_of hr hdr ?_ (by rw [hs2]; exact hb)
      rw [up]
      refine h _ _ (Heap.SameBut.update ..) (get_upd _ hr rfl) (F.perm pm ?_ hri (el.trans hled)) fun z => absurd z c
      rw [hs2]
      unfold SetTable.fits SetTable.fill
      rw [ed, ep', em]
      simp
      omega

/-- texts met one by one -/
theorem each1 {r o : Addr} {T To : String} {D : SD} {body : Int × Value → PUnit → Sem (ForInStep PUnit)} (hne : r ≠ o)
    (hbody : ∀ (k : Str) (u : Tok) (s1 : Shared) (D1 : SD) (l1 : List Str) (R : ForInStep PUnit → Shared → Prop), s1.heap.get? r = some (sObj T D1) → Tx w D1 l1 → l1.length + 1 < scanBound → s1.heap.get? o = some (sObj To D) →
      (∀ h' D', Heap.SameBut r s1.heap h' → h'.get? r = some (sObj T D') → Tx w D' (ins k l1) → R (.yield PUnit.unit) { s1 with heap := h' }) → wpAny (model P w) A (body (hashStr w k, .str k u) PUnit.unit) R E s1) :
    ∀ (xs : List (Int × Value)) (s : Shared) (Dr : SD) (l : List Str) (Q : PUnit → Shared → Prop), (∀ e ∈ xs, ∃ k u, e = (hashStr w k, Value.str k u)) → s.heap.get? r = some (sObj T Dr) → Tx w Dr l → l.length + xs.length < scanBound →
      s.heap.get? o = some (sObj To D) →
      (∀ h' D' l', Heap.SameBut r s.heap h' → h'.get? r = some (sObj T D') → Tx w D' l' → (l.Nodup → l'.Nodup) → (∀ k, k ∈ l' ↔ k ∈ l ∨ k ∈ xs.map fun e => kT e.2) → l'.length ≤ l.length + xs.length → Q PUnit.unit { s with heap := h' }) →
      wpAny (model P w) A (forIn xs PUnit.unit body) Q E s
  | [], s, Dr, l, Q, _, hr, F, _, ho, h => by
    refine wpAny_pure ?_
    exact h s.heap Dr l (Heap.SameBut.refl ..) hr F id (fun k => by simp) (by simp)
  | e :: xs, s, Dr, l, Q, hx, hr, F, hb, ho, h => by
    obtain ⟨k, u, rfl⟩ := hx _ List.mem_cons_self
    rw [List.length_cons] at hb
    rw [List.forIn_cons]
    refine wpAny_bind (hbody k u s Dr l _ hr F (by omega) ho fun h1 D1 sb g1 F1 => ?_)
    have ho1 : h1.get? o = some (sObj To D) := (sb.2 o (Ne.symm hne)).trans ho
    dsimp only
    have hi := ins_len k l
    refine each1 hne hbody xs _ D1 (ins k l) Q (fun e he => hx e (List.mem_cons_of_mem _ he)) g1 F1 (by omega) ho1 fun h' D' l' sb' g' F' nd mm ll => ?_
    refine h h' D' l' (sb.trans sb') g' F' (fun z => nd (ins_nodup z)) (fun j => ?_) (by rw [List.length_cons]; omega)
    rw [mm, mem_ins, List.map_cons, List.mem_cons]
    show (j = k ∨ j ∈ l) ∨ _ ↔ j ∈ l ∨ j = k ∨ _
    constructor
    · rintro ((a | a) | a)
      · exact .inr (.inl a)
      · exact .inl a
      · exact .inr (.inr a)
    · rintro (a | a | a)
      · exact .inl (.inr a)
      · exact .inl (.inl a)
      · exact .inr a
end ST

set_option Elab.async false
set_option linter.all false
set_option maxRecDepth 100000
set_option maxHeartbeats 1000000
noncomputable section
namespace ST
open PySem PySem.Spec PyProof.Rows L2 PySem.Froz
variable {P : Program} {w : World} {A : Around} {E : Value → Shared → Prop} {s : Shared}
def Good (w : World) (xs : List (Int × Value)) : Prop := ∀ e ∈ xs, ∃ k u, e = (hashStr w k, Value.str k u)
theorem quiet_list {f : Int × Value → Option Bool × Unit → Sem (ForInStep (Option Bool × Unit))} (hf : ∀ k u h, f (h, .str k u) (none, ()) = pure (.yield (none, ()))) :
    ∀ (xs : List (Int × Value)) (R : Option Bool × Unit → Shared → Prop), Good w xs → R (none, ()) s → wpAny (model P w) A (forIn xs (none, ()) f) R E s
  | [], R, _, q => wpAny_pure q
  | e :: xs, R, g, q => by
    obtain ⟨k, u, rfl⟩ := g _ List.mem_cons_self
    rw [List.forIn_cons, hf]
    refine wpAny_bind (wpAny_pure ?_)
    exact quiet_list hf xs R (fun e he => g e (List.mem_cons_of_mem _ he)) q
theorem quiet_arr {f : Int × Value → Option Bool × Unit → Sem (ForInStep (Option Bool × Unit))} (hf : ∀ k u h, f (h, .str k u) (none, ()) = pure (.yield (none, ()))) (xs : Array (Int × Value)) {R : Option Bool × Unit → Shared → Prop}
    (g : Good w xs.toList) (q : R (none, ()) s) : wpAny (model P w) A (forIn xs (none, ()) f) R E s := by
  rw [← Array.forIn_toList]
  exact quiet_list hf _ _ g q
/-- texts have no eyes -/
theorem quiet1 {T T2 : String} {a b : Addr} {D D2 : SD} {Q : Bool → Shared → Prop} (ha : s.heap.get? a = some (sObj T D)) (hf : D.2.2.fits D.1.size = true) (g : Good w D.1.toList)
    (hb : s.heap.get? b = some (sObj T2 D2)) (hf2 : D2.2.2.fits D2.1.size = true) (g2 : Good w D2.1.toList) (h : Q true s) : wpAny (model P w) A (setsQuiet [a, b]) Q E s := by
  unfold setsQuiet setEntries
  rw [List.forIn_cons]
  refine wpAny_bind ?_
  refine wpAny_bind ?_
  refine wpAny_bind (wpAny_bind (wpAny_setState_of ha (show (sObj T D).data = .set D.1 D.2.1 D.2.2 from rfl) hf (wpAny_pure ?_)))
  refine wpAny_bind (quiet_arr (fun _ _ _ => rfl) _ g ?_)
  refine wpAny_pure ?_
  dsimp only
  rw [List.forIn_cons]
  refine wpAny_bind ?_
  refine wpAny_bind (wpAny_bind (wpAny_setState_of hb (show (sObj T2 D2).data = .set D2.1 D2.2.1 D2.2.2 from rfl) hf2 (wpAny_pure ?_)))
  refine wpAny_bind (quiet_arr (fun _ _ _ => rfl) _ g2 ?_)
  refine wpAny_pure ?_
  dsimp only
  rw [List.forIn_nil]
  exact wpAny_pure (wpAny_pure h)
/-- the walk as it stands -/
theorem walk1 {T : String} {a : Addr} {D : SD} {l : List Str} {Q : Array (Int × Value) → Shared → Prop} (ha : s.heap.get? a = some (sObj T D)) (F : Tx w D l) (hc : w.params.followText "set-order" = true ∨ (!D.2.2.plain && decide (D.1.size > 1)) = false)
    (h : ∀ xs : Array (Int × Value), xs.toList.Perm D.1.toList → Q xs s) : wpAny (model P w) A (setWalk a) Q E s := by
  unfold setWalk
  refine wpAny_bind (wpAny_setState_of ha (show (sObj T D).data = .set D.1 D.2.1 D.2.2 from rfl) F.fit ?_)
  dsimp only
  refine wpAny_bind (wpAny_byText ?_)
  cases hb : w.params.followText "set-order" with
  | true =>
    refine wp_if_pos rfl ?_
    exact wpAny_bind (wpAny_askSetting (wpAny_pure (h _ (pick_perm _ _))))
  | false =>
    refine wp_if_neg (by exact Bool.false_ne_true) ?_
    try refine wpAny_bind (wpAny_pure ?_)
    have hc' : (!D.2.2.plain && decide (D.1.size > 1)) = false := hc.resolve_left (by rw [hb]; exact Bool.false_ne_true)
    refine wp_if_neg (by show ¬ ((!D.2.2.plain && decide (D.1.size > 1)) = true); rw [hc']; exact Bool.false_ne_true) ?_
    try refine wpAny_bind (wpAny_pure ?_)
    have hl : D.2.2.led = true := by rw [F.led, hb]; rfl
    refine wpAny_bind (wpAny_of_eq (a := ()) ?_ ?_)
    · show (if (!D.2.2.led && decide (D.1.size > 1)) = true then unsupported "set:maker-not-led" else pure ()) = pure ()
      rw [hl]
      rfl
    · exact wpAny_pure (h _ (List.Perm.refl _))
/-- the walk that nobody sees -/
theorem walkUn {T To : String} {o r : Addr} {D Dr : SD} {l lr : List Str} {Q : Array (Int × Value) → Shared → Prop} (hne : r ≠ o) (ho : s.heap.get? o = some (sObj To D)) (F : Tx w D l) (hr : s.heap.get? r = some (sObj T Dr)) (Fr : Tx w Dr lr) (hz : Dr.1.size ≤ sizeLine)
    (h : ∀ (xs : Array (Int × Value)) h' Dr', xs.toList.Perm D.1.toList → Heap.SameBut r s.heap h' → h'.get? r = some (sObj T Dr') → Tx w Dr' lr → Q xs { s with heap := h' }) : wpAny (model P w) A (setWalkUnseen o [r] (some r)) Q E s := by
  unfold setWalkUnseen
  refine wpAny_bind (wpAny_setState_of ho (show (sObj To D).data = .set D.1 D.2.1 D.2.2 from rfl) F.fit ?_)
  dsimp only
  refine wpAny_bind (wpAny_byText ?_)
  by_cases c : (w.params.followText "set-order" || D.2.2.led && D.2.2.plain || decide (D.1.size ≤ 1)) = true
  · refine wp_if_pos c ?_
    refine walk1 ho F ?_ fun xs p => h xs s.heap Dr p (Heap.SameBut.refl ..) hr Fr
    rw [Bool.or_eq_true, Bool.or_eq_true, Bool.and_eq_true, decide_eq_true_eq] at c
    rcases c with (c | ⟨_, c⟩) | c
    · exact .inl c
    · right; rw [c]; rfl
    · right
      have e : decide (D.1.size > 1) = false := decide_eq_false (by omega)
      rw [e, Bool.and_false]
  · refine wp_if_neg c ?_
    try refine wpAny_bind (wpAny_pure ?_)
    refine wpAny_bind (quiet1 ho F.fit F.good hr Fr.fit Fr.good ?_)
    refine wp_if_neg (by simp) ?_
    try refine wpAny_bind (wpAny_pure ?_)
    refine wpAny_bind (wpAny_rule ?_)
    try dsimp only
    refine wpAny_bind (wpAny_setState_of hr (show (sObj T Dr).data = .set Dr.1 Dr.2.1 Dr.2.2 from rfl) Fr.fit ?_)
    dsimp only
    have e1 : ∀ t' : SetTable, s.heap.update r (Obj.putSet Dr.1 t') = s.heap.update r (fun _ => sObj T (Dr.1, Dr.2.1 + 1, t')) := fun t' => (upd_const _ hr).trans rfl
    split
    · refine wpAny_bind (wpAny_storeSet_of hr (show (sObj T Dr).data = .set Dr.1 Dr.2.1 Dr.2.2 from rfl) ?_ hz)
      refine wpAny_pure ?_
      rw [e1]
      refine h _ _ _ (List.Perm.refl _) (Heap.SameBut.update ..) (get_upd _ hr rfl) (Tx.perm (es := Dr.1) (ep := Dr.2.1) (t := Dr.2.2) Fr (List.Perm.refl _) ?_ Fr.ris ?_)
      · exact Fr.fit
      · show (Dr.2.2.led && D.2.2.led) = _
        rw [Fr.led, F.led, Bool.and_self]
    · refine wpAny_pure ?_
      try refine wpAny_pure ?_
      exact h _ s.heap Dr (List.Perm.refl _) (Heap.SameBut.refl ..) hr Fr

/-- into a set that holds some -/
theorem merge1 {r o : Addr} {T To : String} {D Dr : SD} {lo lr : List Str} {each : Sem Unit} {Q : Unit → Shared → Prop} (hne : r ≠ o) (hr : s.heap.get? r = some (sObj T Dr)) (Fr : Tx w Dr lr) (ho : s.heap.get? o = some (sObj To D)) (F : Tx w D lo)
    (hl : lo.length ≤ 4) (hlr : lr.length ≤ 4) (hn : lr ≠ [])
    (heach : ∀ (s1 : Shared) (Q : Unit → Shared → Prop), s1.heap.get? o = some (sObj To D) → Q () s1 → wpAny (model P w) A each Q E s1)
    (h : ∀ h' D' l', Heap.SameBut r s.heap h' → h'.get? r = some (sObj T D') → Tx w D' l' → (lr.Nodup → l'.Nodup) → (∀ k, k ∈ l' ↔ k ∈ lr ∨ k ∈ lo) → l'.length ≤ 8 → Q () { s with heap := h' }) : wpAny (model P w) A (setMerge r o each) Q E s := by
  have hd : (sObj To D).data = .set D.1 D.2.1 D.2.2 := rfl
  have hsz : D.1.size = lo.length := F.size
  have hb : scanBound = 4096 := rfl
  unfold setMerge
  refine wp_if_neg (by simpa using hne) ?_
  try refine wpAny_bind (wpAny_pure ?_)
  refine wpAny_bind (wpAny_setState_of ho hd F.fit ?_)
  dsimp only
  by_cases c : lo = []
  · refine wp_if_pos (by simp [Array.isEmpty, hsz, c]) ?_
    refine wpAny_pure (h s.heap Dr lr (Heap.SameBut.refl ..) hr Fr id (fun k => by rw [c]; simp) (by omega))
  · have hz : 0 < lo.length := by
      cases lo with
      | nil => exact absurd rfl c
      | cons _ _ => simp
    have hie : D.1.isEmpty = false := by
      simp only [Array.isEmpty, decide_eq_false_iff_not]
      omega
    refine wp_if_neg (by rw [hie]; exact Bool.false_ne_true) ?_
    try refine wpAny_bind (wpAny_pure ?_)
    refine wpAny_bind (room1 hr Fr (by omega) (by omega) fun h1 D1 sb1 g1 F1 => ?_)
    have ho1 : h1.get? o = some (sObj To D) := (sb1.2 o (Ne.symm hne)).trans ho
    refine wpAny_bind (wpAny_setState_of (s := { s with heap := h1 }) g1 (show (sObj T D1).data = .set D1.1 D1.2.1 D1.2.2 from rfl) F1.fit ?_)
    dsimp only
    have hfill : (D1.2.2.fill != 0) = true := by
      have q := F1.fit
      unfold SetTable.fits at q
      rw [Bool.and_eq_true, beq_iff_eq] at q
      have q2 := F1.size
      have q3 : 0 < lr.length := by
        cases lr with
        | nil => exact absurd rfl hn
        | cons _ _ => simp
      have q4 : D1.2.2.fill ≠ 0 := by
        unfold SetTable.fill
        omega
      simpa using q4
    have hrd : D1.2.2.road D.2.2 = .oneByOne := by
      unfold SetTable.road
      rw [if_pos hfill]
    rw [hrd]
    dsimp only
    refine wpAny_bind (walkUn (s := { s with heap := h1 }) hne ho1 F g1 F1 (by rw [F1.size, sizeLine_eq]; omega) fun xs h2 D2 p sb2 g2 F2 => ?_)
    have ho2 : h2.get? o = some (sObj To D) := (sb2.2 o (Ne.symm hne)).trans ho1
    have hxl : xs.toList.length = lo.length := by rw [p.length_eq, Array.length_toList, hsz]
    rw [← Array.forIn_toList]
    refine wpAny_bind (each1 (T := T) (To := To) (D := D) hne (fun k u s1 D3 l3 R q1 q2 q3 q4 q5 => ?_) xs.toList { s with heap := h2 } D2 lr _ (fun e he => F.good e (p.mem_iff.mp he)) g2 F2 (by omega) ho2 fun h' D' l' sb g F' nd mm ll => ?_)
    · refine wpAny_bind (wpAny_holding (add1 q1 q2 q3 fun b h4 D4 sb4 g4 F4 => ?_))
      have ho4 : h4.get? o = some (sObj To D) := (sb4.2 o (Ne.symm hne)).trans q4
      refine wpAny_bind (heach _ _ ho4 ?_)
      refine wpAny_bind (wpAny_setState_of ho4 hd F.fit ?_)
      try dsimp only
      refine wp_if_neg (by simp) ?_
      try refine wpAny_bind (wpAny_pure ?_)
      exact wpAny_pure (q5 h4 D4 sb4 g4 F4)
    refine wpAny_pure ?_
    refine h h' D' l' ((sb1.trans sb2).trans sb) g F' nd (fun k => ?_) (by omega)
    rw [mm, (p.map fun e => kT e.2).mem_iff, F.pm.mem_iff]
end ST

set_option Elab.async false
set_option linter.all false
set_option maxRecDepth 100000
set_option maxHeartbeats 1000000
noncomputable section
namespace ST
open PySem PySem.Spec PyProof.Rows L2 PySem.Froz
variable {P : Program} {w : World} {A : Around} {E : Value → Shared → Prop} {s : Shared}
theorem no_set {v : Value} {Q : Bool → Shared → Prop} (hT : s.TypeIs v "dict") (h : Q false s) : wpAny (model P w) A (Builtin.Frozenset.isAnySet v) Q E s := by
  unfold Builtin.Frozenset.isAnySet
  refine wpAny_bind (wpAny_isInstance hT F.sub_dict_set ?_)
  exact wpAny_isInstance hT F.sub_dict_frozenset h
theorem is_set {v : Value} {Q : Bool → Shared → Prop} (hT : s.TypeIs v "set") (h : Q true s) : wpAny (model P w) A (Builtin.Frozenset.isAnySet v) Q E s := by
  unfold Builtin.Frozenset.isAnySet
  refine wpAny_bind (wpAny_isInstance hT sub_set_self ?_)
  exact wpAny_pure h
theorem take_get {α : Type} {l : List α} {i : Nat} {x : α} (h : l[i]? = some x) : l.take (i + 1) = l.take i ++ [x] := by
  rw [List.take_succ, h]
  rfl
theorem upd_dict {id : String} {sa d : Addr} {T : String} {od : Obj} {des : Array DictEntry} {dep f m : Nat} {Q : Unit → Shared → Prop} (hs : s.heap.get? sa = some (sObj T (#[], 0, .fresh f m (!w.params.followText "set-order"))))
    (hd : s.heap.get? d = some od) (hc : od.cls = .type "dict") (hdd : od.data = .dict des dep) (hg : ∀ e ∈ des.toList, ∃ k u, e.key = .str k u ∧ e.hash = hashStr w k) (hz : des.size ≤ 4) (hsm : (d == sysModules) = false) (hne : sa ≠ d)
    (h : ∀ h' D' l', Heap.SameBut sa s.heap h' → h'.get? sa = some (sObj T D') → Tx w D' l' → l'.Nodup → (∀ k, k ∈ l' ↔ k ∈ des.toList.map fun e => kT e.key) → l'.length ≤ des.size → Q () { s with heap := h' }) :
    wpAny (model P w) A (Builtin.Frozenset.updateFrom id sa (.ref d)) Q E s := by
  have hT : s.TypeIs (.ref d) "dict" := ⟨od, hd, hc⟩
  have hb : scanBound = 4096 := rfl
  unfold Builtin.Frozenset.updateFrom
  refine wpAny_bind (no_set hT ?_)
  refine wp_if_neg (by exact Bool.false_ne_true) ?_
  try refine wpAny_bind (wpAny_pure ?_)
  refine wpAny_bind (wpAny_typeOf hT ?_)
  refine wp_if_pos (by decide) ?_
  refine wpAny_bind (wpAny_rule ?_)
  refine wpAny_bind (m := Builtin.Frozenset.addrOf (.ref d)) (wpAny_pure ?_)
  try dsimp only
  refine wp_if_neg (by rw [hsm]; exact Bool.false_ne_true) ?_
  try refine wpAny_bind (wpAny_pure ?_)
  refine wpAny_bind (wpAny_dictEpoch hd hdd ?_)
  refine wpAny_bind (wpAny_dictEntries hd hdd ?_)
  refine wpAny_bind (room1 hs (Tx.fresh w 0 f m) (by simp) (by simp; omega) fun h0 D0 sb0 g0 F0 => ?_)
  have hd0 : h0.get? d = some od := (sb0.2 d (Ne.symm hne)).trans hd
  refine wpAny_bind (wpAny_dictEntries hd0 hdd ?_)
  refine wpAny_bind (TI.forIn_rng _ (fun rest _ s' => ∃ i h' D' l', rest = List.range' i (des.size - i) ∧ s' = { s with heap := h' } ∧ i ≤ des.size ∧ Heap.SameBut sa s.heap h' ∧ h'.get? sa = some (sObj T D') ∧ Tx w D' l' ∧ l'.Nodup ∧
    (∀ k, k ∈ l' ↔ k ∈ (des.toList.take i).map fun e => kT e.key) ∧ l'.length ≤ i) _ ?turn ?fin _ ?start)
  case start =>
    exact ⟨0, h0, D0, [], by simp, rfl, Nat.zero_le _, sb0, g0, F0, List.nodup_nil, fun k => by simp, Nat.le_refl _⟩
  case fin =>
    rintro b s' ⟨i, h', D', l', hr, rfl, hi, sb, g, F, nd, mm, ll⟩
    have e0 : des.size - i = 0 := by
      cases q : des.size - i with
      | zero => rfl
      | succ n => rw [q, List.range'_succ] at hr; cases hr
    have e1 : i = des.size := by omega
    rw [e1, List.take_of_length_le (by rw [Array.length_toList]; exact Nat.le_refl _)] at mm
    try refine wpAny_pure ?_
    exact h h' D' l' sb g F nd mm (by omega)
  case turn =>
    rintro x rest b s' ⟨i, h', D', l', hr, rfl, hi, sb, g, F, nd, mm, ll⟩
    have hlt : i < des.size := by
      rcases Nat.lt_or_ge i des.size with q | q
      · exact q
      · have e : des.size - i = 0 := by omega
        rw [e] at hr
        cases hr
    obtain ⟨rfl, hrest⟩ : x = i ∧ rest = List.range' (i + 1) (des.size - (i + 1)) := by
      have e : des.size - i = (des.size - (i + 1)) + 1 := by omega
      rw [e, List.range'_succ] at hr
      injection hr with h1 h2
      exact ⟨h1, h2⟩
    have hd1 : h'.get? d = some od := (sb.2 d (Ne.symm hne)).trans hd
    have hit : des.toList[x]? = some des[x] := by rw [Array.getElem?_toList, Array.getElem?_eq_getElem hlt]
    obtain ⟨k, u, ek, eh⟩ := hg des[x] (Array.getElem_mem_toList hlt)
    refine wpAny_bind (wpAny_dictEntries hd1 hdd ?_)
    rw [Array.getElem?_eq_getElem hlt]
    dsimp only
    rw [ek, eh]
    refine wpAny_bind (wpAny_holding (add1 g F (by omega) fun b h4 D4 sb4 g4 F4 => ?_))
    have hd4 : h4.get? d = some od := (sb4.2 d (Ne.symm hne)).trans hd1
    refine wpAny_bind (wpAny_dictEpoch hd4 hdd ?_)
    refine wp_if_neg (by simp) ?_
    try refine wpAny_bind (wpAny_pure ?_)
    refine wpAny_pure ?_
    dsimp only
    have hi2 := ins_len k l'
    refine ⟨x + 1, h4, D4, ins k l', hrest, rfl, hlt, sb.trans sb4, g4, F4, ins_nodup nd, fun j => ?_, by omega⟩
    rw [mem_ins, mm, take_get hit, List.map_append, List.mem_append, List.map_cons, List.map_nil, List.mem_singleton]
    rw [show kT des[x].key = k from by rw [ek]; rfl]
    exact Or.comm
end ST

set_option Elab.async false
set_option linter.all false
set_option maxRecDepth 100000
set_option maxHeartbeats 3200000
noncomputable section
namespace ST
open PySem PySem.Spec PyProof.Rows L2 PySem.Froz
variable {P : Program} {w : World} {A : Around} {E : Value → Shared → Prop} {s : Shared}
/-- a set of texts at a -/
def SetS (w : World) (h : Heap) (a : Addr) (l : List Str) : Prop := ∃ D, h.get? a = some (sObj "set" D) ∧ Tx w D l
theorem SetS.typeIs {a : Addr} {l : List Str} (x : SetS w s.heap a l) : s.TypeIs (.ref a) "set" := by
  obtain ⟨D, h, _⟩ := x
  exact ⟨_, h, rfl⟩
/-- set(d), the keys of d texts -/
theorem call_set {d : Addr} {od : Obj} {des : Array DictEntry} {dep : Nat} {Q : Value → Shared → Prop} (hd : s.heap.get? d = some od) (hc : od.cls = .type "dict") (hdd : od.data = .dict des dep)
    (hg : ∀ e ∈ des.toList, ∃ k u, e.key = .str k u ∧ e.hash = hashStr w k) (hz : des.size ≤ 4) (hsm : (d == sysModules) = false)
    (h : ∀ h' l', SetS w h' s.heap.objs.size l' → l'.Nodup → (∀ k, k ∈ l' ↔ k ∈ des.toList.map fun e => kT e.key) → l'.length ≤ 4 → (∀ b o, s.heap.get? b = some o → h'.get? b = some o) → Q (.ref s.heap.objs.size) { s with heap := h' }) :
    wpAny (model P w) A (call (.type "set") [.ref d]) Q E s := by
  obtain ⟨c, tl, hmro⟩ := F.called_set.mro
  have hmade := F.called_set.made
  have hsub := F.called_set.sub
  refine wpAny_call (codeAny_of_tree ?_)
  show wpAny _ _ (callAny (.type "set") _) _ _ _
  refine wpAny_pure ⟨Code.quiet_builtin _ (by decide +kernel), codeAny_builtin F.entry_type_call ?_⟩
  rw [Around.under_plain (weight_type_call_type "set" [.ref d] []) rfl]
  have h1 := F.called_set.notType
  have h2 := F.called_set.canCreate
  have hct := F.typeCall_set_1 (.ref d)
  repeat (any_goals (first | assumption | wp_step))
  have hlt : d < s.heap.objs.size := Heap.lt_size hd
  refine codeAny_mono (code_set_led1 (.ref d) (E := E) (Q₁ := fun obj s₁ => obj = .ref s.heap.objs.size ∧ s₁ = { s with heap := s.heap.push { cls := .type "set", dict := none, data := .set #[] 0 (.fresh 0 0 (!w.params.followText "set-order")) } }) ⟨rfl, rfl⟩) fun r s₁ hr => ?_
  cases r with
  | error e => exact hr
  | ok fl =>
    cases fl with
    | ret obj =>
      obtain ⟨rfl, rfl⟩ := hr
      have hS : (s.heap.push { cls := .type "set", dict := none, data := .set #[] 0 (.fresh 0 0 (!w.params.followText "set-order")) }).get? s.heap.objs.size = some (sObj "set" (#[], 0, .fresh 0 0 (!w.params.followText "set-order"))) := Heap.get?_push_size _ rfl
      have hT : Shared.TypeIs { s with heap := s.heap.push { cls := .type "set", dict := none, data := .set #[] 0 (.fresh 0 0 (!w.params.followText "set-order")) } } (.ref s.heap.objs.size) "set" := ⟨_, hS, rfl⟩
      have hd1 : (s.heap.push { cls := .type "set", dict := none, data := .set #[] 0 (.fresh 0 0 (!w.params.followText "set-order")) }).get? d = some od := Heap.get?_push_of_some _ hd
      have hli := F.called_set.init.lookup
      have hbi := F.called_set.init.bind (.ref s.heap.objs.size)
      repeat (any_goals (first | assumption | wp_step))
      refine codeAny_mono (codeAny_call_builtin (R := wants (fun r s₂ => r = .none ∧ ∃ h' l', s₂ = { s with heap := h' } ∧ SetS w h' s.heap.objs.size l' ∧ l'.Nodup ∧ (∀ k, k ∈ l' ↔ k ∈ des.toList.map fun e => kT e.key) ∧ l'.length ≤ 4 ∧
          (∀ b o, s.heap.get? b = some o → h'.get? b = some o)) E) F.called_set.init.plain F.entry_set_init (check_set_init_1 hT ?_)) fun r₂ s₂ hr₂ => ?_
      · unfold Builtin.«set.__init__» noKeywords
        generalize hPI : Builtin.Frozenset.updateFrom = PI
        wp_walk
        subst hPI
        refine upd_dict hS hd1 hc hdd hg hz hsm (Nat.ne_of_gt hlt) fun h' D' l' sb g F' nd mm ll => ?_
        refine wpAny_pure ⟨rfl, h', l', rfl, ⟨D', g, F'⟩, nd, mm, by omega, fun b o e => ?_⟩
        exact (sb.2 b (Nat.ne_of_lt (Heap.lt_size e))).trans (Heap.get?_push_of_some _ e)
      · cases r₂ with
        | error e => exact hr₂
        | ok fl₂ =>
          cases fl₂ with
          | ret r =>
            obtain ⟨rfl, h', l', rfl, a1, a2, a3, a4, a5⟩ := hr₂
            repeat (any_goals (first | assumption | wp_step))
            exact h _ _ a1 a2 a3 a4 a5
          | _ => exact hr₂.elim
    | _ => exact hr.elim
/-- sorted(x), x a set of texts -/
theorem sorted_tx {a : Addr} {l : List Str} {Q : Value → Shared → Prop} (R : SetS w s.heap a l) (hh : A.handled = none) (h64 : l.length < 64)
    (hQ : ∀ s' p (out : Array Value) (c : Nat) (ns : List Str), (∀ b o, s.heap.get? b = some o → s'.heap.get? b = some o) → s'.gens = s.gens → s'.os = s.os → s.heap.objs.size ≤ p →
      s'.heap.get? p = some (seqObj "list" out c) → StrsAre out.toList ns → ns.Perm l → Q (.ref p) s') :
    wpAny (model P w) A (call (.builtin "sorted") [.ref a]) Q E s := by
  obtain ⟨D, ho, F⟩ := R
  have hb : scanBound = 4096 := rfl
  refine Calls.call_function_entry kind_sorted plain_sorted entry_sorted (args_sorted1 _) ?_
  unfold Builtin.«sorted»
  refine wpAny_bind (m := checkCount "sorted" 1 1 _) (wpAny_pure ?_)
  refine wpAny_bind (collect_set (A := A.in1) (es := D.1) (ep := D.2.1) (t := D.2.2) hh ⟨_, ho, rfl, rfl⟩ F.fit (by rw [F.size]; omega) F.ris (by
    cases q : w.params.followText "set-order"
    · right; rw [F.led, q]; rfl
    · exact .inl rfl) fun s1 vs k1 hz g1 o1 pm => ?_)
  have hvl : vs.length = l.length := by rw [pm.length_eq, List.length_map, Array.length_toList, F.size]
  have hI : StrsAre vs (vs.map kT) := by
    have key : ∀ xs : List Value, (∀ v ∈ xs, ∃ k u, v = Value.str k u) → StrsAre xs (xs.map kT) := by
      intro xs
      induction xs with
      | nil => intro _; exact .nil
      | cons x xs ih =>
        intro g
        obtain ⟨k, u, rfl⟩ := g _ List.mem_cons_self
        exact .cons k u (ih fun v hv => g v (List.mem_cons_of_mem _ hv))
    refine key vs fun v hv => ?_
    obtain ⟨e, he, q⟩ := List.mem_map.mp (pm.mem_iff.mp hv)
    obtain ⟨k, u, rfl⟩ := F.good e he
    exact ⟨k, u, q.symm⟩
  have pk : (vs.map kT).Perm l := by
    have q := pm.map kT
    rw [List.map_map] at q
    exact q.trans F.pm
  refine wpAny_bind (wpAny_newList ?_ (by rw [hvl, sizeLine_eq]; omega))
  have hoL : (s1.heap.push (seqObj "list" vs.toArray 0)).get? s1.heap.objs.size = some (seqObj "list" vs.toArray 0) := Heap.get?_push_size _ rfl
  refine wpAny_bind (wpAny_holding (wpAny_call_entry slot_list_sort ⟨_, hoL, rfl⟩ entry_list_sort (list_sort_treeK strKind_oneLt hoL hI.keysOf (fun v₁ v₂ rest e => keyKind_strs (by rw [← e]; exact hI)) (by rw [hvl]; exact h64) fun st' hp hs => ⟨_, rfl, ?_⟩) (args_list_sort _)))
  obtain ⟨ns', a1, a2, a3⟩ := sorted_out_str hI hp hs
  obtain ⟨c, hc⟩ := sortedHeap_at (vs := vs) (out := (arrOf st').map (·.2)) hoL
  refine wpAny_pure ⟨_, rfl, hQ _ s1.heap.objs.size _ c ns' (fun b u e => ?_) g1 o1 hz hc a1 (a2.trans pk)⟩
  have q := k1 b u e
  have hlt := Heap.lt_size q
  show (sortedHeap (s1.heap.push (seqObj "list" vs.toArray 0)) s1.heap.objs.size vs _).get? b = some u
  rw [sortedHeap_old (Nat.ne_of_lt hlt) (by rw [size_push']; exact Nat.lt_succ_of_lt hlt)]
  exact Heap.get?_push_of_some _ q
end ST

set_option Elab.async false
set_option linter.all false
set_option maxRecDepth 100000
set_option maxHeartbeats 3200000
noncomputable section
namespace ST
open PySem PySem.Spec PyProof.Rows L2 PySem.Froz
variable {P : Program} {w : World} {A : Around} {E : Value → Shared → Prop} {s : Shared}
theorem entry_or : entryFor table "set.__or__" = some Builtin.«frozenset.__or__» := entryFor_alias (id' := "frozenset.__or__") (by kernel_rfl) rfl (by decide +kernel) (by kernel_rfl)
theorem unch {id : String} {o : Addr} {T : String} {D : SD} {l : List Str} {Q : Unit → Shared → Prop} (ho : s.heap.get? o = some (sObj T D)) (F : Tx w D l) (h : Q () s) : wpAny (model P w) A (Builtin.Frozenset.unchanged id o D.2.1) Q E s := by
  unfold Builtin.Frozenset.unchanged
  refine wpAny_bind (wpAny_setEpoch_of ho (show (sObj T D).data = .set D.1 D.2.1 D.2.2 from rfl) F.fit ?_)
  refine wp_if_neg (by simp) ?_
  exact wpAny_pure h
theorem call_or {a b : Addr} {la lb : List Str} {Q : Value → Shared → Prop} (ha : SetS w s.heap a la) (hb : SetS w s.heap b lb) (hab : a ≠ b) (hla : la.length ≤ 4) (hlb : lb.length ≤ 4) (nda : la.Nodup) (ndb : lb.Nodup)
    (h : ∀ h' l', SetS w h' s.heap.objs.size l' → l'.Nodup → (∀ k, k ∈ l' ↔ k ∈ la ∨ k ∈ lb) → l'.length ≤ 8 → (∀ b o, s.heap.get? b = some o → h'.get? b = some o) → Q (.ref s.heap.objs.size) { s with heap := h' }) :
    wpAny (model P w) A (Builtin.«frozenset.__or__» ⟨[.ref a, .ref b], []⟩) (fun fin s' => ∃ v, fin = .done (.ret v) ∧ v ≠ .notImplemented ∧ Q v s') E s := by
  have hTa := ha.typeIs
  have hTb := hb.typeIs
  obtain ⟨Da, hoa, Fa⟩ := ha
  obtain ⟨Db, hob, Fb⟩ := hb
  have hlta : a < s.heap.objs.size := Heap.lt_size hoa
  have hltb : b < s.heap.objs.size := Heap.lt_size hob
  unfold Builtin.«frozenset.__or__»
  wp_delta
  refine wpAny_bind (m := Builtin.Frozenset.slot1 "__or__" _) (wpAny_of_eq (a := (.ref a, .ref b)) (by rfl) ?_)
  try dsimp only
  refine wpAny_bind ?_
  refine wpAny_bind (is_set hTa ?_)
  try dsimp only
  first | refine is_set hTb ?_ | refine wp_if_pos rfl (is_set hTb ?_) | trace_state
  refine wp_if_neg (by simp) ?_
  try refine wpAny_bind (wpAny_pure ?_)
  try dsimp only
  refine wpAny_bind ?_
  wp_delta
  unfold Builtin.Frozenset.copyOf Builtin.Frozenset.baseOf newSet
  refine wpAny_bind ?_
  refine wpAny_bind (wpAny_bind (wpAny_isInstance hTa sub_set_self (wpAny_pure ?_)))
  simp only [if_true]
  refine wpAny_bind ?_
  refine wpAny_bind (wpAny_byText ?_)
  refine wpAny_newObj_type ?_
  have hr0 : (s.heap.push { cls := .type "set", dict := none, data := .set #[] 0 (.fresh 0 0 (!w.params.followText "set-order")) }).get? s.heap.objs.size = some (sObj "set" (#[], 0, .fresh 0 0 (!w.params.followText "set-order"))) := Heap.get?_push_size _ rfl
  have hoa1 : (s.heap.push { cls := .type "set", dict := none, data := .set #[] 0 (.fresh 0 0 (!w.params.followText "set-order")) }).get? a = some (sObj "set" Da) := Heap.get?_push_of_some _ hoa
  refine wpAny_bind (m := Builtin.Frozenset.addrOf _) (wpAny_pure ?_)
  try dsimp only
  refine wpAny_bind (merge0 (Nat.ne_of_gt hlta) hr0 hoa1 Fa hla fun h1 D1 sb1 g1 F1 z1 => ?_)
  refine wpAny_pure ?_
  have hob1 : h1.get? b = some (sObj "set" Db) := (sb1.2 b (Nat.ne_of_lt hltb)).trans (Heap.get?_push_of_some _ hob)
  have hTb1 : Shared.TypeIs { s with heap := h1 } (.ref b) "set" := ⟨_, hob1, rfl⟩
  refine wp_if_pos (by simp [Ne.symm hab]) ?_
  have keep1 : ∀ (c : Addr) (o : Obj), s.heap.get? c = some o → h1.get? c = some o := fun c o e => (sb1.2 c (Nat.ne_of_lt (Heap.lt_size e))).trans (Heap.get?_push_of_some _ e)
  have fin : ∀ (h2 : Heap) (D2 : SD) (l' : List Str), Heap.SameBut s.heap.objs.size h1 h2 → h2.get? s.heap.objs.size = some (sObj "set" D2) → Tx w D2 l' → l'.Nodup → (∀ k, k ∈ l' ↔ k ∈ la ∨ k ∈ lb) → l'.length ≤ 8 → Q (.ref s.heap.objs.size) { s with heap := h2 } :=
    fun h2 D2 l' sb g F' nd mm ll => h h2 l' ⟨D2, g, F'⟩ nd mm ll fun c o e => (sb.2 c (Nat.ne_of_lt (Heap.lt_size e))).trans (keep1 c o e)
  refine wpAny_bind (m := Builtin.Frozenset.addrOf _) (wpAny_pure ?_)
  try dsimp only
  refine wpAny_bind (wpAny_holding ?_)
  unfold Builtin.Frozenset.updateFrom
  try dsimp only
  refine wpAny_bind (is_set hTb1 ?_)
  refine wp_if_pos rfl ?_
  refine wpAny_bind (m := Builtin.Frozenset.addrOf (.ref b)) (wpAny_pure ?_)
  try dsimp only
  unfold Builtin.Frozenset.merge
  refine wpAny_bind (wpAny_setEpoch_of (s := { s with heap := h1 }) hob1 (show (sObj "set" Db).data = .set Db.1 Db.2.1 Db.2.2 from rfl) Fb.fit ?_)
  by_cases c : la = []
  · subst c
    have e1 := z1 rfl
    subst e1
    refine merge0 (s := { s with heap := _ }) (Nat.ne_of_gt hltb) hr0 hob1 Fb hlb fun h2 D2 sb2 g2 F2 _ => ?_
    refine wpAny_pure ?_
    refine wpAny_pure ⟨_, rfl, by simp, fin h2 D2 lb sb2 g2 F2 ndb (fun k => by simp) (by omega)⟩
  · refine merge1 (s := { s with heap := h1 }) (Nat.ne_of_gt hltb) g1 F1 hob1 Fb hlb hla c (fun s1 Q' h1' q => unch h1' Fb q) fun h2 D2 l' sb2 g2 F2 nd mm ll => ?_
    refine wpAny_pure ?_
    refine wpAny_pure ⟨_, rfl, by simp, fin h2 D2 l' sb2 g2 F2 (nd nda) mm ll⟩
end ST

set_option Elab.async false
set_option linter.all false
set_option maxRecDepth 100000
set_option maxHeartbeats 3200000
noncomputable section
namespace ST
open PySem PySem.Spec PyProof.Rows L2 PySem.Froz
/-- the set of texts at a -/
def SetH (w : World) (a : Addr) (l : List Str) : HO := .ext fun h => SetS w h a l
section
variable {X : Cx}
theorem setH_new {w : World} {P : Program} {H : Hp} {h : Heap} {a : Addr} {l : List Str} (R : SetS w h a l) : ObjOk P w H h a (SetH w a l) := by
  have ⟨D, ho, F⟩ := R
  exact ⟨R, ⟨_, ho⟩, fun h1 h2 p k => by
    obtain ⟨D, ho, F⟩ := p
    exact ⟨D, k _ ho, F⟩⟩
theorem setH_get {pins : List (Addr × Obj)} {σ : L2.St} {H : Hp} {s : Shared} {a : Addr} {l : List Str} (I : Inv X pins σ H s) (ha : H a = some (SetH X.w a l)) : SetS X.w s.heap a l := (I.hok a _ ha).1
/-- set(d), d's keys texts -/
def rSetD (w : World) : List V → Hp → VK → Prop := fun xs H Q => ∃ (d : Addr) (kvs : List (Key × V)) (ks : List Str), xs = [.ref d] ∧ H d = some (.dK kvs) ∧ kvs.map (·.1) = ks.map Sum.inr ∧ ks.length ≤ 4 ∧
  ∀ p l, H p = none → l.Nodup → (∀ k, k ∈ l ↔ k ∈ ks) → l.length ≤ 4 → Q (.ref p) (upd H p (SetH w p l))
theorem keys_of {P : Program} {w : World} : ∀ {des : List DictEntry} {vs : List (Key × Value)} {ks : List Str}, Pairs (mixKind P w) des vs → (∀ e ∈ des, ∃ k, (mixKind P w).is k e.key = true ∧ e.hash = (mixKind P w).hash k) → vs.map (·.1) = ks.map Sum.inr →
    (∀ e ∈ des, ∃ k u, e.key = .str k u ∧ e.hash = hashStr w k) ∧ (des.map fun e => kT e.key) = ks
  | _, _, ks, .nil, _, h => by
    cases ks with
    | nil => exact ⟨fun e he => by simp at he, rfl⟩
    | cons _ _ => simp at h
  | _, _, ks, .cons (e := e) (kv := kv) (es := es) a b c, g, h => by
    cases ks with
    | nil => simp at h
    | cons k ks =>
      rw [List.map_cons, List.map_cons] at h
      injection h with h1 h2
      obtain ⟨r1, r2⟩ := keys_of c (fun e he => g e (List.mem_cons_of_mem _ he)) h2
      obtain ⟨j, hj, hh⟩ := g e List.mem_cons_self
      rw [h1] at a
      have ej : j = .inr k := (mixKind P w).inj e.key j (.inr k) hj a
      subst ej
      have q : ∃ u, e.key = .str k u := by
        have a' : keyIs (.inr k) e.key = true := a
        rcases keyIs_shape a' with ⟨i, t, e1, e2⟩ | ⟨x, t, e1, e2⟩
        · cases e1
        · injection e1 with e3
          subst e3
          exact ⟨t, e2⟩
      obtain ⟨u, eu⟩ := q
      refine ⟨fun e' he => ?_, ?_⟩
      · rcases List.mem_cons.mp he with z | z
        · subst z
          exact ⟨k, u, eu, hh⟩
        · exact r1 e' z
      · rw [List.map_cons, r2, eu]
        rfl
theorem kv_fst {kvs : List (Key × V)} {vs : List (Key × Value)} (r : KV kvs vs) : vs.map (·.1) = kvs.map (·.1) := by
  induction r with
  | nil => rfl
  | cons => simp_all
theorem cr_setD : CallR X (.type "set") (rSetD X.w) := by
  intro pins s σ H xs us Q I r h
  obtain ⟨d, kvs, ks, rfl, hd, hk, hz, q⟩ := h
  rw [Vals.ref1 r]
  obtain ⟨_, hsm, vs, rel, o, es, ep, ho, hex, hdat, hko, hpr, _⟩ := dk_of I.hok hd
  obtain ⟨g1, g2⟩ := keys_of hpr (fun e he => hko e (Array.mem_toList_iff.mp he)) ((kv_fst rel).trans hk)
  have hes : es.size = ks.length := by
    have z := congrArg List.length g2
    rw [List.length_map, Array.length_toList] at z
    exact z
  refine call_set ho hex.1 hdat g1 (by omega) hsm fun h' l' R nd mm ll k => ?_
  have hn : H s.heap.objs.size = none := I.hok.fresh (Nat.le_refl _)
  refine ⟨.ref _, upd H s.heap.objs.size (SetH X.w s.heap.objs.size l'), I.laid (t' := s.toks) k (Nat.le_refl _) (setH_new R), rfl, q _ l' hn nd (fun k => by rw [mm, g2]) ll⟩
/-- a | b -/
def rOrS (w : World) : V → V → Hp → VK → Prop := fun x y H Q => ∃ (a b : Addr) (la lb : List Str), x = .ref a ∧ y = .ref b ∧ H a = some (SetH w a la) ∧ H b = some (SetH w b lb) ∧ a ≠ b ∧ la.length ≤ 4 ∧ lb.length ≤ 4 ∧ la.Nodup ∧ lb.Nodup ∧
  ∀ p l, H p = none → l.Nodup → (∀ k, k ∈ l ↔ k ∈ la ∨ k ∈ lb) → l.length ≤ 8 → Q (.ref p) (upd H p (SetH w p l))
theorem op_orS : OpR X (binaryOp .BitOr) (rOrS X.w) := by
  intro pins s σ H x y v u Q I rx ry h
  obtain ⟨a, b, la, lb, rfl, rfl, ha, hb, hab, h1, h2, h3, h4, q⟩ := h
  have ex : v = .ref a := rx
  have ey : u = .ref b := ry
  subst ex; subst ey
  have Ra := setH_get I ha
  have Rb := setH_get I hb
  refine wpAny_binaryOp_same (op := .BitOr) (T := "set") Ra.typeIs Rb.typeIs F.fills_set_or F.slot_set_or ?_
  refine wpAny_call_entry F.slot_set_or Ra.typeIs entry_or ?_ (F.args_set_or_2 _ _)
  refine wpAny_mono (call_or (A := _) Ra Rb hab h1 h2 h3 h4 (Q := EP X pins σ Q) fun h' l' R nd mm ll k => ?_) ?_ fun _ _ e => e
  · have hn : H s.heap.objs.size = none := I.hok.fresh (Nat.le_refl _)
    exact ⟨.ref _, upd H s.heap.objs.size (SetH X.w s.heap.objs.size l'), I.laid (t' := s.toks) k (Nat.le_refl _) (setH_new R), rfl, q _ l' hn nd mm ll⟩
  · rintro f s' ⟨v, e, z1, z2⟩
    exact ⟨v, e, z1, z2⟩
/-- sorted(x), x a set of texts -/
def rSortS (w : World) : List V → Hp → VK → Prop := fun vs H Q => ∃ (a : Addr) (l : List Str), vs = [V.ref a] ∧ H a = some (SetH w a l) ∧ l.length < 64 ∧
  ∀ (ns : List Str) (p : Addr), ns.Perm l → H p = none → Q (.ref p) (upd H p (.lst (ns.map V.str)))
theorem vals_of_strs : ∀ {us : List Value} {ns : List Str}, StrsAre us ns → Vals (ns.map V.str) us
  | _, _, .nil => .nil
  | _, _, .cons x t h => .cons ⟨t, rfl⟩ (vals_of_strs h)
theorem cr_sortS (hc : X.calm = true) : CallR X (.builtin "sorted") (rSortS X.w) := by
  intro pins s σ H vs us Q I r h
  obtain ⟨a, l, rfl, ha, h64, q⟩ := h
  have R := setH_get I ha
  rw [Vals.ref1 r]
  refine sorted_tx R (I.ok.hd hc) h64 fun s' p out c ns k g o hp hg hi hm => ?_
  have hlen : (ns.map V.str).length ≤ sizeLine := by rw [List.length_map, hm.length_eq, sizeLine_eq]; omega
  have hn : H p = none := I.hok.fresh hp
  have J : Inv X pins σ (upd H p (.lst (ns.map V.str))) { s with heap := s'.heap, gens := s'.gens, drawn := s'.drawn, toks := s'.toks } :=
    I.call (ch := []) (Un.laid k hp hn) (I.hok.laid k hp ⟨hlen, out.toList, c, vals_of_strs hi, hg⟩) (by rw [g]; exact I.bare) (fun _ z => nomatch z)
  have e : s' = { s with heap := s'.heap, gens := s'.gens, drawn := s'.drawn, toks := s'.toks } := by
    cases s'
    cases s
    cases o
    rfl
  rw [e]
  exact ⟨.ref p, _, J, rfl, q ns p hm hn⟩
end
end ST

set_option Elab.async false
set_option linter.all false
set_option maxRecDepth 100000
set_option maxHeartbeats 3200000
/-! lists of empty dicts that are compared -/
noncomputable section
namespace ST
open PySem PySem.Spec PyProof.Rows L2
theorem empty_at {A : Around} {s : Shared} {a b : Addr} {oa ob : Obj} {ea eb : Nat} (hu : A.units < cLine) (ha : s.heap.get? a = some oa) (hb : s.heap.get? b = some ob) (xa : oa.ExactDict) (xb : ob.ExactDict) (da : oa.data = .dict #[] ea) (db : ob.data = .dict #[] eb)
    (sa : (a == sysModules) = false) (sb : (b == sysModules) = false) : SeqAt.EqAt A s (.ref a) (.ref b) true := by
  by_cases h : a = b
  · subst h
    exact SeqAt.EqAt.same _
  · refine SeqAt.EqAt.of_refs h fun prog w E Q q => ?_
    have Da : s.heap.DictOf (mixKind prog w) a [] := ⟨oa, #[], ea, ha, xa, da, fun e he => by simp at he, .nil, List.nodup_nil⟩
    have Db : s.heap.DictOf (mixKind prog w) b [] := ⟨ob, #[], eb, hb, xb, db, fun e he => by simp at he, .nil, List.nodup_nil⟩
    exact PySem.W.keq_eq (knd := mixKind prog w) (r := true) sa sb Da Db hu (fun _ => .nil) q
def IsE (H : Hp) (x : V) : Prop := ∃ d, x = .ref d ∧ H d = some (.dK [])
def rNeE : R2 := fun x y H Q => ∃ a b xs ys, x = .ref a ∧ y = .ref b ∧ H a = some (.lst xs) ∧ H b = some (.lst ys) ∧ xs.length = ys.length ∧ (∀ x ∈ xs, IsE H x) ∧ (∀ x ∈ ys, IsE H x) ∧ Q (.bl false) H
section
variable {X : Cx} {pins : List (Addr × Obj)} {σ : L2.St} {H : Hp} {s : Shared}
theorem e_raw (I : Inv X pins σ H s) {x : V} (h : IsE H x) {u : Value} (r : RelV x u) : ∃ d o ep, u = .ref d ∧ s.heap.get? d = some o ∧ o.ExactDict ∧ o.data = .dict #[] ep ∧ (d == sysModules) = false := by
  obtain ⟨d, rfl, hd⟩ := h
  have eu : u = .ref d := r
  obtain ⟨_, hsm, vs, rel, o, es, ep, ho, hex, hdat, hko, hpr, _⟩ := dk_of I.hok hd
  have e0 : vs = [] := by
    have q := rel.length
    cases vs with
    | nil => rfl
    | cons _ _ => simp at q
  subst e0
  have e1 : es = #[] := by
    cases hq : es.toList with
    | nil => exact Array.toList_eq_nil_iff.mp hq
    | cons a b =>
      rw [hq] at hpr
      cases hpr
  subst e1
  exact ⟨d, o, ep, eu, ho, hex, hdat, hsm⟩
theorem vals_at {xs : List V} {us : List Value} (r : Vals xs us) : ∀ {i : Nat} {u : Value}, us[i]? = some u → ∃ x, x ∈ xs ∧ RelV x u := by
  induction r with
  | nil => intro i u h; simp at h
  | cons h t ih =>
    intro i u e
    cases i with
    | zero =>
      simp at e
      subst e
      exact ⟨_, List.mem_cons_self, h⟩
    | succ i =>
      simp at e
      obtain ⟨x, m, q⟩ := ih e
      exact ⟨x, List.mem_cons_of_mem _ m, q⟩
theorem op_neE (hu : X.A.units + 2 < cLine) : OpR X (compareOp .NotEq) rNeE := by
  intro pins s σ H x y v u Q I rx ry h
  obtain ⟨a, b, xs, ys, rfl, rfl, ha, hb, hl, hx, hy, q⟩ := h
  obtain rfl : v = Value.ref a := rx
  obtain rfl : u = Value.ref b := ry
  obtain ⟨_, va, ca, ra, oa⟩ := (show ObjOk X.prog X.w H s.heap a (.lst xs) from I.hok a _ ha)
  obtain ⟨_, vb, cb, rb, ob⟩ := (show ObjOk X.prog X.w H s.heap b (.lst ys) from I.hok b _ hb)
  have la : va.length = xs.length := ra.length.symm
  have lb : vb.length = ys.length := rb.length.symm
  have Ia : s.heap.IsList a va.toArray := ⟨_, oa, rfl, _, rfl⟩
  have Ib : s.heap.IsList b vb.toArray := ⟨_, ob, rfl, _, rfl⟩
  have R := SeqAt.RcNeAt.lists (A := X.A) (e := fun _ => true) Ia Ib (by simp; omega) (by omega) (fun j h1 h2 => by
    have e1 : va[j]? = some va.toArray[j] := by simp at h1 ⊢
    have e2 : vb[j]? = some vb.toArray[j] := by simp at h2 ⊢
    obtain ⟨x1, m1, r1⟩ := vals_at ra e1
    obtain ⟨x2, m2, r2⟩ := vals_at rb e2
    obtain ⟨d1, o1, p1, z1, g1, k1, t1, s1⟩ := e_raw I (hx _ m1) r1
    obtain ⟨d2, o2, p2, z2, g2, k2, t2, s2⟩ := e_raw I (hy _ m2) r2
    rw [z1, z2]
    exact empty_at (by show X.A.units + 1 < cLine; omega) g1 g2 k1 k2 t1 t2 s1 s2)
  refine R _ _ _ _ ?_
  have e : (!(List.range va.toArray.size).all fun _ => true) = false := by simp
  rw [e]
  exact ⟨.bl false, H, I, rfl, q⟩
end
end ST

set_option Elab.async false
set_option maxRecDepth 100000
set_option maxHeartbeats 4000000
namespace K25
open PySem L2
def top (i : Nat) : Stmt := PySem.Challenge.pw_granary_k25_whole_what_several_condition.main.body.getD i (.Pass ⟨0, 0, 0, 0⟩)
abbrev sisso : Stmt := top 2
abbrev sbounds : Stmt := top 5
abbrev smusts : Stmt := top 6
abbrev sisof : Stmt := top 7
abbrev sends : Stmt := top 8
abbrev snarrow : Stmt := top 9
abbrev sgreater : Stmt := top 10
abbrev slesser : Stmt := top 11
abbrev siscrossed : Stmt := top 12
abbrev sLmix : Stmt := top 14
abbrev sLnext : Stmt := top 15
abbrev sLshapes : Stmt := top 16
abbrev sLnumber : Stmt := top 17
abbrev sLterm : Stmt := top 18
abbrev sLcond : Stmt := top 19
abbrev sLsome : Stmt := top 20
abbrev sLask : Stmt := top 21
abbrev sLstatement : Stmt := top 22
abbrev sLboth : Stmt := top 23
abbrev slaw : Stmt := top 24

/-- what is drawn from: a number, the cells, a place -/
def HAt (H : Hp) (a b : Addr) : Prop := ∃ (z p : Int) (cs : List Int), H a = some (.lst [.int z, .ref b, .int p]) ∧ H b = some (.lst (cs.map V.int)) ∧ cs.length ≤ 63
def Keep (a b : Addr) (H H' : Hp) : Prop := ∀ x o, x ≠ a → x ≠ b → H x = some o → H' x = some o
theorem Keep.refl (a b : Addr) (H : Hp) : Keep a b H H := fun _ _ _ _ h => h
theorem Keep.trans {a b : Addr} {H H1 H2 : Hp} (p : Keep a b H H1) (q : Keep a b H1 H2) : Keep a b H H2 := fun x o h1 h2 h => q x o h1 h2 (p x o h1 h2 h)
theorem Keep.at1 {a b : Addr} {H : Hp} {o : HO} : Keep a b H (upd H a o) := fun x u h1 _ h => by rw [upd_ne h1]; exact h
theorem Keep.at2 {a b : Addr} {H : Hp} {o : HO} : Keep a b H (upd H b o) := fun x u _ h2 h => by rw [upd_ne h2]; exact h
theorem Keep.same {a b : Addr} {H H' : Hp} (s : Same H H') : Keep a b H H' := fun x o _ _ h => s x o h
theorem Same.new {H : Hp} {p : Addr} {o : HO} (hp : H p = none) : Same H (upd H p o) := fun b u e => by rw [upd_ne (ne_of_none e hp)]; exact e
theorem HAt.same {H H' : Hp} {a b : Addr} (B : HAt H a b) (s : Same H H') : HAt H' a b := by
  obtain ⟨z, p, cs, h1, h2, h3⟩ := B
  exact ⟨z, p, cs, s _ _ h1, s _ _ h2, h3⟩
theorem HAt.ne {H : Hp} {a b : Addr} (B : HAt H a b) {D : Addr} (hD : H D = none) : D ≠ a ∧ D ≠ b := by
  obtain ⟨z, p, cs, ha, hb, _⟩ := B
  exact ⟨fun e => (by rw [e, ha] at hD; cases hD), fun e => (by rw [e, hb] at hD; cases hD)⟩
theorem HAt.upd {H : Hp} {a b D : Addr} {o : HO} (B : HAt H a b) (n : D ≠ a ∧ D ≠ b) : HAt (upd H D o) a b := by
  obtain ⟨z, p, cs, ha, hb, hc⟩ := B
  exact ⟨z, p, cs, by rw [upd_ne n.1.symm]; exact ha, by rw [upd_ne n.2.symm]; exact hb, hc⟩
/-- all that is no list stays -/
def KeepN (H H' : Hp) : Prop := ∀ x o, (∀ ys, o ≠ .lst ys) → H x = some o → H' x = some o
theorem Keep.n {a b : Addr} {H H' : Hp} (B : HAt H a b) (k : Keep a b H H') : KeepN H H' := fun x o no h => by
  obtain ⟨z, p, cs, ha, hb, _⟩ := B
  exact k x o (fun e => by rw [e, ha] at h; cases h; exact no _ rfl) (fun e => by rw [e, hb] at h; cases h; exact no _ rfl) h
theorem KeepN.of {H H' : Hp} (s : Same H H') : KeepN H H' := fun x o _ h => s x o h
theorem KeepN.trans {H H1 H2 : Hp} (p : KeepN H H1) (q : KeepN H1 H2) : KeepN H H2 := fun x o no h => q x o no (p x o no h)
/-- what is no list stays where a list is changed -/
theorem KeepN.lst {H : Hp} {D : Addr} {xs ys : List V} (h : H D = some (.lst xs)) : KeepN H (upd H D (.lst ys)) := fun x o no e => by
  rw [upd_ne (ne_of e h (no _))]
  exact e
theorem sqT_mono {K : PySem.W.Frag} {H H' : Hp} {a : Addr} {xs : List V} (k : ∀ o, (∀ ys, o ≠ .lst ys) → H a = some o → H' a = some o) (h : SqT K H a xs) : SqT K H' a xs := by
  rcases h with (h | ⟨o, h⟩) | h
  · exact .inl (.inl (k _ (fun _ e => nomatch e) h))
  · exact .inl (.inr ⟨o, k _ (fun _ e => nomatch e) h⟩)
  · exact .inr h
theorem KeepN.t {K : PySem.W.Frag} {H H' : Hp} (k : KeepN H H') {a : Addr} {xs : List V} (h : SqT K H a xs) : SqT K H' a xs := sqT_mono (k a) h
theorem getI {ns : List Int} {i : Nat} {y : V} (h : (ns.map V.int)[i]? = some y) : ∃ z, ns[i]? = some z ∧ y = V.int z := by
  rw [List.getElem?_map] at h
  cases e : ns[i]? with
  | none => rw [e] at h; cases h
  | some u => rw [e] at h; exact ⟨u, rfl, (Option.some.inj h).symm⟩
theorem fmod_lt {x n : Int} (h : 0 < n) : 0 ≤ x.fmod n ∧ x.fmod n < n := ⟨Int.fmod_nonneg_of_pos x h, Int.fmod_lt_of_pos x h⟩
theorem ixN_of {n : Nat} {i : Int} (h0 : 0 ≤ i) (h1 : i < n) : ixN n i = some i.toNat := by
  unfold ixN
  rw [if_pos h0, if_pos h1]
theorem atI_of {α : Type} {xs : List α} {i : Int} {v : α} (h0 : 0 ≤ i) (h : xs[i.toNat]? = some v) : atI xs i = some v := by
  have e : ((i.toNat : Nat) : Int) = i := Int.toNat_of_nonneg h0
  rw [← e]
  exact atI_nat h
structure Txt (mg : Str → Option Value) : Prop where
  len : mg "len" = none
  range : mg "range" = none
  list : mg "list" = none
  tuple : mg "tuple" = none
  max : mg "max" = none
structure Cal (P : Program) (w : World) (K : PySem.W.Frag) (mg : Str → Option Value) (base : Heap) (k : Nat) (x : Str) (ps : List Str) (sp : Sp) (f : Addr) (fd : FuncData) : Prop where
  g : mg x = some (.ref f)
  kp : PySem.W.keepIn K (.ref f) = true
  b : Binds K fd ps []
  G : FnOk P w K mg base CX0 k f fd ps sp
def spMix (K : PySem.W.Frag) : Sp := fun vs H Q _ => ∃ (l : Addr) (ns : List Int) (sd : Int), vs = [.ref l, .int sd] ∧ SqL K H l (ns.map V.int) ∧ ns.length ≤ 63 ∧ ∀ (a b : Addr) (H' : Hp), H a = none → H b = none → HAt H' a b → Same H H' → Q (.ref a) H'
def spNext : Sp := fun vs H Q _ => ∃ (a b : Addr) (n : Int), vs = [.ref a, .int n] ∧ 0 < n ∧ n < 1000000 ∧ HAt H a b ∧ ∀ (r : Int) (H' : Hp), 0 ≤ r → r < n → HAt H' a b → Keep a b H H' → Q (.int r) H'
section
variable {P : Program} {w : World} {K : PySem.W.Frag} {mg : Str → Option Value} {base : Heap}
theorem scMix : FnScope ["_law_script", "_law_seed", "_law_mixed", "_law_cell"] ["_law_script", "_law_seed"] (defScope sLmix) := ⟨rfl, rfl, rfl, by decide +kernel, rfl, by decide +kernel, by decide +kernel⟩
theorem ok_mix {f : Addr} {fd : FuncData} (F : Fun K "_law_mix" "_law_mix" sLmix f fd) (T : Txt mg) : FnOk P w K mg base CX0 1 f fd ["_law_script", "_law_seed"] (spMix K) := by
  refine F.ok scMix (fun vs H Q E h => ?_) (fun cdv A outer s H vs Q E hr h => ?_)
  · obtain ⟨l, ns, sd, rfl, _⟩ := h
    rfl
  · obtain ⟨l, ns, sd, rfl, hS, hl, k⟩ := h
    refine ⟨_, (pss_cons (ps_set (i := 2) scMix.nd rfl (Or.inl rfl) (pv 1))
      (pss_cons (ps_for PassesOwn.never rfl (RK.piL (K := K) (pv 0)) (pg_name (i := 3) scMix.nd rfl (Or.inl rfl))
        (pss_one (ps_set (i := 2) scMix.nd rfl (Or.inl rfl) (pe_op op_mod (pe_op op_add (pe_op op_add (pe_op op_mul (pv 2) pe_int) (pe_op op_mod (pv 3) pe_int)) pe_int) pe_int))))
      (pss_one (ps_ret (pe_lst (pa_cons (pv 2) (pa_cons (pe_callTy (RK.listQ (K := K)) (by rfl) T.list (by decide +kernel) (pa_cons (pv 0) pa_nil)) (pa_cons pe_int pa_nil)))))))), ?_⟩
    refine ⟨_, rfl, _, rfl, l, rfl, ⟨_, hS⟩, for_list (K := K) (a := l) (xs := ns.map V.int) (fun i σ H' => ∃ (z : Int) (v : Option V), σ = [some (.ref l), some (.int sd), some (.int z), v] ∧ H' = H) ⟨sd, none, rfl, rfl⟩ (fun i σ H' _ ⟨_, _, _, e⟩ => by rw [e]; exact hS) ?_ ?_⟩
    · rintro i y σ H' hi ⟨z, v, rfl, rfl⟩
      obtain ⟨u, _, rfl⟩ := getI hi
      refine ⟨_, rfl, _, _, rfl, rfl, .inr ⟨by decide, by decide⟩, _, rfl, _, _, rfl, rfl, (by show (0 : Int) < 2147483629; decide), _, _, rfl, rfl, _, _, rfl, rfl, _, _, rfl, rfl, (by show (0 : Int) < 2147483647; decide), _, _, rfl, rfl⟩
    · rintro σ H' ⟨z, v, rfl, rfl⟩
      refine ⟨_, rfl, _, rfl, l, _, rfl, .inl hS, fun p hp => ⟨(by show 3 ≤ sizeLine; decide), fun q hq => ?_⟩⟩
      have npq : p ≠ q := fun e => by rw [← e, upd_same] at hq; cases hq
      have hq0 : H' q = none := by rw [upd_ne npq.symm] at hq; exact hq
      refine k q p _ hq0 hp ⟨_, 0, ns, upd_same, (by rw [upd_ne npq, upd_same]), hl⟩ ((Same.new hp).trans (Same.new hq))
theorem scNext : FnScope ["_law_h", "_law_many", "_law_cell"] ["_law_h", "_law_many"] (defScope sLnext) := ⟨rfl, rfl, rfl, by decide +kernel, rfl, by decide +kernel, by decide +kernel⟩
theorem ok_next {f : Addr} {fd : FuncData} (F : Fun K "_law_next" "_law_next" sLnext f fd) (T : Txt mg) : FnOk P w K mg base CX0 1 f fd ["_law_h", "_law_many"] spNext := by
  refine F.ok scNext (fun vs H Q E h => ?_) (fun cdv A outer s H vs Q E hr h => ?_)
  · obtain ⟨a, b, n, rfl, _⟩ := h
    rfl
  · obtain ⟨a, b, n, rfl, n0, n1, ⟨z, p, cs, ha, hb, hc⟩, k⟩ := h
    refine ⟨_, (pss_cons (ps_set (i := 2) scNext.nd rfl (Or.inl rfl) (pe_ix (RK.ixL (K := K)) (pe_op op_cat (pe_ix (RK.ixL (K := K)) (pv 0) pe_int (fun _ _ => rfl)) (pe_lst (pa_cons pe_int pa_nil))) (pe_op op_modN (pe_ix (RK.ixL (K := K)) (pv 0) pe_int (fun _ _ => rfl)) (pe_callB (call_max2 rfl) (by rfl) T.max (by decide +kernel) (pa_cons pe_int (pa_cons (pe_callB (RK.lenQ (K := K)) (by rfl) T.len PySem.boot_len (pa_cons (pe_ix (RK.ixL (K := K)) (pv 0) pe_int (fun _ _ => rfl)) pa_nil)) pa_nil)))) (fun _ _ => rfl)))
      (pss_cons (ps_if (pt_cmpR op_ge (pv 2) (pe_op op_pow pe_int pe_int) (nomark _)) (pss_cons (ps_asg (pe_op op_fdivN (pv 2) (pv 1)) (pg_sub (pe_ix (RK.ixL (K := K)) (pv 0) pe_int (fun _ _ => rfl)) (pe_op op_modN (pe_ix (RK.ixL (K := K)) (pv 0) pe_int (fun _ _ => rfl)) (pe_callB (RK.lenQ (K := K)) (by rfl) T.len PySem.boot_len (pa_cons (pe_ix (RK.ixL (K := K)) (pv 0) pe_int (fun _ _ => rfl)) pa_nil))) set_list))
        (pss_one (ps_ret (pe_op op_modN (pv 2) (pv 1))))) pss_nil)
      (pss_cons (ps_asg (pe_op op_mod (pe_op op_add (pe_op op_add (pe_op op_mul (pe_ix (RK.ixL (K := K)) (pv 0) pe_int (fun _ _ => rfl)) pe_int) (pe_op op_mul (pv 2) pe_int)) pe_int) pe_int) (pg_sub (pv 0) pe_int set_list))
      (pss_cons (ps_asg (pe_op op_add (pe_ix (RK.ixL (K := K)) (pv 0) pe_int (fun _ _ => rfl)) pe_int) (pg_sub (pv 0) pe_int set_list))
      (pss_one (ps_ret (pe_op op_modN (pe_op op_fdiv (pe_ix (RK.ixL (K := K)) (pv 0) pe_int (fun _ _ => rfl)) pe_int) (pv 1)))))))), ?_⟩
    have nab : a ≠ b := ne_of ha hb (by
      intro e
      injection e with e
      cases cs with
      | nil => cases e
      | cons c r =>
        cases r with
        | nil => cases e
        | cons d r => rw [List.map_cons, List.map_cons] at e; injection e with _ e; injection e with e1 _; cases e1)
    -- cell = (h[1] + [0])[h[2] % max(1, len(h[1]))]
    refine ⟨_, rfl, a, _, 1, _, rfl, rfl, SqL.of ha, rfl, (by show 1 ≤ sizeLine; decide), fun e he => ?_⟩
    have s1 := Same.new (o := .lst [.int 0]) he
    refine ⟨b, e, _, _, rfl, rfl, s1 _ _ hb, upd_same, ?_, fun c hcc => ?_⟩
    · rw [List.length_map]
      exact Nat.le_trans (show cs.length + 1 ≤ 64 by omega) (by decide)
    have s2 := Same.new (o := .lst (cs.map V.int ++ [.int 0])) hcc
    have s12 := s1.trans s2
    have ha2 := s12 _ _ ha
    have hb2 := s12 _ _ hb
    refine ⟨_, rfl, a, _, 2, _, rfl, rfl, SqL.of ha2, rfl, _, rfl, a, _, 1, _, rfl, rfl, SqL.of ha2, rfl, b, _, rfl, .inl (SqL.of hb2), 1, _, rfl, ?_⟩
    have lm : (cs.map V.int).length = cs.length := List.length_map ..
    generalize hM : (if (((cs.map V.int).length : Nat) : Int) > 1 then (((cs.map V.int).length : Nat) : Int) else 1) = M
    have hM1 : 0 < M ∧ M ≤ (cs.length : Int) + 1 ∧ (cs.length = 0 → M = 1) := by
      rw [lm] at hM
      subst hM
      split <;> omega
    have ix := fmod_lt (x := p) hM1.1
    have hj : (p.fmod M).toNat < (cs ++ [0]).length := by
      rw [List.length_append]
      show _ < cs.length + 1
      omega
    have em : cs.map V.int ++ [V.int 0] = (cs ++ [0]).map V.int := by rw [List.map_append]; rfl
    have hit : atI (cs.map V.int ++ [V.int 0]) (p.fmod M) = some (.int ((cs ++ [0])[(p.fmod M).toNat])) := atI_of ix.1 (by rw [em, List.getElem?_map, List.getElem?_eq_getElem hj]; rfl)
    refine ⟨_, _, rfl, rfl, (by show M ≠ 0; omega), c, _, _, _, rfl, rfl, SqL.of upd_same, hit, ?_⟩
    generalize hcell : (cs ++ [0])[(p.fmod M).toNat] = cell
    have kp2 : Keep a b H (upd (upd H e (.lst [.int 0])) c (.lst (cs.map V.int ++ [.int 0]))) := Keep.same s12
    refine ⟨_, rfl, _, _, rfl, rfl, ⟨by decide, by decide, by decide⟩, _, _, rfl, rfl, _, rfl, ite2 (fun big => ?_) (fun _ => ?_)⟩
    · have big2 : (10 : Int) ^ (18 : Int).toNat ≤ cell := of_decide_eq_true big
      have ne : 0 < cs.length := by
        rcases Nat.eq_zero_or_pos cs.length with h0 | h0
        · exfalso
          have e0 := List.eq_nil_of_length_eq_zero h0
          have m1 := hM1.2.2 h0
          have i0 : (p.fmod M).toNat = 0 := by have := ix.2; omega
          have z0 : cell = 0 := by
            rw [← hcell]
            have : (cs ++ [0])[(p.fmod M).toNat]? = some 0 := by rw [i0, e0]; rfl
            rw [List.getElem?_eq_getElem hj] at this
            exact Option.some.inj this
          rw [z0] at big2
          exact absurd big2 (by decide)
        · exact h0
      have l0 : (((cs.map V.int).length : Nat) : Int) ≠ 0 := by rw [lm]; omega
      have ix2 := fmod_lt (x := p) (n := (((cs.map V.int).length : Nat) : Int)) (by rw [lm]; omega)
      refine ⟨_, rfl, _, rfl, _, _, rfl, rfl, ⟨by omega, by omega⟩, _, rfl, a, _, 1, _, rfl, rfl, SqL.of ha2, rfl, _, rfl, a, _, 2, _, rfl, rfl, SqL.of ha2, rfl, _, rfl, a, _, 1, _, rfl, rfl, SqL.of ha2, rfl, b, _, rfl, .inl (SqL.of hb2), _, _, rfl, rfl, l0, ?_⟩
      refine ⟨b, _, _, _, rfl, rfl, hb2, ixN_of ix2.1 ix2.2, ?_⟩
      refine ⟨_, rfl, _, rfl, _, _, rfl, rfl, (by show n ≠ 0; omega), ?_⟩
      refine k _ _ (fmod_lt n0).1 (fmod_lt n0).2 ⟨z, p, cs.set (p.fmod (((cs.map V.int).length : Nat) : Int)).toNat (cell.fdiv n), by rw [upd_ne nab]; exact ha2, ?_, by rw [List.length_set]; exact hc⟩ (kp2.trans Keep.at2)
      rw [upd_same, List.map_set]
    · refine ⟨_, rfl, a, _, 0, _, rfl, rfl, SqL.of ha2, rfl, _, _, rfl, rfl, .inr ⟨by decide, by decide⟩, _, rfl, _, _, rfl, rfl, .inr ⟨by decide, by decide⟩, _, _, rfl, rfl, _, _, rfl, rfl, _, _, rfl, rfl, (by show (0 : Int) < 2147483647; decide), ?_⟩
      refine ⟨_, rfl, a, _, _, 0, rfl, rfl, ha2, rfl, ?_⟩
      refine ⟨_, rfl, a, _, 2, _, rfl, rfl, SqL.of upd_same, rfl, _, _, rfl, rfl, _, rfl, a, _, _, 2, rfl, rfl, upd_same, rfl, ?_⟩
      refine ⟨_, rfl, a, _, 0, _, rfl, rfl, SqL.of upd_same, rfl, _, _, rfl, rfl, ⟨by decide, by decide⟩, _, rfl, _, _, rfl, rfl, (by show n ≠ 0; omega), ?_⟩
      refine k _ _ (fmod_lt n0).1 (fmod_lt n0).2 ⟨_, _, cs, upd_same, by rw [upd_ne nab.symm, upd_ne nab.symm]; exact hb2, hc⟩ (kp2.trans (Keep.at1.trans Keep.at1))
end
end K25

namespace K25
open PySem L2

/-! ### dicts with text keys -/
section
variable {β : Type} {R S : Hp → V → β → Prop} {H H' : Hp}
def PR (R : Hp → V → β → Prop) (H : Hp) (kv : Key × V) (p : Str × β) : Prop := kv.1 = .inr p.1 ∧ R H kv.2 p.2
def DictAt (R : Hp → V → β → Prop) (H : Hp) (d : Addr) (ps : List (Str × β)) : Prop := ∃ kvs, Rd H d (.dK kvs) ∧ Paired (PR R H) kvs ps
theorem pr_mono (m : ∀ v x, R H v x → R H' v x) : ∀ {kvs : List (Key × V)} {ps : List (Str × β)}, Paired (PR R H) kvs ps → Paired (PR R H') kvs ps
  | _, _, .nil => .nil
  | _, _, .cons ⟨e, h⟩ r => .cons ⟨e, m _ _ h⟩ (pr_mono m r)
theorem pr_look (f : Str) : ∀ {kvs : List (Key × V)} {ps : List (Str × β)}, Paired (PR R H) kvs ps → (ps.lookup f = none ∧ valV kvs (.inr f) = none) ∨ ∃ x v, ps.lookup f = some x ∧ valV kvs (.inr f) = some v ∧ R H v x
  | _, _, .nil => .inl ⟨rfl, rfl⟩
  | (k, v) :: kvs, (g, x) :: ps, .cons ⟨e, h⟩ r => by
    have e : k = .inr g := e
    subst e
    by_cases q : f = g
    · subst q
      exact .inr ⟨x, v, by simp [List.lookup], valV_pos rfl, h⟩
    · have n1 : ((f == g) : Bool) = false := by simpa using q
      have n2 : ¬ ((Sum.inr g : Key) = .inr f) := fun z => q (Sum.inr.inj z).symm
      rw [show valV ((Sum.inr g, v) :: kvs) (.inr f) = valV kvs (.inr f) from valV_neg n2]
      rw [show List.lookup f ((g, x) :: ps) = List.lookup f ps by simp [List.lookup, n1]]
      exact pr_look f r
theorem pr_has (f : Str) : ∀ {kvs : List (Key × V)} {ps : List (Str × β)}, Paired (PR R H) kvs ps → f ∉ ps.map (·.1) → (kvs.any fun kv => decide (kv.1 = (Sum.inr f : Key))) = false
  | _, _, .nil, _ => rfl
  | (k, v) :: kvs, (g, x) :: ps, .cons ⟨e, _⟩ r, hn => by
    have e : k = .inr g := e
    subst e
    rw [List.map_cons, List.mem_cons, not_or] at hn
    rw [List.any_cons, pr_has f r hn.2, Bool.or_false]
    exact decide_eq_false fun z => hn.1 (Sum.inr.inj z).symm
theorem pr_keys : ∀ {kvs : List (Key × V)} {ps : List (Str × β)}, Paired (PR R H) kvs ps → kvs.map (·.1) = (ps.map (·.1)).map Sum.inr
  | _, _, .nil => rfl
  | (k, v) :: kvs, (g, x) :: ps, .cons ⟨e, _⟩ r => by
    have e : k = .inr g := e
    subst e
    rw [List.map_cons, List.map_cons, List.map_cons, pr_keys r]
theorem pr_len {kvs : List (Key × V)} {ps : List (Str × β)} (h : Paired (PR R H) kvs ps) : kvs.length = ps.length := Paired.length h
theorem pr_snoc {kvs : List (Key × V)} {ps : List (Str × β)} {k : Str} {v : V} {x : β} (h : Paired (PR R H) kvs ps) (r : R H v x) : Paired (PR R H) (kvs ++ [(.inr k, v)]) (ps ++ [(k, x)]) := Paired.snoc h ⟨rfl, r⟩
theorem pr_put {kvs : List (Key × V)} {ps : List (Str × β)} {k : Str} {v : V} (h : Paired (PR R H) kvs ps) (n : k ∉ ps.map (·.1)) : putK kvs (.inr k) v = kvs ++ [(.inr k, v)] := by
  unfold putK
  rw [pr_has _ h n]
  rfl
end
theorem rd_mono {H H' : Hp} {d : Addr} {kvs : List (Key × V)} (k : KeepN H H') (h : Rd H d (.dK kvs)) : Rd H' d (.dK kvs) := by
  rcases h with h | ⟨o, h⟩
  · exact .inl (k d _ (fun _ e => nomatch e) h)
  · exact .inr ⟨o, k d _ (fun _ e => nomatch e) h⟩
/-- the dict at d is changed: tuples stay -/
theorem t_upd {K : PySem.W.Frag} {H : Hp} {d : Addr} {kvs : List (Key × V)} {o : HO} (hd : H d = some (.dK kvs)) {t : Addr} {xs : List V} (h : SqT K H t xs) : SqT K (upd H d o) t xs := by
  rcases h with (h | ⟨o, h⟩) | h
  · exact .inl (.inl (by rw [upd_ne (ne_of h hd (fun e => nomatch e))]; exact h))
  · exact .inl (.inr ⟨o, by rw [upd_ne (ne_of h hd (fun e => nomatch e))]; exact h⟩)
  · exact .inr h

/-! ### shapes -/
def ShR (K : PySem.W.Frag) (H : Hp) (v : V) (fs : List Str) : Prop := ∃ t, v = .ref t ∧ SqT K H t (fs.map V.str)
def ShapesAt (K : PySem.W.Frag) (H : Hp) (d : Addr) (sh : List (Str × List Str)) : Prop := ∃ kvs, H d = some (.dK kvs) ∧ Paired (PR (ShR K) H) kvs sh
abbrev tabs : List Str := [Str.ofString "ta", Str.ofString "tb", Str.ofString "tc"]
abbrev flds : List Str := [Str.ofString "k", Str.ofString "x", Str.ofString "y", Str.ofString "z"]
structure IsShapes (sh : List (Str × List Str)) : Prop where
  names : sh.map (·.1) = tabs.take sh.length
  few : sh.length ≤ 3
  fs : ∀ p ∈ sh, ∃ m, 1 ≤ m ∧ m ≤ 4 ∧ p.2 = flds.take m
theorem ShapesAt.keep {K : PySem.W.Frag} {H H' : Hp} (k : KeepN H H') {d : Addr} {sh : List (Str × List Str)} (h : ShapesAt K H d sh) : ShapesAt K H' d sh := by
  obtain ⟨kvs, hd, p⟩ := h
  exact ⟨kvs, k d _ (fun _ e => nomatch e) hd, pr_mono (fun v x ⟨t, e, q⟩ => ⟨t, e, k.t q⟩) p⟩
def spShapes (K : PySem.W.Frag) : Sp := fun vs H Q _ => ∃ (a b : Addr), vs = [.ref a, .int 3] ∧ HAt H a b ∧ ∀ (d : Addr) (H' : Hp) (sh : List (Str × List Str)), HAt H' a b → Keep a b H H' → H d = none → ShapesAt K H' d sh → IsShapes sh → 1 ≤ sh.length → Q (.ref d) H'
def spNumber : Sp := fun vs H Q _ => ∃ (a b : Addr), vs = [.ref a] ∧ HAt H a b ∧ ∀ (r : Int) (H' : Hp), -1000 ≤ r → r ≤ 1000 → HAt H' a b → Keep a b H H' → Q (.int r) H'

/-! ### trees -/
inductive Tr where
  | num (n : Int)
  | field (t f : Str)
  | bin (op : Str) (l r : Tr)
  | not (x : Tr)
def Tr.depth : Tr → Nat
  | .num _ => 0
  | .field _ _ => 0
  | .bin _ l r => max l.depth r.depth + 1
  | .not x => x.depth + 1
def TrAt (K : PySem.W.Frag) (H : Hp) : V → Tr → Prop
  | v, .num n => ∃ p, v = .ref p ∧ SqT K H p [.str (Str.ofString "num"), .int n]
  | v, .field t f => ∃ p, v = .ref p ∧ SqT K H p [.str (Str.ofString "field"), .str t, .str f]
  | v, .bin op l r => ∃ p x y, v = .ref p ∧ SqT K H p [.str op, x, y] ∧ TrAt K H x l ∧ TrAt K H y r
  | v, .not z => ∃ p x, v = .ref p ∧ SqT K H p [.str (Str.ofString "not"), x] ∧ TrAt K H x z
theorem TrAt.mono {K : PySem.W.Frag} {H H' : Hp} (m : ∀ t xs, SqT K H t xs → SqT K H' t xs) : ∀ {v : V} {t : Tr}, TrAt K H v t → TrAt K H' v t
  | _, .num _, ⟨p, e, h⟩ => ⟨p, e, m _ _ h⟩
  | _, .field _ _, ⟨p, e, h⟩ => ⟨p, e, m _ _ h⟩
  | _, .bin _ _ _, ⟨p, x, y, e, h, h1, h2⟩ => ⟨p, x, y, e, m _ _ h, TrAt.mono m h1, TrAt.mono m h2⟩
  | _, .not _, ⟨p, x, e, h, h1⟩ => ⟨p, x, e, m _ _ h, TrAt.mono m h1⟩
theorem TrAt.keep {K : PySem.W.Frag} {H H' : Hp} (k : KeepN H H') {v : V} {t : Tr} (h : TrAt K H v t) : TrAt K H' v t := TrAt.mono (fun _ _ q => k.t q) h
abbrev signs : List Str := [Str.ofString "=", Str.ofString "<", Str.ofString ">", Str.ofString "<=", Str.ofString ">="]
inductive IsTm (fl : List (Str × Str)) : Tr → Prop where
  | num {n : Int} : -1000 ≤ n → n ≤ 1000 → IsTm fl (.num n)
  | field {t f : Str} : (t, f) ∈ fl → IsTm fl (.field t f)
  | bin {op : Str} {l r : Tr} : op ∈ [Str.ofString "+", Str.ofString "-", Str.ofString "*"] → IsTm fl l → IsTm fl r → IsTm fl (.bin op l r)
inductive IsCd (fl : List (Str × Str)) : Tr → Prop where
  | cmp {op : Str} {l r : Tr} : op ∈ signs → IsTm fl l → IsTm fl r → IsCd fl (.bin op l r)
  | join {op : Str} {l r : Tr} : op ∈ [Str.ofString "and", Str.ofString "or"] → IsCd fl l → IsCd fl r → IsCd fl (.bin op l r)
  | not {x : Tr} : IsCd fl x → IsCd fl (.not x)

/-! ### the fields that there are: a list of pairs of texts -/
def FlR (K : PySem.W.Frag) (H : Hp) (v : V) (q : Str × Str) : Prop := ∃ p, v = .ref p ∧ SqT K H p [.str q.1, .str q.2]
def FlOk (fl : List (Str × Str)) : Prop := ∀ q ∈ fl, PyData.strOk q.1 = true ∧ PyData.strOk q.2 = true
def FlAt (K : PySem.W.Frag) (H : Hp) (l : Addr) (fl : List (Str × Str)) : Prop := ∃ vs, H l = some (.lst vs) ∧ Paired (FlR K H) vs fl ∧ FlOk fl
theorem fl_mono {K : PySem.W.Frag} {H H' : Hp} (m : ∀ t xs, SqT K H t xs → SqT K H' t xs) : ∀ {vs : List V} {fl : List (Str × Str)}, Paired (FlR K H) vs fl → Paired (FlR K H') vs fl
  | _, _, .nil => .nil
  | _, _, .cons ⟨p, e, h⟩ r => .cons ⟨p, e, m _ _ h⟩ (fl_mono m r)
theorem FlAt.keep {K : PySem.W.Frag} {H H' : Hp} {a b l : Addr} {fl : List (Str × Str)} (B : HAt H a b) (k : Keep a b H H') (na : l ≠ a) (nb : l ≠ b) (h : FlAt K H l fl) : FlAt K H' l fl := by
  obtain ⟨vs, hl, p, ok⟩ := h
  exact ⟨vs, k l _ na nb hl, fl_mono (fun _ _ q => (k.n B).t q) p, ok⟩
theorem FlAt.same {K : PySem.W.Frag} {H H' : Hp} {l : Addr} {fl : List (Str × Str)} (s : Same H H') (h : FlAt K H l fl) : FlAt K H' l fl := by
  obtain ⟨vs, hl, p, ok⟩ := h
  exact ⟨vs, s _ _ hl, fl_mono (fun _ _ q => (KeepN.of s).t q) p, ok⟩
def flD (q : Str × Str) : PyData := .tuple [.str q.1, .str q.2]
theorem fl_dp {K : PySem.W.Frag} {H : Hp} : ∀ {vs : List V} {fl : List (Str × Str)}, Paired (FlR K H) vs fl → DpAll K H vs (fl.map flD)
  | _, _, .nil => .nil
  | _, _, .cons ⟨p, e, h⟩ r => .cons (e ▸ .tup h (.cons (.str _) (.cons (.str _) .nil))) (fl_dp r)
theorem fl_lay : ∀ fl : List (Str × Str), FlOk fl → PyData.canLayAll0 (fl.map flD) = true ∧ PyData.depthAll (fl.map flD) ≤ 2
  | [], _ => by simp [PyData.canLayAll0, PyData.depthAll]
  | q :: r, ok => by
    obtain ⟨h1, h2⟩ := fl_lay r fun x m => ok x (List.mem_cons_of_mem _ m)
    obtain ⟨o1, o2⟩ := ok q List.mem_cons_self
    refine ⟨by simp [PyData.canLayAll0, PyData.canLay0, flD, h1, o1, o2], ?_⟩
    simp only [List.map_cons, PyData.depthAll, PyData.depth, flD]
    omega
theorem fl_shaped {fl : List (Str × Str)} (ok : FlOk fl) : SeqAt.shaped (.list (fl.map flD)) = true := by
  obtain ⟨h1, h2⟩ := fl_lay fl ok
  show (PyData.canLay0 (.list (fl.map flD)) && decide (PyData.depth (.list (fl.map flD)) ≤ 64)) = true
  rw [Bool.and_eq_true]
  refine ⟨by simp only [PyData.canLay0]; exact h1, decide_eq_true ?_⟩
  simp only [PyData.depth]
  omega
theorem eqv_nil (ds : List PyData) : PyData.eqv (.list ds) (.list []) = ds.isEmpty := by
  cases ds <;> simp [PyData.eqv, PyData.eqvAll]
theorem eqv_fl (fl : List (Str × Str)) : PyData.eqv (.list (fl.map flD)) (.list []) = fl.isEmpty := by
  rw [eqv_nil]
  cases fl <;> rfl
theorem fl_at {K : PySem.W.Frag} {H : Hp} : ∀ {vs : List V} {fl : List (Str × Str)} {i : Nat}, Paired (FlR K H) vs fl → i < fl.length → ∃ p q, vs[i]? = some (.ref p) ∧ q ∈ fl ∧ SqT K H p [.str q.1, .str q.2]
  | _, _, i, .nil, h => absurd h (Nat.not_lt_zero i)
  | _, q :: _, 0, .cons ⟨p, e, h⟩ _, _ => ⟨p, q, by rw [e]; rfl, List.mem_cons_self, h⟩
  | _, _, i + 1, .cons _ r, h => by
    obtain ⟨p, q, h1, h2, h3⟩ := fl_at (i := i) r (Nat.lt_of_succ_lt_succ h)
    exact ⟨p, q, h1, List.mem_cons_of_mem _ h2, h3⟩
def spTerm (K : PySem.W.Frag) (n : Nat) : Sp := fun vs H Q _ => ∃ (a b l : Addr) (fl : List (Str × Str)) (dp : Int), vs = [.ref a, .ref l, .int dp] ∧ 0 ≤ dp ∧ dp < n ∧ HAt H a b ∧ FlAt K H l fl ∧ l ≠ a ∧ l ≠ b ∧ fl.length ≤ 100 ∧
  ∀ (v : V) (t : Tr) (H' : Hp), HAt H' a b → Keep a b H H' → TrAt K H' v t → IsTm fl t → t.depth ≤ dp.toNat → Q v H'
def spCond (K : PySem.W.Frag) (n : Nat) : Sp := fun vs H Q _ => ∃ (a b l : Addr) (fl : List (Str × Str)) (dp : Int), vs = [.ref a, .ref l, .int dp] ∧ 0 ≤ dp ∧ dp < n ∧ HAt H a b ∧ FlAt K H l fl ∧ l ≠ a ∧ l ≠ b ∧ fl.length ≤ 100 ∧
  ∀ (v : V) (t : Tr) (H' : Hp), HAt H' a b → Keep a b H H' → TrAt K H' v t → IsCd fl t → t.depth ≤ dp.toNat + 2 → Q v H'
section
variable {P : Program} {w : World} {K : PySem.W.Frag} {mg : Str → Option Value} {base : Heap}
/-- a promise of nothing -/
theorem none_left {f : Addr} {fd : FuncData} {k : Nat} {ps : List Str} {sp : Sp} (no : ∀ vs H Q E, ¬ sp vs H Q E) : FnOk P w K mg base CX0 k f fd ps sp :=
  ⟨fun vs H Q E h => absurd h (no vs H Q E), fun A outer s H args us vs Q E _ _ _ _ h => absurd h (no vs H Q E)⟩
theorem Cal.mono {j k : Nat} {x : Str} {ps : List Str} {sp : Sp} {f : Addr} {fd : FuncData} (c : Cal P w K mg base j x ps sp f fd) (h : j ≤ k) : Cal P w K mg base k x ps sp f fd := ⟨c.g, c.kp, c.b, c.G.mono h⟩
theorem scShapes : FnScope ["_law_h", "_law_many", "_law_found", "_law_k"] ["_law_h", "_law_many"] (defScope sLshapes) := ⟨rfl, rfl, rfl, by decide +kernel, rfl, by decide +kernel, by decide +kernel⟩
theorem ok_shapes {f fn : Addr} {fd fdn : FuncData} (F : Fun K "_law_shapes" "_law_shapes" sLshapes f fd) (T : Txt mg) (Cnext : Cal P w K mg base 1 "_law_next" ["_law_h", "_law_many"] spNext fn fdn) : FnOk P w K mg base CX0 2 f fd ["_law_h", "_law_many"] (spShapes K) := by
  refine F.ok scShapes (fun vs H Q E h => ?_) (fun cdv A outer s H vs Q E hr h => ?_)
  · obtain ⟨a, b, rfl, _⟩ := h
    rfl
  · obtain ⟨a, b, rfl, B, k⟩ := h
    have hr1 : Room 1 _ := hr.mono (by decide)
    refine ⟨_, (pss_cons (ps_set (i := 2) scShapes.nd rfl (Or.inl rfl) pe_dnewK)
      (pss_cons (ps_for PassesOwn.never rfl (pi_range1 rfl T.range (pa_cons (pe_op op_add pe_int (pe_call Cnext.G hr1 rfl Cnext.g Cnext.kp Cnext.b .nil pass0 (pa_cons (pv 0) (pa_cons (pv 1) pa_nil)))) pa_nil)) (pg_name (i := 3) scShapes.nd rfl (Or.inl rfl))
        (pss_one (ps_dput (hu_of hr) (pv 2) (pe_op op_add_str pe_str (pe_ix ix_str pe_str (pv 3) (fun _ _ => rfl))) (pe_slice (RK.slT (K := K)) (pe_tup (pa_cons pe_str (pa_cons pe_str (pa_cons pe_str (pa_cons pe_str pa_nil))))) po_none (po_some (pe_op op_add pe_int (pe_call Cnext.G hr1 rfl Cnext.g Cnext.kp Cnext.b .nil pass0 (pa_cons (pv 0) (pa_cons pe_int pa_nil)))))) rfl)))
      (pss_one (ps_ret (pv 2))))), ?_⟩
    intro d hd
    have nd := B.ne hd
    have s0 := Same.new (o := .dK []) hd
    refine ⟨_, rfl, _, rfl, a, b, 3, rfl, by decide, by decide, B.same s0, fun m H1 m0 m3 B1 kp1 => ?_⟩
    refine ⟨_, _, rfl, rfl, _, rfl, by omega, by omega, ?_⟩
    have hd1 : H1 d = some (.dK []) := kp1 d _ nd.1 nd.2 upd_same
    refine for_range (lo := 0) (n := (1 + m).toNat) (fun i σ H' => ∃ v3 sh, σ = [some (.ref a), some (.int 3), some (.ref d), v3] ∧ HAt H' a b ∧ Keep a b H H' ∧ ShapesAt K H' d sh ∧ IsShapes sh ∧ sh.length = i)
      ⟨none, [], rfl, B1, (Keep.same s0).trans kp1, ⟨[], hd1, .nil⟩, ⟨rfl, Nat.zero_le _, fun p z => by cases z⟩, rfl⟩ ?_ ?_
    · rintro i σ H2 hi ⟨v3, sh, rfl, B2, kp2, S2, I2, li⟩
      have hi3 : i < 3 := by omega
      -- ("k", "x", "y", "z")[:1 + next(h, 4)]
      refine ⟨(by show 4 ≤ sizeLine; decide), fun p hp => ?_⟩
      have s3 := Same.new (o := .tup (flds.map V.str)) hp
      refine ⟨_, rfl, a, b, 4, rfl, by decide, by decide, B2.same s3, fun r H4 r0 r4 B4 kp4 => ⟨_, _, rfl, rfl, _, rfl, ?_⟩⟩
      have kn4 := kp4.n (B2.same s3)
      have hp4 : SqT K H4 p (flds.map V.str) := kn4.t (SqT.of upd_same)
      have S4 : ShapesAt K H4 d sh := (S2.keep (KeepN.of s3)).keep kn4
      have kp24 : Keep a b H H4 := kp2.trans ((Keep.same s3).trans kp4)
      have fin : ∀ (t : Addr) (H5 : Hp), Same H4 H5 → SqT K H5 t ((flds.take (1 + r).toNat).map V.str) → ∃ a_1 H6, V.ref d = V.ref a_1 ∧ DPut H5 a_1 (.str (tabs.getD i Str.empty)) (.ref t) H6 ∧
          ∃ v3 sh, [some (.ref a), some (.int 3), some (.ref d), some (V.int (0 + ((i : Nat) : Int)))] = [some (.ref a), some (.int 3), some (.ref d), v3] ∧ HAt H6 a b ∧ Keep a b H H6 ∧ ShapesAt K H6 d sh ∧ IsShapes sh ∧ sh.length = i + 1 := fun t H5 s5 ht => by
        obtain ⟨kvs, hd5, pr⟩ := S4.keep (KeepN.of s5)
        have lk : kvs.length ≤ 3 := by rw [pr_len pr, li]; omega
        have nin : tabs.getD i Str.empty ∉ sh.map (·.1) := by
          rw [I2.names, li]
          have h : i = 0 ∨ i = 1 ∨ i = 2 := by omega
          rcases h with rfl | rfl | rfl <;> decide +kernel
        refine ⟨d, _, rfl, DPut.k (k := .inr (tabs.getD i Str.empty)) hd5 (Nat.lt_of_le_of_lt lk (by decide)), _, sh ++ [(tabs.getD i Str.empty, flds.take (1 + r).toNat)], rfl, (B4.same s5).upd nd, ?_, ⟨_, upd_same, ?_⟩, ⟨?_, ?_, ?_⟩, ?_⟩
        · intro x o h1 h2 h
          rw [upd_ne (ne_of_none h hd)]
          exact s5 _ _ (kp24 x o h1 h2 h)
        · rw [pr_put pr nin]
          exact pr_snoc (pr_mono (fun v x ⟨t, e, q⟩ => ⟨t, e, t_upd hd5 q⟩) pr) ⟨t, rfl, t_upd hd5 ht⟩
        · rw [List.map_append, I2.names, li, List.length_append, li]
          have h : i = 0 ∨ i = 1 ∨ i = 2 := by omega
          rcases h with rfl | rfl | rfl <;> rfl
        · rw [List.length_append, li]
          show i + 1 ≤ 3
          omega
        · intro q m
          rcases List.mem_append.mp m with m | m
          · exact I2.fs q m
          · obtain rfl := List.mem_singleton.mp m
            exact ⟨(1 + r).toNat, by omega, by omega, rfl⟩
        · rw [List.length_append, li]
          rfl
      have key : ∀ (t : Addr) (H5 : Hp), Same H4 H5 → SqT K H5 t ((flds.take (1 + r).toNat).map V.str) → tVar 2 [some (.ref a), some (.int 3), some (.ref d), some (V.int (0 + ((i : Nat) : Int)))] H5 fun x H2 =>
          tOp (fun x y H Q => ∃ i j, x = .str i ∧ y = .str j ∧ i.length + j.length ≤ sizeLine ∧ Q (.str (i ++ j)) H) (tC (.str (Str.ofString "t"))) (tOp rIxS (tC (.str (Str.ofString "abc"))) (tVar 3)) [some (.ref a), some (.int 3), some (.ref d), some (V.int (0 + ((i : Nat) : Int)))] H2 fun y H3 =>
            ∃ a_1 H6, x = .ref a_1 ∧ DPut H3 a_1 y (.ref t) H6 ∧ ∃ v3 sh, [some (.ref a), some (.int 3), some (.ref d), some (V.int (0 + ((i : Nat) : Int)))] = [some (.ref a), some (.int 3), some (.ref d), v3] ∧ HAt H6 a b ∧ Keep a b H H6 ∧ ShapesAt K H6 d sh ∧ IsShapes sh ∧ sh.length = i + 1 := fun t H5 s5 ht => by
        have f5 := fin t H5 s5 ht
        have h : i = 0 ∨ i = 1 ∨ i = 2 := by omega
        rcases h with rfl | rfl | rfl
        · exact ⟨_, rfl, _, rfl, Str.ofString "abc", _, 97, rfl, rfl, by decide, by decide +kernel, _, _, rfl, rfl, by decide, f5⟩
        · exact ⟨_, rfl, _, rfl, Str.ofString "abc", _, 98, rfl, rfl, by decide, by decide +kernel, _, _, rfl, rfl, by decide, f5⟩
        · exact ⟨_, rfl, _, rfl, Str.ofString "abc", _, 99, rfl, rfl, by decide, by decide +kernel, _, _, rfl, rfl, by decide, f5⟩
      have hr4 : r = 0 ∨ r = 1 ∨ r = 2 ∨ r = 3 := by omega
      refine ⟨p, _, rfl, hp4, fun hw => ?_, fun hw q hq => ?_⟩
      · rcases hr4 with rfl | rfl | rfl | rfl
        · exact absurd hw.2 (by decide)
        · exact absurd hw.2 (by decide)
        · exact absurd hw.2 (by decide)
        · exact key p H4 (Same.refl _) hp4
      · have e : cutV (flds.map V.str) none (some (1 + r)) = (flds.take (1 + r).toNat).map V.str := by rcases hr4 with rfl | rfl | rfl | rfl <;> rfl
        show tVar 2 _ (upd H4 q (.tup (cutV (flds.map V.str) none (some (1 + r))))) _
        rw [e]
        exact key q _ (Same.new hq) (SqT.of upd_same)
    · rintro σ H' ⟨v3, sh, rfl, B', kp, S, I, li⟩
      exact ⟨_, rfl, k d H' sh B' kp hd S I (by omega)⟩
theorem scNumber : FnScope ["_law_h"] ["_law_h"] (defScope sLnumber) := ⟨rfl, rfl, rfl, by decide +kernel, rfl, by decide +kernel, by decide +kernel⟩
theorem ok_number {f fn : Addr} {fd fdn : FuncData} (F : Fun K "_law_number" "_law_number" sLnumber f fd) (Cnext : Cal P w K mg base 1 "_law_next" ["_law_h", "_law_many"] spNext fn fdn) : FnOk P w K mg base CX0 2 f fd ["_law_h"] spNumber := by
  refine F.ok scNumber (fun vs H Q E h => ?_) (fun cdv A outer s H vs Q E hr h => ?_)
  · obtain ⟨a, b, rfl, _⟩ := h
    rfl
  · obtain ⟨a, b, rfl, B, k⟩ := h
    have hr1 : Room 1 _ := hr.mono (by decide)
    refine ⟨_, (pss_one (ps_ret (pe_ix (RK.ixL (K := K)) (pe_lst (pa_cons (pe_call Cnext.G hr1 rfl Cnext.g Cnext.kp Cnext.b .nil pass0 (pa_cons (pv 0) (pa_cons pe_int pa_nil))) (pa_cons (pe_op op_sub (pe_call Cnext.G hr1 rfl Cnext.g Cnext.kp Cnext.b .nil pass0 (pa_cons (pv 0) (pa_cons pe_int pa_nil))) pe_int) (pa_cons (pe_op op_sub (pe_call Cnext.G hr1 rfl Cnext.g Cnext.kp Cnext.b .nil pass0 (pa_cons (pv 0) (pa_cons pe_int pa_nil))) pe_int) pa_nil)))) (pe_op op_fdiv (pe_call Cnext.G hr1 rfl Cnext.g Cnext.kp Cnext.b .nil pass0 (pa_cons (pv 0) (pa_cons pe_int pa_nil))) pe_int) (fun _ _ => rfl)))), ?_⟩
    refine ⟨_, rfl, a, b, 6, rfl, by decide, by decide, B, fun x H1 x0 x6 B1 kp1 => ⟨_, rfl, a, b, 13, rfl, by decide, by decide, B1, fun y H2 y0 y13 B2 kp2 => ⟨_, _, rfl, rfl, _, rfl, a, b, 2000, rfl, by decide, by decide, B2, fun z H3 z0 z2 B3 kp3 => ⟨_, _, rfl, rfl, (by show 3 ≤ sizeLine; decide), fun l hl => ?_⟩⟩⟩⟩
    have s4 := Same.new (o := .lst [.int x, .int (y - 4), .int (z - 999)]) hl
    have nl := B3.ne hl
    refine ⟨_, rfl, a, b, 7, rfl, by decide, by decide, B3.same s4, fun r H5 r0 r7 B5 kp5 => ⟨_, _, rfl, rfl, ⟨by decide, by decide⟩, ?_⟩⟩
    have kp : Keep a b H H5 := kp1.trans (kp2.trans (kp3.trans ((Keep.same s4).trans kp5)))
    have hl5 : H5 l = some (.lst [.int x, .int (y - 4), .int (z - 999)]) := kp5 l _ nl.1 nl.2 upd_same
    have h : r / 7 = 0 ∨ r / 7 = 1 ∨ r / 7 = 2 ∨ r / 3 = 0 ∨ r / 3 = 1 ∨ r / 3 = 2 := by omega
    have h3 : r / 3 = 0 ∨ r / 3 = 1 ∨ r / 3 = 2 := by omega
    rcases h3 with e | e | e
    · exact ⟨l, _, _, .int x, rfl, rfl, SqL.of hl5, by rw [e]; rfl, k _ _ (by omega) (by omega) B5 kp⟩
    · exact ⟨l, _, _, .int (y - 4), rfl, rfl, SqL.of hl5, by rw [e]; rfl, k _ _ (by omega) (by omega) B5 kp⟩
    · exact ⟨l, _, _, .int (z - 999), rfl, rfl, SqL.of hl5, by rw [e]; rfl, k _ _ (by omega) (by omega) B5 kp⟩
end
end K25

namespace K25
open PySem L2

theorem gn {i : Nat} {x : V} {σ : L2.St} {H : Hp} {Q : L2.St → Hp → Prop} (h : Q (σ.set i (some x)) H) : gName i x σ H Q := h
theorem cb1 {r : List V → Hp → VK → Prop} {ta : TE} {σ : L2.St} {H : Hp} {Q : VK} (h : ta σ H fun x H1 => r [x] H1 Q) : tCB r (tCons ta tNil) σ H Q := h
theorem sa1 {te : TE} {g : TG} {u : TS} {D : Ends} {σ : L2.St} {H : Hp} (h : te σ H fun x H1 => g x σ H1 (u D)) : tSeq (tAsg te g) u D σ H := h
theorem sif {c : TT} {t e u : TS} {D : Ends} {σ : L2.St} {H : Hp} (h : c σ H fun b H1 => if b = true then t { D with nx := u D } σ H1 else e { D with nx := u D } σ H1) : tSeq (tIfS c t e) u D σ H := h
theorem and2 {t u : TT} {σ : L2.St} {H : Hp} {Qb : Bool → Hp → Prop} {b c : Bool} (h1 : ∀ Q : Bool → Hp → Prop, Q b H → t σ H Q) (h2 : b = true → ∀ Q : Bool → Hp → Prop, Q c H → u σ H Q) (q : Qb (b && c) H) : tAnd t u σ H Qb := by
  refine h1 _ ?_
  cases b with
  | true => exact iteT (h2 rfl _ q)
  | false => exact iteF q
theorem or2 {t u : TT} {σ : L2.St} {H : Hp} {Qb : Bool → Hp → Prop} {b c : Bool} (h1 : ∀ Q : Bool → Hp → Prop, Q b H → t σ H Q) (h2 : b = false → ∀ Q : Bool → Hp → Prop, Q c H → u σ H Q) (q : Qb (b || c) H) : tOr t u σ H Qb := by
  refine h1 _ ?_
  cases b with
  | true => exact iteT q
  | false => exact iteF (h2 rfl _ q)
section
variable {P : Program} {w : World} {K : PySem.W.Frag} {mg : Str → Option Value} {base : Heap}
/-- ("field",) + fields[next(h, len(fields))] -/
theorem te_field {σ : L2.St} {H : Hp} {Q : VK} {a b l : Addr} {fl : List (Str × Str)} (h0 : σ[0]? = some (some (.ref a))) (h1 : σ[1]? = some (some (.ref l))) (B : HAt H a b) (Fl : FlAt K H l fl) (na : l ≠ a) (nb : l ≠ b) (h100 : fl.length ≤ 100) (ne : fl ≠ [])
    (k : ∀ (v : V) (q : Str × Str) (H' : Hp), q ∈ fl → HAt H' a b → Keep a b H H' → TrAt K H' v (.field q.1 q.2) → Q v H') :
    tOp (rCatA K) (tTup (tCons (tC (V.str (Str.ofString "field"))) tNil)) (tOp (rIxL K) (tVar 1) (tCall spNext [] E0 (tCons (tVar 0) (tCons (tCB (RK.rLenQ K) (tCons (tVar 1) tNil)) tNil)))) σ H Q := by
  refine ⟨(by show 1 ≤ sizeLine; decide), fun p hp => ?_⟩
  have s1 := Same.new (o := .tup [.str (Str.ofString "field")]) hp
  obtain ⟨vs, hl, pr, ok⟩ := Fl.same s1
  have len : vs.length = fl.length := Paired.length pr
  have pos : 0 < fl.length := List.length_pos_iff.mpr ne
  refine ⟨_, h1, _, h0, _, h1, l, _, rfl, .inl (SqL.of hl), a, b, (vs.length : Int), rfl, by omega, by omega, B.same s1, fun r H2 r0 r1 B2 kp2 => ?_⟩
  have hr : r.toNat < fl.length := by omega
  obtain ⟨p2, q, e, m, ht⟩ := fl_at pr hr
  have kn := kp2.n (B.same s1)
  refine ⟨l, vs, r, .ref p2, rfl, rfl, SqL.of (kp2 l _ na nb hl), atI_of r0 e, p, p2, _, _, rfl, rfl, kn.t (SqT.of upd_same), kn.t ht, (by show 1 + 2 ≤ sizeLine; decide), (fun z => by cases z), (fun _ z => by cases z), fun _ _ q' hq' => ?_⟩
  have s3 := Same.new (o := .tup ([V.str (Str.ofString "field")] ++ [V.str q.1, V.str q.2])) hq'
  exact k _ q _ m (B2.same s3) ((Keep.same s1).trans (kp2.trans (Keep.same s3))) ⟨q', rfl, SqT.of upd_same⟩
theorem scTerm : FnScope ["_law_h", "_law_fields", "_law_deep", "_law_way"] ["_law_h", "_law_fields", "_law_deep"] (defScope sLterm) := ⟨rfl, rfl, rfl, by decide +kernel, rfl, by decide +kernel, by decide +kernel⟩
theorem ok_term {n : Nat} {f fn fu : Addr} {fd fdn fdu : FuncData} (F : Fun K "_law_term" "_law_term" sLterm f fd) (T : Txt mg) (Cnext : Cal P w K mg base (n + 2) "_law_next" ["_law_h", "_law_many"] spNext fn fdn) (Cnumber : Cal P w K mg base (n + 2) "_law_number" ["_law_h"] spNumber fu fdu)
    (Cterm : Cal P w K mg base (n + 2) "_law_term" ["_law_h", "_law_fields", "_law_deep"] (spTerm K n) f fd) : FnOk P w K mg base CX0 (n + 3) f fd ["_law_h", "_law_fields", "_law_deep"] (spTerm K (n + 1)) := by
  refine F.ok scTerm (fun vs H Q E h => ?_) (fun cdv A outer s H vs Q E hr h => ?_)
  · obtain ⟨a, b, l, fl, dp, rfl, _⟩ := h
    rfl
  · obtain ⟨a, b, l, fl, dp, rfl, d0, dn, B, Fl, na, nb, h100, k⟩ := h
    have hr1 : Room (n + 2) _ := hr
    refine ⟨_, (pss_cons (ps_set (i := 3) scTerm.nd rfl (Or.inl rfl) (pe_call Cnext.G hr1 rfl Cnext.g Cnext.kp Cnext.b .nil pass0 (pa_cons (pv 0) (pa_cons pe_int pa_nil))))
      (pss_cons (ps_if (PW.pt (pw_and (pt_cmpR op_lt (pv 3) pe_int (nomark _)) (pw_and1 (pt_cmpR op_gt (pv 2) pe_int (nomark _))))) (pss_one (ps_ret (pe_tup (pa_cons (pe_ix ix_str pe_str (pv 3) (fun _ _ => rfl)) (pa_cons (pe_call Cterm.G hr1 rfl Cterm.g Cterm.kp Cterm.b .nil pass0 (pa_cons (pv 0) (pa_cons (pv 1) (pa_cons (pe_op op_sub (pv 2) pe_int) pa_nil)))) (pa_cons (pe_call Cterm.G hr1 rfl Cterm.g Cterm.kp Cterm.b .nil pass0 (pa_cons (pv 0) (pa_cons (pv 1) (pa_cons (pe_op op_sub (pv 2) pe_int) pa_nil)))) pa_nil)))))) pss_nil)
      (pss_cons (ps_if (PW.pt (pw_or (pt_cmpR op_lt (pv 3) pe_int (nomark _)) (pw_or1 (pt_cmpR (RK.eqD (K := K) hr.units) (pv 1) (pe_lst pa_nil) (nomark _))))) (pss_one (ps_ret (pe_tup (pa_cons pe_str (pa_cons (pe_call Cnumber.G hr1 rfl Cnumber.g Cnumber.kp Cnumber.b .nil pass0 (pa_cons (pv 0) pa_nil)) pa_nil))))) pss_nil)
      (pss_one (ps_ret (pe_op (RK.catT (K := K)) (pe_tup (pa_cons pe_str pa_nil)) (pe_ix (RK.ixL (K := K)) (pv 1) (pe_call Cnext.G hr1 rfl Cnext.g Cnext.kp Cnext.b .nil pass0 (pa_cons (pv 0) (pa_cons (pe_callB (RK.lenQ (K := K)) (by rfl) T.len PySem.boot_len (pa_cons (pv 1) pa_nil)) pa_nil))) (fun _ _ => rfl)))))))), ?_⟩
    refine ⟨_, rfl, a, b, 8, rfl, by decide, by decide, B, fun r H1 r0 r8 B1 kp1 => ?_⟩
    have Fl1 := Fl.keep B kp1 na nb
    refine gn ?_
    dsimp only
    refine sif ?_
    refine and2 (b := decide (r < 3)) (c := decide (0 < dp)) (fun Q q => ⟨_, rfl, _, _, rfl, rfl, _, rfl, q⟩) (fun _ Q q => ⟨_, rfl, _, _, rfl, rfl, _, rfl, q⟩) ?_
    cases hb : (decide (r < 3) && decide (0 < dp)) with
    | true =>
      rw [Bool.and_eq_true, decide_eq_true_eq, decide_eq_true_eq] at hb
      refine iteT ?_
      obtain ⟨c, hc, hop⟩ : ∃ c, atI (Str.ofString "+-*").cps.toList r = some c ∧ (⟨#[c]⟩ : Str) ∈ [Str.ofString "+", Str.ofString "-", Str.ofString "*"] := by
        have h : r = 0 ∨ r = 1 ∨ r = 2 := by omega
        rcases h with rfl | rfl | rfl
        · exact ⟨43, by decide +kernel, by decide +kernel⟩
        · exact ⟨45, by decide +kernel, by decide +kernel⟩
        · exact ⟨42, by decide +kernel, by decide +kernel⟩
      refine ⟨_, rfl, Str.ofString "+-*", r, c, rfl, rfl, by decide, hc, _, rfl, _, rfl, _, rfl, _, _, rfl, rfl, a, b, l, fl, dp - 1, rfl, by omega, by omega, B1, Fl1, na, nb, h100, fun v1 t1 H2 B2 kp2 T2 I2 e2 => ?_⟩
      refine ⟨_, rfl, _, rfl, _, rfl, _, _, rfl, rfl, a, b, l, fl, dp - 1, rfl, by omega, by omega, B2, Fl1.keep B1 kp2 na nb, na, nb, h100, fun v2 t2 H3 B3 kp3 T3 I3 e3 => ⟨(by show 3 ≤ sizeLine; decide), fun p hp => ?_⟩⟩
      have s4 := Same.new (o := .tup [.str ⟨#[c]⟩, v1, v2]) hp
      refine k _ (.bin ⟨#[c]⟩ t1 t2) _ (B3.same s4) (kp1.trans (kp2.trans (kp3.trans (Keep.same s4)))) ⟨p, v1, v2, rfl, SqT.of upd_same, (T2.keep (kp3.n B2)).keep (KeepN.of s4), T3.keep (KeepN.of s4)⟩ (.bin hop I2 I3) ?_
      show max t1.depth t2.depth + 1 ≤ dp.toNat
      omega
    | false =>
      refine iteF ?_
      have num : ∀ Hc, HAt Hc a b → Keep a b H Hc → tTup (tCons (tC (V.str (Str.ofString "num"))) (tCons (tCall spNumber [] E0 (tCons (tVar 0) tNil)) tNil)) [some (.ref a), some (.ref l), some (.int dp), some (.int r)] Hc Q := fun Hc Bc kpc =>
        ⟨_, rfl, a, b, rfl, Bc, fun x H2 x0 x1 B2 kp2 => ⟨(by show 2 ≤ sizeLine; decide), fun p hp => k _ (.num x) _ (B2.same (Same.new hp)) (kpc.trans (kp2.trans (Keep.same (Same.new hp)))) ⟨p, rfl, SqT.of upd_same⟩ (.num x0 x1) (Nat.zero_le _)⟩⟩
      by_cases c5 : r < 5
      · refine ⟨_, rfl, _, _, rfl, rfl, _, rfl, ?_⟩
        rw [show decide (r < 5) = true from decide_eq_true c5]
        exact iteT (iteT (num H1 B1 kp1))
      · refine ⟨_, rfl, _, _, rfl, rfl, _, rfl, ?_⟩
        rw [show decide (r < 5) = false from decide_eq_false c5]
        refine iteF ⟨_, rfl, (by show 0 ≤ sizeLine; decide), fun e he => ?_⟩
        have s2 := Same.new (o := .lst []) he
        have Fl2 := Fl1.same s2
        obtain ⟨vs, hl, pr, ok⟩ := id Fl2
        refine ⟨_, _, .lst (SqL.of hl) (fl_dp pr), .lst (SqL.of upd_same) .nil, fl_shaped ok, rfl, _, rfl, ?_⟩
        rw [eqv_fl]
        cases hfl : fl.isEmpty with
        | true => exact iteT (num _ (B1.same s2) (kp1.trans (Keep.same s2)))
        | false =>
          refine iteF (te_field (K := K) (a := a) (b := b) (l := l) (fl := fl) rfl rfl (B1.same s2) Fl2 na nb h100 (fun z => by rw [z] at hfl; cases hfl) fun v q H' m B' kp' T' => ?_)
          exact k v _ H' B' (kp1.trans ((Keep.same s2).trans kp')) T' (.field m) (Nat.zero_le _)
theorem all_term {f fn fu : Addr} {fd fdn fdu : FuncData} (F : Fun K "_law_term" "_law_term" sLterm f fd) (T : Txt mg) (Cnext : Cal P w K mg base 1 "_law_next" ["_law_h", "_law_many"] spNext fn fdn) (Cnumber : Cal P w K mg base 2 "_law_number" ["_law_h"] spNumber fu fdu)
    (g : mg "_law_term" = some (.ref f)) (b : Binds K fd ["_law_h", "_law_fields", "_law_deep"] []) : ∀ n : Nat, FnOk P w K mg base CX0 (n + 2) f fd ["_law_h", "_law_fields", "_law_deep"] (spTerm K n)
  | 0 => none_left fun vs H Q E h => by
    obtain ⟨_, _, _, _, _, _, h0, h1, _⟩ := h
    omega
  | n + 1 => ok_term F T (Cnext.mono (by omega)) (Cnumber.mono (by omega)) ⟨g, F.kp, b, all_term F T Cnext Cnumber g b n⟩
theorem scCond : FnScope ["_law_h", "_law_fields", "_law_deep", "_law_way", "_law_word", "_law_some_here", "_law_k", "_law_field", "_law_pair"] ["_law_h", "_law_fields", "_law_deep"] (defScope sLcond) := ⟨rfl, rfl, rfl, by decide +kernel, rfl, by decide +kernel, by decide +kernel⟩
theorem ok_cond {n : Nat} {f fn ft : Addr} {fd fdn fdt : FuncData} (F : Fun K "_law_cond" "_law_cond" sLcond f fd) (T : Txt mg) (Cnext : Cal P w K mg base (n + 4) "_law_next" ["_law_h", "_law_many"] spNext fn fdn) (Cterm : Cal P w K mg base (n + 4) "_law_term" ["_law_h", "_law_fields", "_law_deep"] (spTerm K 2) ft fdt)
    (Ccond : Cal P w K mg base (n + 4) "_law_cond" ["_law_h", "_law_fields", "_law_deep"] (spCond K n) f fd) : FnOk P w K mg base CX0 (n + 5) f fd ["_law_h", "_law_fields", "_law_deep"] (spCond K (n + 1)) := by
  refine F.ok scCond (fun vs H Q E h => ?_) (fun cdv A outer s H vs Q E hr h => ?_)
  · obtain ⟨a, b, l, fl, dp, rfl, _⟩ := h
    rfl
  · obtain ⟨a, b, l, fl, dp, rfl, d0, dn, B, Fl, na, nb, h100, k⟩ := h
    have hr1 : Room (n + 4) _ := hr
    refine ⟨_, (pss_cons (ps_set (i := 3) scCond.nd rfl (Or.inl rfl) (pe_call Cnext.G hr1 rfl Cnext.g Cnext.kp Cnext.b .nil pass0 (pa_cons (pv 0) (pa_cons pe_int pa_nil))))
      (pss_cons (ps_if (PW.pt (pw_and (pt_cmpR op_lt (pv 3) pe_int (nomark _)) (pw_and1 (pt_cmpR op_gt (pv 2) pe_int (nomark _))))) (pss_cons (ps_set (i := 4) scCond.nd rfl (Or.inl rfl) (pe_ix (RK.ixL (K := K)) (pe_lst (pa_cons pe_str (pa_cons pe_str (pa_cons pe_str (pa_cons pe_str pa_nil))))) (pv 3) (fun _ _ => rfl)))
        (pss_cons (ps_set (i := 5) scCond.nd rfl (Or.inl rfl) (pe_callTy (RK.tupQ (K := K)) (by rfl) T.tuple (by decide +kernel) (pa_cons (pe_lc (own := [("_law_k", 6)]) rfl scCond.nd (pi_range1 rfl T.range (pa_cons (pe_ifExp (pt_cmpR op_eq (pv 4) pe_str (nomark _)) pe_int pe_int) pa_nil)) (blkOk_by (N := ["_law_h", "_law_fields", "_law_deep", "_law_way", "_law_word", "_law_some_here", "_law_k", "_law_field", "_law_pair"]) (sc := defScope sLcond) (by decide +kernel)) (fun _ _ _ _ _ => (pg_name (i := 6) scCond.nd rfl (Or.inl rfl))) (fun _ _ _ _ _ => pts_nil) (fun _ _ _ _ _ => (pe_call Ccond.G hr1 rfl Ccond.g Ccond.kp Ccond.b .nil pass0 (pa_cons (pv 0) (pa_cons (pv 1) (pa_cons (pe_op op_sub (pv 2) pe_int) pa_nil)))))) pa_nil)))
        (pss_one (ps_ret (pe_op (RK.catT (K := K)) (pe_tup (pa_cons (pv 4) pa_nil)) (pv 5)))))) pss_nil)
      (pss_cons (ps_set (i := 4) scCond.nd rfl (Or.inl rfl) (pe_ix (RK.ixL (K := K)) (pe_lst (pa_cons pe_str (pa_cons pe_str (pa_cons pe_str (pa_cons pe_str (pa_cons pe_str pa_nil)))))) (pe_call Cnext.G hr1 rfl Cnext.g Cnext.kp Cnext.b .nil pass0 (pa_cons (pv 0) (pa_cons pe_int pa_nil))) (fun _ _ => rfl)))
      (pss_cons (ps_if (PW.pt (pw_and (pt_cmpR op_gt (pe_call Cnext.G hr1 rfl Cnext.g Cnext.kp Cnext.b .nil pass0 (pa_cons (pv 0) (pa_cons pe_int pa_nil))) pe_int (nomark _)) (pw_and1 (pt_cmpR (RK.neD (K := K) hr.units) (pv 1) (pe_lst pa_nil) (nomark _))))) (pss_cons (ps_set (i := 7) scCond.nd rfl (Or.inl rfl) (pe_op (RK.catT (K := K)) (pe_tup (pa_cons pe_str pa_nil)) (pe_ix (RK.ixL (K := K)) (pv 1) (pe_call Cnext.G hr1 rfl Cnext.g Cnext.kp Cnext.b .nil pass0 (pa_cons (pv 0) (pa_cons (pe_callB (RK.lenQ (K := K)) (by rfl) T.len PySem.boot_len (pa_cons (pv 1) pa_nil)) pa_nil))) (fun _ _ => rfl))))
        (pss_cons (ps_set (i := 8) scCond.nd rfl (Or.inl rfl) (pe_tup (pa_cons (pv 7) (pa_cons (pe_tup (pa_cons pe_str (pa_cons (pe_call Cnext.G hr1 rfl Cnext.g Cnext.kp Cnext.b .nil pass0 (pa_cons (pv 0) (pa_cons pe_int pa_nil))) pa_nil))) pa_nil))))
        (pss_one (ps_ret (pe_op (RK.catT (K := K)) (pe_tup (pa_cons (pv 4) pa_nil)) (pe_ifExp (pt_cmpR op_eq (pe_call Cnext.G hr1 rfl Cnext.g Cnext.kp Cnext.b .nil pass0 (pa_cons (pv 0) (pa_cons pe_int pa_nil))) pe_int (nomark _)) (pv 8) (L2.pe_revP (K := K) (pv 8)))))))) pss_nil)
      (pss_one (ps_ret (pe_tup (pa_cons (pv 4) (pa_cons (pe_call Cterm.G hr1 rfl Cterm.g Cterm.kp Cterm.b .nil pass0 (pa_cons (pv 0) (pa_cons (pv 1) (pa_cons pe_int pa_nil)))) (pa_cons (pe_call Cterm.G hr1 rfl Cterm.g Cterm.kp Cterm.b .nil pass0 (pa_cons (pv 0) (pa_cons (pv 1) (pa_cons pe_int pa_nil)))) pa_nil)))))))))), ?_⟩
    refine ⟨_, rfl, a, b, 8, rfl, by decide, by decide, B, fun r H1 r0 r8 B1 kp1 => ?_⟩
    have Fl1 := Fl.keep B kp1 na nb
    refine gn ?_
    dsimp only
    refine sif ?_
    refine and2 (b := decide (r < 4)) (c := decide (0 < dp)) (fun Q q => ⟨_, rfl, _, _, rfl, rfl, _, rfl, q⟩) (fun _ Q q => ⟨_, rfl, _, _, rfl, rfl, _, rfl, q⟩) ?_
    cases hb : (decide (r < 4) && decide (0 < dp)) with
    | true =>
      rw [Bool.and_eq_true, decide_eq_true_eq, decide_eq_true_eq] at hb
      refine iteT ?_
      -- word = [..][way]
      refine ⟨(by show 4 ≤ sizeLine; decide), fun p hp => ?_⟩
      have s2 := Same.new (o := .lst [.str (Str.ofString "and"), .str (Str.ofString "and"), .str (Str.ofString "or"), .str (Str.ofString "not")]) hp
      obtain ⟨word, cnt, hw, hc2, hdec, hkind⟩ : ∃ (word : Str) (cnt : Nat), atI [V.str (Str.ofString "and"), .str (Str.ofString "and"), .str (Str.ofString "or"), .str (Str.ofString "not")] r = some (.str word) ∧ cnt ≤ 2 ∧
          decide (V.str word = V.str (Str.ofString "not")) = decide (cnt = 1) ∧ ((cnt = 1 ∧ word = Str.ofString "not") ∨ (cnt = 2 ∧ word ∈ [Str.ofString "and", Str.ofString "or"])) := by
        have h : r = 0 ∨ r = 1 ∨ r = 2 ∨ r = 3 := by omega
        rcases h with rfl | rfl | rfl | rfl
        · exact ⟨_, 2, rfl, by decide, by decide +kernel, .inr ⟨rfl, by decide +kernel⟩⟩
        · exact ⟨_, 2, rfl, by decide, by decide +kernel, .inr ⟨rfl, by decide +kernel⟩⟩
        · exact ⟨_, 2, rfl, by decide, by decide +kernel, .inr ⟨rfl, by decide +kernel⟩⟩
        · exact ⟨_, 1, rfl, by decide, by decide +kernel, .inl ⟨rfl, rfl⟩⟩
      refine ⟨_, rfl, p, _, r, .str word, rfl, rfl, SqL.of upd_same, hw, ?_⟩
      have B2 := B1.same s2
      have Fl2 := Fl1.same s2
      refine ⟨_, rfl, rfl, _, rfl, ?_⟩
      rw [hdec]
      have cases1 : ∀ {σ : L2.St} {H : Hp} {Qx : VK}, Qx (.int (cnt : Int)) H → (if decide (cnt = 1) = true then tC (.int 1) σ H Qx else tC (.int 2) σ H Qx) := fun {σ H Qx} q => by
        rcases hkind with ⟨e, _⟩ | ⟨e, _⟩ <;> subst e <;> exact q
      refine cases1 ⟨(cnt : Int), rfl, by omega, by omega, fun D hD => ?_⟩
      have nD := B2.ne hD
      refine lc_range (lo := 0) (n := cnt) (fun i H' => ∃ (vs : List V) (ts : List Tr), HAt H' a b ∧ Keep a b (upd H1 p (.lst [.str (Str.ofString "and"), .str (Str.ofString "and"), .str (Str.ofString "or"), .str (Str.ofString "not")])) H' ∧ H' D = some (.lst vs) ∧ Paired (TrAt K H') vs ts ∧ (∀ t ∈ ts, IsCd fl t ∧ t.depth ≤ dp.toNat + 1) ∧ ts.length = i)
        ⟨[], [], B2.same (Same.new hD), Keep.same (Same.new hD), upd_same, .nil, (fun t z => by cases z), rfl⟩ ?_ ?_
      · rintro i H3 hi ⟨vs, ts, B3, kp3, hD3, pr, hts, li⟩
        have Fl3 := Fl2.keep B2 kp3 na nb
        refine ⟨rfl, _, rfl, _, rfl, _, rfl, _, _, rfl, rfl, a, b, l, fl, dp - 1, rfl, by omega, by omega, B3, Fl3, na, nb, h100, fun v t H4 B4 kp4 T4 I4 e4 => ?_⟩
        have hD4 := kp4 D _ nD.1 nD.2 hD3
        have lv : vs.length = i := (Paired.length pr).trans li
        refine ⟨vs, hD4, Nat.lt_of_le_of_lt (show vs.length ≤ 2 by omega) (by decide), vs ++ [v], ts ++ [t], B4.upd nD, ?_, upd_same, ?_, ?_, ?_⟩
        · intro x o h1 h2 h
          rw [upd_ne (ne_of_none h hD)]
          exact kp4 x o h1 h2 (kp3 x o h1 h2 h)
        · exact Paired.snoc (Paired.mapP pr fun _ _ q => (q.keep (kp4.n B3)).keep (KeepN.lst hD4)) (T4.keep (KeepN.lst hD4))
        · intro t' m
          rcases List.mem_append.mp m with m | m
          · exact hts t' m
          · obtain rfl := List.mem_singleton.mp m
            exact ⟨I4, by omega⟩
        · rw [List.length_append, li]
          rfl
      · rintro H3 ⟨vs, ts, B3, kp3, hD3, pr, hts, li⟩
        refine ⟨D, vs, rfl, .inl ⟨SqL.of hD3, fun q hq => ?_⟩⟩
        have s4 := Same.new (o := .tup vs) hq
        refine ⟨_, rfl, (by show 1 ≤ sizeLine; decide), fun p5 hp5 => ?_⟩
        have s5 := Same.new (o := .tup [.str word]) hp5
        have lv : vs.length = cnt := (Paired.length pr).trans li
        refine ⟨_, rfl, p5, q, _, _, rfl, rfl, SqT.of upd_same, SqT.of (s5 _ _ upd_same), (by show 1 + vs.length ≤ sizeLine; exact Nat.le_trans (show 1 + vs.length ≤ 3 by omega) (by decide)), (fun z => by cases z), (fun _ z => ?_), fun _ _ p6 hp6 => ?_⟩
        · rw [z] at lv
          rcases hkind with ⟨e, _⟩ | ⟨e, _⟩ <;> subst e <;> cases lv
        · have s6 := Same.new (o := .tup ([V.str word] ++ vs)) hp6
          have s46 := s4.trans (s5.trans s6)
          have kp : Keep a b H _ := kp1.trans ((Keep.same s2).trans (kp3.trans (Keep.same s46)))
          rcases hkind with ⟨e, rfl⟩ | ⟨e, hword⟩
          · subst e
            cases pr with
            | nil => cases li
            | @cons v t vs2 ts2 h1 h2 =>
              cases h2 with
              | cons _ _ => exact absurd lv (by simp)
              | nil =>
                obtain ⟨i1, e1⟩ := hts t List.mem_cons_self
                exact k _ (.not t) _ (B3.same s46) kp ⟨p6, v, rfl, SqT.of upd_same, h1.keep (KeepN.of s46)⟩ (.not i1) (by show t.depth + 1 ≤ _; omega)
          · subst e
            cases pr with
            | nil => cases li
            | @cons v t vs2 ts2 h1 h2 =>
              cases h2 with
              | nil => cases li
              | @cons v' t' vs3 ts3 h3 h4 =>
                cases h4 with
                | cons _ _ => exact absurd lv (by simp)
                | nil =>
                  obtain ⟨i1, e1⟩ := hts t List.mem_cons_self
                  obtain ⟨i2, e2⟩ := hts t' (List.mem_cons_of_mem _ List.mem_cons_self)
                  exact k _ (.bin word t t') _ (B3.same s46) kp ⟨p6, v, v', rfl, SqT.of upd_same, h1.keep (KeepN.of s46), h3.keep (KeepN.of s46)⟩ (.join hword i1 i2) (by show max t.depth t'.depth + 1 ≤ _; omega)
    | false =>
      refine iteF ?_
      refine ⟨(by show 5 ≤ sizeLine; decide), fun p hp => ?_⟩
      have s2 := Same.new (o := .lst (signs.map V.str)) hp
      have np := B1.ne hp
      refine ⟨_, rfl, a, b, 5, rfl, by decide, by decide, B1.same s2, fun x H3 x0 x5 B3 kp3 => ?_⟩
      have hp3 : H3 p = some (.lst (signs.map V.str)) := kp3 p _ np.1 np.2 upd_same
      obtain ⟨word, hw, hword⟩ : ∃ word : Str, atI (signs.map V.str) x = some (.str word) ∧ word ∈ signs := by
        have h : x = 0 ∨ x = 1 ∨ x = 2 ∨ x = 3 ∨ x = 4 := by omega
        rcases h with rfl | rfl | rfl | rfl | rfl
        · exact ⟨_, rfl, by decide +kernel⟩
        · exact ⟨_, rfl, by decide +kernel⟩
        · exact ⟨_, rfl, by decide +kernel⟩
        · exact ⟨_, rfl, by decide +kernel⟩
        · exact ⟨_, rfl, by decide +kernel⟩
      have kp03 : Keep a b H H3 := kp1.trans ((Keep.same s2).trans kp3)
      have Fl3 := Fl.keep B kp03 na nb
      refine ⟨p, _, x, .str word, rfl, rfl, SqL.of hp3, hw, ?_⟩
      have terms : ∀ Hc, HAt Hc a b → Keep a b H Hc → tTup (tCons (tVar 4) (tCons (tCall (spTerm K 2) [] E0 (tCons (tVar 0) (tCons (tVar 1) (tCons (tC (.int 1)) tNil)))) (tCons (tCall (spTerm K 2) [] E0 (tCons (tVar 0) (tCons (tVar 1) (tCons (tC (.int 1)) tNil)))) tNil)))
          [some (.ref a), some (.ref l), some (.int dp), some (.int r), some (.str word), none, none, none, none] Hc Q := fun Hc Bc kpc => by
        have Flc := Fl.keep B kpc na nb
        refine ⟨_, rfl, _, rfl, _, rfl, a, b, l, fl, 1, rfl, by decide, by decide, Bc, Flc, na, nb, h100, fun v1 t1 H4 B4 kp4 T4 I4 e4 => ?_⟩
        refine ⟨_, rfl, _, rfl, a, b, l, fl, 1, rfl, by decide, by decide, B4, Flc.keep Bc kp4 na nb, na, nb, h100, fun v2 t2 H5 B5 kp5 T5 I5 e5 => ⟨(by show 3 ≤ sizeLine; decide), fun p6 hp6 => ?_⟩⟩
        have s6 := Same.new (o := .tup [.str word, v1, v2]) hp6
        refine k _ (.bin word t1 t2) _ (B5.same s6) (kpc.trans (kp4.trans (kp5.trans (Keep.same s6)))) ⟨p6, v1, v2, rfl, SqT.of upd_same, (T4.keep (kp5.n B4)).keep (KeepN.of s6), T5.keep (KeepN.of s6)⟩ (.cmp hword I4 I5) ?_
        have e4' : t1.depth ≤ 1 := e4
        have e5' : t2.depth ≤ 1 := e5
        show max t1.depth t2.depth + 1 ≤ _
        omega
      refine ⟨_, rfl, a, b, 3, rfl, by decide, by decide, B3, fun y H4 y0 y3 B4 kp4 => ⟨_, _, rfl, rfl, _, rfl, ?_⟩⟩
      have kp04 := kp03.trans kp4
      have Fl4 := Fl.keep B kp04 na nb
      refine ite2 (fun _ => ?_) (fun _ => iteF (terms H4 B4 kp04))
      refine ⟨_, rfl, (by show 0 ≤ sizeLine; decide), fun e he => ?_⟩
      have s5 := Same.new (o := .lst []) he
      have Fl5 := Fl4.same s5
      obtain ⟨vs, hl, pr, ok⟩ := id Fl5
      refine ⟨_, _, .lst (SqL.of hl) (fl_dp pr), .lst (SqL.of upd_same) .nil, fl_shaped ok, rfl, _, rfl, ?_⟩
      rw [eqv_fl]
      have kp05 := kp04.trans (Keep.same s5)
      cases hfl : fl.isEmpty with
      | true => exact iteF (terms _ (B4.same s5) kp05)
      | false =>
        refine iteT (te_field (K := K) (a := a) (b := b) (l := l) (fl := fl) rfl rfl (B4.same s5) Fl5 na nb h100 (fun z => by rw [z] at hfl; cases hfl) fun v q H6 m B6 kp6 T6 => ?_)
        refine ⟨_, rfl, _, rfl, a, b, 8, rfl, by decide, by decide, B6, fun z H7 z0 z8 B7 kp7 => ⟨(by show 2 ≤ sizeLine; decide), fun p8 hp8 => ⟨(by show 2 ≤ sizeLine; decide), fun p9 hp9 => ?_⟩⟩⟩
        have s8 := Same.new (o := .tup [.str (Str.ofString "num"), .int z]) hp8
        have s9 := Same.new (o := .tup [v, .ref p8]) hp9
        have s89 := s8.trans s9
        have T9 := (T6.keep (kp7.n B6)).keep (KeepN.of s89)
        have N9 : TrAt K _ (.ref p8) (.num z) := ⟨p8, rfl, SqT.of (s9 _ _ upd_same)⟩
        refine ⟨_, rfl, (by show 1 ≤ sizeLine; decide), fun pa hpa => ?_⟩
        have sa := Same.new (o := .tup [.str word]) hpa
        have B10 := (B7.same s89).same sa
        have kp10 : Keep a b H _ := kp05.trans (kp6.trans (kp7.trans (Keep.same (s89.trans sa))))
        refine ⟨_, rfl, a, b, 2, rfl, by decide, by decide, B10, fun u H11 u0 u2 B11 kp11 => ⟨rfl, _, rfl, ?_⟩⟩
        have kn11 := (KeepN.of sa).trans (kp11.n B10)
        have T11 := T9.keep kn11
        have N11 := N9.keep kn11
        have hpair : SqT K H11 p9 [v, .ref p8] := kn11.t (SqT.of upd_same)
        have hword1 : SqT K H11 pa [.str word] := (kp11.n B10).t (SqT.of upd_same)
        have kp011 : Keep a b H H11 := kp10.trans kp11
        have fin : ∀ (pc : Addr) (v1 v2 : V) (t1 t2 : Tr) (H12 : Hp), Same H11 H12 → SqT K H12 pc [v1, v2] → TrAt K H12 v1 t1 → TrAt K H12 v2 t2 → IsTm fl t1 → IsTm fl t2 → t1.depth = 0 → t2.depth = 0 → rCatA K (.ref pa) (.ref pc) H12 Q := fun pc v1 v2 t1 t2 H12 s12 hpc a1 a2 i1 i2 e1 e2 =>
          ⟨pa, pc, _, _, rfl, rfl, (KeepN.of s12).t hword1, hpc, (by show 1 + 2 ≤ sizeLine; decide), (fun z => by cases z), (fun _ z => by cases z), fun _ _ pd hpd => by
            have sd := Same.new (o := .tup ([V.str word] ++ [v1, v2])) hpd
            refine k _ (.bin word t1 t2) _ ((B11.same s12).same sd) (kp011.trans (Keep.same (s12.trans sd))) ⟨pd, v1, v2, rfl, SqT.of upd_same, a1.keep (KeepN.of sd), a2.keep (KeepN.of sd)⟩ (.cmp hword i1 i2) ?_
            show max t1.depth t2.depth + 1 ≤ _
            rw [e1, e2]
            omega⟩
        refine ite2 (fun _ => ?_) (fun _ => ?_)
        · exact ⟨_, rfl, fin p9 _ _ _ _ H11 (Same.refl _) hpair T11 N11 (.field m) (.num (by omega) (by omega)) rfl rfl⟩
        · refine ⟨_, rfl, p9, _, _, rfl, hpair, fun pe hpe => ?_⟩
          have se := Same.new (o := .tup [.ref p8, v]) hpe
          exact fin pe _ _ _ _ _ se (SqT.of upd_same) (N11.keep (KeepN.of se)) (T11.keep (KeepN.of se)) (.num (by omega) (by omega)) (.field m) rfl rfl
end
end K25

namespace K25
open PySem L2

theorem pair_app {α β : Type} {R : α → β → Prop} : ∀ {a c : List α} {b d : List β}, Paired R a b → Paired R c d → Paired R (a ++ c) (b ++ d)
  | _, _, _, _, .nil, q => q
  | _, _, _, _, .cons h t, q => .cons h (pair_app t q)
def flOf (sh : List (Str × List Str)) (ts : List Str) : List (Str × Str) := ts.flatMap fun t => ((sh.lookup t).getD []).map fun f => (t, f)
def spSome (K : PySem.W.Frag) : Sp := fun vs H Q _ => ∃ (v0 : V) (d l : Addr) (sh : List (Str × List Str)) (ts : List Str), vs = [v0, .ref d, .ref l] ∧ ShapesAt K H d sh ∧ SqL K H l (ts.map V.str) ∧ (∀ t ∈ ts, ∃ fs, sh.lookup t = some fs ∧ fs.length ≤ 4) ∧ ts.length ≤ 3 ∧ FlOk (flOf sh ts) ∧
  ∀ (r : Addr) (H' : Hp), Same H H' → H r = none → FlAt K H' r (flOf sh ts) → (flOf sh ts).length ≤ 12 → Q (.ref r) H'
section
variable {P : Program} {w : World} {K : PySem.W.Frag} {mg : Str → Option Value} {base : Heap}
theorem scSome : FnScope ["_law_h", "_law_shapes_here", "_law_tables", "_law_found", "_law_table", "_law_field"] ["_law_h", "_law_shapes_here", "_law_tables"] (defScope sLsome) := ⟨rfl, rfl, rfl, by decide +kernel, rfl, by decide +kernel, by decide +kernel⟩
theorem ok_some {f : Addr} {fd : FuncData} (F : Fun K "_law_some" "_law_some" sLsome f fd) : FnOk P w K mg base CX0 1 f fd ["_law_h", "_law_shapes_here", "_law_tables"] (spSome K) := by
  refine F.ok scSome (fun vs H Q E h => ?_) (fun cdv A outer s H vs Q E hr h => ?_)
  · obtain ⟨v0, d, l, sh, ts, rfl, _⟩ := h
    rfl
  · obtain ⟨v0, d, l, sh, ts, rfl, S, hl, hts, t3, ok, k⟩ := h
    refine ⟨_, (pss_cons (ps_set (i := 3) scSome.nd rfl (Or.inl rfl) (pe_lst pa_nil))
      (pss_cons (ps_for PassesOwn.never rfl (RK.piL (K := K) (pv 2)) (pg_name (i := 4) scSome.nd rfl (Or.inr rfl))
        (pss_one (ps_set (i := 3) scSome.nd rfl (Or.inl rfl) (pe_op op_cat (pv 3) (pe_lc (own := [("_law_field", 5)]) rfl scSome.nd (RK.piT (K := K) (pe_dget (hu_of hr) (pv 1) (pv 4) (fun _ _ => rfl))) (blkOk_by (N := ["_law_h", "_law_shapes_here", "_law_tables", "_law_found", "_law_table", "_law_field"]) (sc := defScope sLsome) (by decide +kernel)) (fun _ _ _ _ _ => (pg_name (i := 5) scSome.nd rfl (Or.inl rfl))) (fun _ _ _ _ _ => pts_nil) (fun _ _ _ _ _ => (pe_tup (pa_cons (pv 4) (pa_cons (pv 5) pa_nil)))))))))
      (pss_one (ps_ret (pv 3))))), ?_⟩
    have lt : (ts.map V.str).length = ts.length := List.length_map ..
    refine ⟨(by show 0 ≤ sizeLine; decide), fun p hp => ?_⟩
    have s0 := Same.new (o := .lst []) hp
    refine ⟨_, rfl, l, rfl, ⟨_, s0.seq hl⟩, for_list (K := K) (a := l) (xs := ts.map V.str) (fun i σ H' => ∃ (r : Addr) (v4 v5 : Option V) (vs : List V), σ = [some v0, some (.ref d), some (.ref l), some (.ref r), v4, v5] ∧ Same H H' ∧ H r = none ∧ H' r = some (.lst vs) ∧ Paired (FlR K H') vs (flOf sh (ts.take i)) ∧ vs.length ≤ 4 * i)
      ⟨p, none, none, [], rfl, s0, hp, upd_same, .nil, Nat.le_refl _⟩ (fun i σ H' _ ⟨_, _, _, _, _, sm, _⟩ => sm.seq hl) ?_ ?_⟩
    · rintro i y σ H1 hi ⟨r, v4, v5, vs, rfl, sm, r0, hr1, pr, lv⟩
      have hi1 : i < ts.length := by have q := (List.getElem?_eq_some_iff.mp hi).1; omega
      obtain rfl : y = .str ts[i] := by rw [List.getElem?_map, List.getElem?_eq_getElem hi1] at hi; exact (Option.some.inj hi).symm
      obtain ⟨fs, hfs, f4⟩ := hts ts[i] (List.getElem_mem hi1)
      obtain ⟨kvs, hd, prs⟩ := S.keep (KeepN.of sm)
      have tk : flOf sh (ts.take (i + 1)) = flOf sh (ts.take i) ++ fs.map fun f => (ts[i], f) := by
        rw [List.take_add_one, List.getElem?_eq_getElem hi1]
        unfold flOf
        rw [List.flatMap_append]
        simp [hfs]
      rcases pr_look ts[i] prs with ⟨e1, _⟩ | ⟨x, v, e1, e2, t, rfl, ht⟩
      · rw [hfs] at e1
        cases e1
      obtain rfl : fs = x := by rw [hfs] at e1; exact Option.some.inj e1
      refine ⟨_, rfl, _, rfl, _, rfl, d, _, rfl, .inl ⟨kvs, .inr ts[i], .inl hd, rfl, e2.symm⟩, t, rfl, ⟨_, ht⟩, fun D hD => ?_⟩
      have nrD : r ≠ D := ne_of_none hr1 hD
      refine lc_tup (K := K) (a := t) (xs := fs.map V.str) (fun j H2 => Same H1 H2 ∧ ∃ ws, H2 D = some (.lst ws) ∧ Paired (FlR K H2) ws ((fs.take j).map fun f => (ts[i], f)) ∧ ws.length = j)
        ⟨Same.new hD, [], upd_same, .nil, rfl⟩ (fun j H2 _ ⟨s2, _⟩ => (KeepN.of s2).t ht) ?_ ?_
      · rintro j x H2 hx ⟨s2, ws, hD2, pw, lw⟩
        have hj : j < fs.length := by have q := (List.getElem?_eq_some_iff.mp hx).1; rw [List.length_map] at q; exact q
        obtain rfl : x = .str fs[j] := by rw [List.getElem?_map, List.getElem?_eq_getElem hj] at hx; exact (Option.some.inj hx).symm
        refine ⟨rfl, _, rfl, _, rfl, (by show 2 ≤ sizeLine; decide), fun q hq => ?_⟩
        have s3 := Same.new (o := .tup [.str ts[i], .str fs[j]]) hq
        have hD3 := s3 _ _ hD2
        refine ⟨ws, hD3, Nat.lt_of_le_of_lt (show ws.length ≤ 4 by omega) (by decide), fun b o e => ?_, ws ++ [.ref q], upd_same, ?_, by rw [List.length_append, lw]; rfl⟩
        · rw [upd_ne (ne_of_none e hD)]
          exact s3 _ _ (s2 _ _ e)
        · have tk2 : fs.take (j + 1) = fs.take j ++ [fs[j]] := by rw [List.take_add_one, List.getElem?_eq_getElem hj]; rfl
          rw [tk2, List.map_append]
          exact Paired.snoc (fl_mono (fun _ _ z => (KeepN.lst hD3).t ((KeepN.of s3).t z)) pw) ⟨q, rfl, (KeepN.lst hD3).t (SqT.of upd_same)⟩
      · rintro H2 ⟨s2, ws, hD2, pw, lw⟩
        rw [List.length_map] at lw
        rw [List.length_map, List.take_length] at pw
        refine ⟨r, D, vs, ws, rfl, rfl, s2 _ _ hr1, hD2, Nat.le_trans (show vs.length + ws.length ≤ 16 by omega) (by decide), fun q hq => ?_⟩
        have s3 := Same.new (o := .lst (vs ++ ws)) hq
        have s13 := s2.trans s3
        have q0 : H q = none := by
          cases e : H q with
          | none => rfl
          | some o => rw [s2 _ _ (sm _ _ e)] at hq; cases hq
        refine ⟨q, _, _, vs ++ ws, rfl, sm.trans s13, q0, upd_same, ?_, by rw [List.length_append]; omega⟩
        rw [tk]
        exact pair_app (fl_mono (fun _ _ z => (KeepN.of s13).t z) pr) (fl_mono (fun _ _ z => (KeepN.of s3).t z) pw)
    · rintro σ H' ⟨r, v4, v5, vs, rfl, sm, r0, hr1, pr, lv⟩
      rw [lt, List.take_length] at pr
      have le : (flOf sh ts).length ≤ 12 := by rw [← (Paired.length pr)]; omega
      exact ⟨_, rfl, k r H' sm r0 ⟨vs, hr1, pr, ok⟩ le⟩
end
end K25

set_option maxRecDepth 100000
set_option maxHeartbeats 2000000
namespace K25
open PySem L2
abbrev sAnd : Str := Str.ofString "and"
abbrev sOr : Str := Str.ofString "or"
/-- the comparisons that must be true -/
def parts : Tr → List Tr
  | .bin op l r => if op = sAnd then parts l ++ parts r else if op = sOr then [] else [.bin op l r]
  | _ => []
def partsO : Option Tr → List Tr
  | none => []
  | some t => parts t
theorem parts_len : ∀ t : Tr, (parts t).length ≤ 2 ^ t.depth
  | .num _ => Nat.zero_le _
  | .field _ _ => Nat.zero_le _
  | .not _ => Nat.zero_le _
  | .bin op l r => by
    have h1 := parts_len l
    have h2 := parts_len r
    have e1 : 2 ^ l.depth ≤ 2 ^ (max l.depth r.depth) := Nat.pow_le_pow_right (by decide) (Nat.le_max_left ..)
    have e2 : 2 ^ r.depth ≤ 2 ^ (max l.depth r.depth) := Nat.pow_le_pow_right (by decide) (Nat.le_max_right ..)
    have e3 : 2 ^ (max l.depth r.depth + 1) = 2 ^ (max l.depth r.depth) + 2 ^ (max l.depth r.depth) := by rw [Nat.pow_succ]; omega
    have e4 : 1 ≤ 2 ^ (max l.depth r.depth) := Nat.one_le_two_pow
    show (if op = sAnd then parts l ++ parts r else if op = sOr then [] else [.bin op l r]).length ≤ 2 ^ (max l.depth r.depth + 1)
    split
    · rw [List.length_append]; omega
    · split
      · exact Nat.zero_le _
      · show 1 ≤ _
        omega
theorem parts_and (l r : Tr) : parts (.bin sAnd l r) = parts l ++ parts r := by
  show (if sAnd = sAnd then parts l ++ parts r else _) = _
  rw [if_pos rfl]
theorem parts_eq (l r : Tr) : parts (.bin (Str.ofString "=") l r) = [.bin (Str.ofString "=") l r] := by
  show (if Str.ofString "=" = sAnd then parts l ++ parts r else if Str.ofString "=" = sOr then [] else [.bin (Str.ofString "=") l r]) = _
  rw [if_neg (by decide +kernel), if_neg (by decide +kernel)]
def CondAt (K : PySem.W.Frag) (H : Hp) (v : V) : Option Tr → Prop
  | none => v = .non
  | some t => TrAt K H v t
theorem CondAt.keep {K : PySem.W.Frag} {H H' : Hp} (k : KeepN H H') {v : V} {c : Option Tr} (h : CondAt K H v c) : CondAt K H' v c := by
  cases c with
  | none => exact h
  | some t => exact TrAt.keep k h
def oV : Option Int → V
  | none => .non
  | some i => .int i
def okO : Option Int → Prop
  | .none => True
  | .some v => -2000 ≤ v ∧ v ≤ 2000
def okL : Option Int → Option Int → Prop
  | some l, some h => l ≤ h
  | _, _ => True
inductive Tm : Tr → Prop where
  | num {n : Int} : -1000 ≤ n → n ≤ 1000 → Tm (.num n)
  | field {t f : Str} : PyData.strOk t = true → PyData.strOk f = true → Tm (.field t f)
  | bin {op : Str} {l r : Tr} : op ∈ [Str.ofString "+", Str.ofString "-", Str.ofString "*"] → Tm l → Tm r → Tm (.bin op l r)
theorem Tm.of {fl : List (Str × Str)} (ok : FlOk fl) {t : Tr} (h : IsTm fl t) : Tm t := by
  induction h with
  | num h1 h2 => exact .num h1 h2
  | field h => exact .field (ok _ h).1 (ok _ h).2
  | bin h _ _ l r => exact .bin h l r
def encD : Tr → PyData
  | .num n => .tuple [.str (Str.ofString "num"), .int n]
  | .field t f => .tuple [.str (Str.ofString "field"), .str t, .str f]
  | .bin op l r => .tuple [.str op, encD l, encD r]
  | .not x => .tuple [.str (Str.ofString "not"), encD x]
theorem dpTr {K : PySem.W.Frag} {H : Hp} : ∀ {v : V} {t : Tr}, TrAt K H v t → Dp K H v (encD t)
  | _, .num _, ⟨_, e, h⟩ => e ▸ .tup h (.cons (.str _) (.cons (.int _) .nil))
  | _, .field _ _, ⟨_, e, h⟩ => e ▸ .tup h (.cons (.str _) (.cons (.str _) (.cons (.str _) .nil)))
  | _, .bin _ _ _, ⟨_, _, _, e, h, h1, h2⟩ => e ▸ .tup h (.cons (.str _) (.cons (dpTr h1) (.cons (dpTr h2) .nil)))
  | _, .not _, ⟨_, _, e, h, h1⟩ => e ▸ .tup h (.cons (.str _) (.cons (dpTr h1) .nil))
theorem layTm {t : Tr} (h : Tm t) : PyData.canLay0 (encD t) = true ∧ PyData.depth (encD t) ≤ t.depth + 1 := by
  induction h with
  | num h1 h2 =>
    have s0 : PyData.strOk (Str.ofString "num") = true := by decide +kernel
    exact ⟨by simp [encD, PyData.canLay0, PyData.canLayAll0, s0], by simp [encD, PyData.depth, PyData.depthAll]⟩
  | field h1 h2 =>
    refine ⟨?_, by simp [encD, PyData.depth, PyData.depthAll]⟩
    have s0 : PyData.strOk (Str.ofString "field") = true := by decide +kernel
    simp [encD, PyData.canLay0, PyData.canLayAll0, h1, h2, s0]
  | @bin op l r h _ _ hl hr =>
    have so : PyData.strOk op = true := by
      simp only [List.mem_cons, List.mem_nil_iff, or_false] at h
      rcases h with rfl | rfl | rfl <;> decide +kernel
    refine ⟨by simp [encD, PyData.canLay0, PyData.canLayAll0, so, hl.1, hr.1], ?_⟩
    have e1 := hl.2
    have e2 := hr.2
    simp only [encD, PyData.depth, PyData.depthAll, Tr.depth]
    omega
theorem shaped_of {d : PyData} (h1 : PyData.canLay0 d = true) (h2 : PyData.depth d ≤ 64) : SeqAt.shaped d = true := by
  show (PyData.canLay0 d && decide (PyData.depth d ≤ 64)) = true
  rw [Bool.and_eq_true]
  exact ⟨h1, decide_eq_true h2⟩
def oD : Option Int → PyData
  | none => .none
  | some i => .int i
theorem dpO {K : PySem.W.Frag} {H : Hp} (o : Option Int) : Dp K H (oV o) (oD o) := by
  cases o with
  | none => exact .non
  | some i => exact .int i
theorem oD_lay (o : Option Int) : PyData.canLay0 (oD o) = true ∧ PyData.depth (oD o) = 0 := by cases o <;> exact ⟨by simp [oD, PyData.canLay0], by simp [oD, PyData.depth]⟩
def fits (op : Str) (x y : Int) : Bool := if op = Str.ofString "=" then decide (x = y) else if op = Str.ofString "<" then decide (x < y) else if op = Str.ofString ">" then decide (y < x) else if op = Str.ofString "<=" then decide (x ≤ y) else decide (y ≤ x)
abbrev Span := Option Int × Option Int
abbrev gEq : Str := Str.ofString "="
abbrev gLt : Str := Str.ofString "<"
abbrev gGt : Str := Str.ofString ">"
abbrev gLe : Str := Str.ofString "<="
abbrev gGe : Str := Str.ofString ">="
abbrev sNum : Str := Str.ofString "num"
abbrev sField : Str := Str.ofString "field"
def flip (op : Str) : Str := if op = gLt then gGt else if op = gGt then gLt else if op = gLe then gGe else if op = gGe then gLe else op
def lowOf (op : Str) (n : Int) : Option Int := if op = gEq ∨ op = gGt ∨ op = gGe then some (n + if op = gGt then 1 else 0) else none
def highOf (op : Str) (n : Int) : Option Int := if op = gEq ∨ op = gLt ∨ op = gLe then some (n - if op = gLt then 1 else 0) else none
def maxO : Option Int → Option Int → Option Int
  | o, none => o
  | none, some b => some b
  | some a, some b => some (if b > a then b else a)
def minO : Option Int → Option Int → Option Int
  | o, none => o
  | none, some b => some b
  | some a, some b => some (if b < a then b else a)
def narrow (s : Span) (op : Str) (n : Int) : Span := (maxO s.1 (lowOf op n), minO s.2 (highOf op n))
/-- a field of the table on the left, a number on the right -/
def conW (tb w : Str) : Tr → Tr → Option (Str × Str × Int)
  | .field t f, .num n => if t = tb then some (f, w, n) else none
  | _, _ => none
def con (tb : Str) : Tr → Option (Str × Str × Int)
  | .bin op (.num a) r => conW tb (flip op) r (.num a)
  | .bin op l r => conW tb op l r
  | _ => none
def falseNum : Tr → Bool
  | .bin op (.num a) (.num b) => !fits op a b
  | _ => false
/-- put in its place, or at the end -/
def putL (fs : List (Str × Span)) (k : Str) (x : Span) : List (Str × Span) := if k ∈ fs.map (·.1) then fs.map (fun p => if p.1 = k then (p.1, x) else p) else fs ++ [(k, x)]
def stepC (fs : List (Str × Span)) : Option (Str × Str × Int) → List (Str × Span)
  | none => fs
  | some (g, op, n) => putL fs g (narrow ((fs.lookup g).getD (none, none)) op n)
def foundL (tb : Str) (ps : List Tr) : List (Str × Span) := ps.foldl (fun fs p => stepC fs (con tb p)) []
def specS (tb f : Str) (o : Option Span) (p : Tr) : Option Span := match con tb p with
  | none => o
  | some (g, op, n) => if f = g then some (narrow (o.getD (none, none)) op n) else o
def specF (tb : Str) (ps : List Tr) (f : Str) : Option Span := ps.foldl (specS tb f) none
theorem look_map (k : Str) (x : Span) (f : Str) : ∀ fs : List (Str × Span), (fs.map fun p => if p.1 = k then (p.1, x) else p).lookup f = if f = k ∧ k ∈ fs.map (·.1) then some x else fs.lookup f
  | [] => by simp
  | (g, y) :: r => by
    have ih := look_map k x f r
    by_cases e : g = k
    · subst e
      by_cases e2 : f = g
      · subst e2
        simp
      · have n : (f == g) = false := by simpa using e2
        simp [List.lookup, n, ih, e2]
    · by_cases e2 : f = g
      · subst e2
        simp [List.lookup, e]
      · have n : (f == g) = false := by simpa using e2
        have e' : ¬ k = g := fun z => e z.symm
        have mm : k ∈ List.map (fun p : Str × Span => p.1) r ↔ k ∈ List.map (fun p : Str × Span => p.1) ((g, y) :: r) := by simp [e']
        have lhs : (List.map (fun p => if p.1 = k then (p.1, x) else p) ((g, y) :: r)).lookup f = (List.map (fun p => if p.1 = k then (p.1, x) else p) r).lookup f := by simp [List.lookup, n, e]
        have rhs : List.lookup f ((g, y) :: r) = List.lookup f r := by simp [List.lookup, n]
        rw [lhs, rhs, ih]
        by_cases c : f = k ∧ k ∈ List.map (fun p : Str × Span => p.1) r
        · rw [if_pos c, if_pos ⟨c.1, mm.mp c.2⟩]
        · rw [if_neg c, if_neg fun z => c ⟨z.1, mm.mpr z.2⟩]
theorem look_app (k : Str) (x : Span) (f : Str) : ∀ fs : List (Str × Span), k ∉ fs.map (·.1) → (fs ++ [(k, x)]).lookup f = if f = k then some x else fs.lookup f
  | [], _ => by
    by_cases e : f = k
    · subst e; simp
    · have n : (f == k) = false := by simpa using e
      simp [List.lookup, n, e]
  | (g, y) :: r, h => by
    rw [List.map_cons, List.mem_cons, not_or] at h
    have ih := look_app k x f r h.2
    by_cases e2 : f = g
    · subst e2
      have e : ¬ f = k := fun z => h.1 z.symm
      simp [List.lookup, e]
    · have n : (f == g) = false := by simpa using e2
      simp [List.lookup, n, ih]
theorem look_put (fs : List (Str × Span)) (k : Str) (x : Span) (f : Str) : (putL fs k x).lookup f = if f = k then some x else fs.lookup f := by
  unfold putL
  by_cases h : k ∈ fs.map (·.1)
  · rw [if_pos h, look_map]
    by_cases e : f = k <;> simp [e, h]
  · rw [if_neg h, look_app k x f fs h]
theorem look_found (tb : Str) (ps : List Tr) (f : Str) : (foundL tb ps).lookup f = specF tb ps f := by
  unfold foundL specF
  have key : ∀ (ps : List Tr) (fs : List (Str × Span)) (o : Option Span), fs.lookup f = o → (ps.foldl (fun fs p => stepC fs (con tb p)) fs).lookup f = ps.foldl (specS tb f) o := by
    intro ps
    induction ps with
    | nil => intro fs o h; exact h
    | cons p r ih =>
      intro fs o h
      rw [List.foldl_cons, List.foldl_cons]
      refine ih _ _ ?_
      unfold specS
      cases e : con tb p with
      | none => exact h
      | some q =>
        obtain ⟨g, op, n⟩ := q
        show (putL fs g (narrow ((fs.lookup g).getD (none, none)) op n)).lookup f = _
        rw [look_put]
        by_cases e2 : f = g
        · subst e2
          simp [h]
        · simp [e2, h]
  exact key ps [] none rfl
theorem keys_put (fs : List (Str × Span)) (k : Str) (x : Span) : (putL fs k x).map (·.1) = if k ∈ fs.map (·.1) then fs.map (·.1) else fs.map (·.1) ++ [k] := by
  unfold putL
  split
  · rw [List.map_map]
    refine List.map_congr_left fun p _ => ?_
    show (if p.1 = k then (p.1, x) else p).1 = p.1
    split <;> rfl
  · rw [List.map_append]
    rfl
theorem nodup_put {fs : List (Str × Span)} {k : Str} {x : Span} (h : (fs.map (·.1)).Nodup) : ((putL fs k x).map (·.1)).Nodup := by
  rw [keys_put]
  split
  · exact h
  · rename_i n
    rw [List.nodup_append]
    refine ⟨h, by simp, fun a ha b hb => ?_⟩
    obtain rfl := List.mem_singleton.mp hb
    exact fun e => n (e ▸ ha)
theorem mem_put {fs : List (Str × Span)} {k : Str} {x : Span} {p : Str × Span} (h : p ∈ putL fs k x) : p ∈ fs ∨ p = (k, x) := by
  unfold putL at h
  split at h
  · obtain ⟨q, m, e⟩ := List.mem_map.mp h
    split at e
    · rename_i e2
      exact .inr (by rw [← e, e2])
    · exact .inl (e ▸ m)
  · rcases List.mem_append.mp h with h | h
    · exact .inl h
    · exact .inr (List.mem_singleton.mp h)
def okS (s : Span) : Prop := okO s.1 ∧ okO s.2
theorem ok_max {a b : Option Int} (ha : okO a) (hb : okO b) : okO (maxO a b) := by
  cases b with
  | none => exact ha
  | some b =>
    cases a with
    | none => exact hb
    | some a =>
      show okO (some (if b > a then b else a))
      split
      · exact hb
      · exact ha
theorem ok_min {a b : Option Int} (ha : okO a) (hb : okO b) : okO (minO a b) := by
  cases b with
  | none => exact ha
  | some b =>
    cases a with
    | none => exact hb
    | some a =>
      show okO (some (if b < a then b else a))
      split
      · exact hb
      · exact ha
theorem ok_low {op : Str} {n : Int} (h1 : -1000 ≤ n) (h2 : n ≤ 1000) : okO (lowOf op n) := by
  unfold lowOf
  split
  · show -2000 ≤ _ ∧ _ ≤ 2000
    split <;> omega
  · trivial
theorem ok_high {op : Str} {n : Int} (h1 : -1000 ≤ n) (h2 : n ≤ 1000) : okO (highOf op n) := by
  unfold highOf
  split
  · show -2000 ≤ _ ∧ _ ≤ 2000
    split <;> omega
  · trivial
theorem ok_narrow {s : Span} {op : Str} {n : Int} (h : okS s) (h1 : -1000 ≤ n) (h2 : n ≤ 1000) : okS (narrow s op n) := ⟨ok_max h.1 (ok_low h1 h2), ok_min h.2 (ok_high h1 h2)⟩
def gap : Span → Bool
  | (some a, some b) => decide (b < a)
  | _ => false
def Bad (tb : Str) (ps : List Tr) : Bool := ps.any falseNum || (foundL tb ps).any fun p => gap p.2
/-- all parts are comparisons of terms -/
def CdT (ps : List Tr) : Prop := ∀ p ∈ ps, ∃ op l r, p = .bin op l r ∧ op ∈ signs ∧ Tm l ∧ Tm r ∧ l.depth ≤ 20 ∧ r.depth ≤ 20
theorem CdT.of {fl : List (Str × Str)} (ok : FlOk fl) {t : Tr} (h : IsCd fl t) : t.depth ≤ 20 → CdT (parts t) := by
  induction h with
  | @cmp op l r ho hl hr =>
    intro hd p m
    have hd : max l.depth r.depth + 1 ≤ 20 := hd
    have no : op ≠ sAnd ∧ op ≠ sOr := by
      simp only [signs, List.mem_cons, List.mem_nil_iff, or_false] at ho
      rcases ho with rfl | rfl | rfl | rfl | rfl <;> exact ⟨by decide +kernel, by decide +kernel⟩
    have e : parts (.bin op l r) = [.bin op l r] := by
      show (if op = sAnd then parts l ++ parts r else if op = sOr then [] else [.bin op l r]) = _
      rw [if_neg no.1, if_neg no.2]
    rw [e] at m
    obtain rfl := List.mem_singleton.mp m
    exact ⟨op, l, r, rfl, ho, Tm.of ok hl, Tm.of ok hr, by omega, by omega⟩
  | @join op l r ho _ _ ihl ihr =>
    intro hd p m
    have hd : max l.depth r.depth + 1 ≤ 20 := hd
    have m : p ∈ (if op = sAnd then parts l ++ parts r else if op = sOr then [] else [.bin op l r]) := m
    simp only [List.mem_cons, List.mem_nil_iff, or_false] at ho
    rcases ho with rfl | rfl
    · rw [if_pos rfl] at m
      rcases List.mem_append.mp m with m | m
      · exact ihl (by omega) p m
      · exact ihr (by omega) p m
    · rw [if_neg (by decide +kernel), if_pos rfl] at m
      cases m
  | not _ _ => exact fun _ p m => by cases m
theorem conW_some {tb w : Str} {L R : Tr} {g op : Str} {n : Int} (h : conW tb w L R = some (g, op, n)) : ∃ t, L = .field t g ∧ R = .num n ∧ op = w := by
  cases L with
  | field t f =>
    cases R with
    | num m =>
      have h : (if t = tb then some (f, w, m) else none) = some (g, op, n) := h
      by_cases e : t = tb
      · rw [if_pos e] at h
        cases h
        exact ⟨_, rfl, rfl, rfl⟩
      · rw [if_neg e] at h
        cases h
    | _ => cases h
  | _ => cases R <;> cases h
theorem okS_found {tb : Str} : ∀ (ps : List Tr), CdT ps → (∀ q ∈ foundL tb ps, okS q.2 ∧ PyData.strOk q.1 = true) ∧ ((foundL tb ps).map (·.1)).Nodup ∧ (foundL tb ps).length ≤ ps.length := by
  have key : ∀ (ps : List Tr) (fs : List (Str × Span)), CdT ps → (∀ q ∈ fs, okS q.2 ∧ PyData.strOk q.1 = true) → (fs.map (·.1)).Nodup →
      (∀ q ∈ ps.foldl (fun fs p => stepC fs (con tb p)) fs, okS q.2 ∧ PyData.strOk q.1 = true) ∧ ((ps.foldl (fun fs p => stepC fs (con tb p)) fs).map (·.1)).Nodup ∧ (ps.foldl (fun fs p => stepC fs (con tb p)) fs).length ≤ fs.length + ps.length := by
    intro ps
    induction ps with
    | nil => intro fs _ h1 h2; exact ⟨h1, h2, Nat.le_refl _⟩
    | cons p r ih =>
      intro fs hc h1 h2
      rw [List.foldl_cons]
      have step : (∀ q ∈ stepC fs (con tb p), okS q.2 ∧ PyData.strOk q.1 = true) ∧ ((stepC fs (con tb p)).map (·.1)).Nodup ∧ (stepC fs (con tb p)).length ≤ fs.length + 1 := by
        cases e : con tb p with
        | none => exact ⟨h1, h2, Nat.le_succ _⟩
        | some q =>
          obtain ⟨g, op, n⟩ := q
          have hn : -1000 ≤ n ∧ n ≤ 1000 ∧ PyData.strOk g = true := by
            obtain ⟨op', l, r', rfl, _, tl, tr, _, _⟩ := hc p List.mem_cons_self
            have numOf : ∀ {z : Tr}, Tm z → ∀ k, z = .num k → -1000 ≤ k ∧ k ≤ 1000 := fun {z} hz k ez => by
              cases hz with
              | num a1 a2 => cases ez; exact ⟨a1, a2⟩
              | _ => cases ez
            have fieldOf : ∀ {z : Tr}, Tm z → ∀ t f, z = .field t f → PyData.strOk f = true := fun {z} hz t f ez => by
              cases hz with
              | field k1 k2 => cases ez; exact k2
              | _ => cases ez
            cases l with
            | num a =>
              obtain ⟨t, e1, e2, _⟩ := conW_some (show conW tb (flip op') r' (.num a) = some (g, op, n) from e)
              cases e2
              exact ⟨(numOf tl _ rfl).1, (numOf tl _ rfl).2, fieldOf tr _ _ e1⟩
            | field t f =>
              obtain ⟨t', e1, e2, _⟩ := conW_some (show conW tb op' (.field t f) r' = some (g, op, n) from e)
              exact ⟨(numOf tr _ e2).1, (numOf tr _ e2).2, fieldOf tl _ _ e1⟩
            | bin o2 x y =>
              obtain ⟨t', e1, e2, _⟩ := conW_some (show conW tb op' (.bin o2 x y) r' = some (g, op, n) from e)
              cases e1
            | not x =>
              obtain ⟨t', e1, e2, _⟩ := conW_some (show conW tb op' (.not x) r' = some (g, op, n) from e)
              cases e1
          have old : okS ((fs.lookup g).getD (none, none)) := by
            cases el : fs.lookup g with
            | none => exact ⟨trivial, trivial⟩
            | some s =>
              have m : (g, s) ∈ fs := by
                clear h1 h2 ih
                induction fs with
                | nil => cases el
                | cons q r ih2 =>
                  obtain ⟨k, x⟩ := q
                  by_cases z : g = k
                  · subst z
                    simp [List.lookup] at el
                    subst el
                    exact List.mem_cons_self
                  · have zn : (g == k) = false := by simpa using z
                    simp only [List.lookup, zn] at el
                    exact List.mem_cons_of_mem _ (ih2 el)
              exact (h1 _ m).1
          refine ⟨fun q m => ?_, nodup_put h2, ?_⟩
          · rcases mem_put m with m | m
            · exact h1 q m
            · rw [m]
              exact ⟨ok_narrow old hn.1 hn.2.1, hn.2.2⟩
          · show (putL fs g _).length ≤ _
            unfold putL
            split
            · rw [List.length_map]; omega
            · rw [List.length_append]; exact Nat.le_refl _
      obtain ⟨i1, i2, i3⟩ := ih _ (fun q m => hc q (List.mem_cons_of_mem _ m)) step.1 step.2.1
      refine ⟨i1, i2, ?_⟩
      have := step.2.2
      rw [List.length_cons]
      omega
  intro ps hc
  have := key ps [] hc (fun q m => by cases m) List.nodup_nil
  refine ⟨this.1, this.2.1, ?_⟩
  have h := this.2.2
  show (ps.foldl _ []).length ≤ _
  simpa using h

theorem look_memG {β : Type} {cs : List (Str × β)} {t : Str} {n : β} (h : cs.lookup t = some n) : (t, n) ∈ cs := by
  induction cs with
  | nil => cases h
  | cons q r ih =>
    obtain ⟨k, x⟩ := q
    by_cases z : t = k
    · subst z
      simp [List.lookup] at h
      subst h
      exact List.mem_cons_self
    · have zn : (t == k) = false := by simpa using z
      simp only [List.lookup, zn] at h
      exact List.mem_cons_of_mem _ (ih h)
theorem spec_ok {t f : Str} {ps : List Tr} {s : Span} (hp : CdT ps) (h : specF t ps f = some s) : okS s := by
  rw [← look_found] at h
  exact ((okS_found ps hp).1 _ (look_memG h)).1
theorem spec_okL {t f : Str} {ps : List Tr} {s : Span} (hp : CdT ps) (nb : ¬ Bad t ps = true) (h : specF t ps f = some s) : okO s.1 ∧ okO s.2 ∧ okL s.1 s.2 := by
  have o := spec_ok hp h
  refine ⟨o.1, o.2, ?_⟩
  have nb : Bad t ps = false := by simpa using nb
  unfold Bad at nb
  rw [Bool.or_eq_false_iff] at nb
  rw [← look_found] at h
  have g := List.any_eq_false.mp nb.2 _ (look_memG h)
  obtain ⟨a, b⟩ := s
  cases a with
  | none => exact trivial
  | some l =>
    cases b with
    | none => exact trivial
    | some u =>
      have g : ¬ (decide (u < l)) = true := g
      show l ≤ u
      have := of_decide_eq_false (by simpa using g : decide (u < l) = false)
      omega
/-- what a condition's tree is made of, whatever fields -/
inductive Cd : Tr → Prop where
  | cmp {op : Str} {l r : Tr} : op ∈ signs → (∃ fl, FlOk fl ∧ IsTm fl l) → (∃ fl, FlOk fl ∧ IsTm fl r) → Cd (.bin op l r)
  | join {op : Str} {l r : Tr} : op ∈ [sAnd, sOr] → Cd l → Cd r → Cd (.bin op l r)
  | not {x : Tr} : Cd x → Cd (.not x)
theorem Cd.of {fl : List (Str × Str)} {t : Tr} (ok : FlOk fl) (h : IsCd fl t) : Cd t := by
  induction h with
  | cmp h l r => exact .cmp h ⟨_, ok, l⟩ ⟨_, ok, r⟩
  | join h _ _ l r => exact .join h l r
  | not _ x => exact .not x
def CdO : Option Tr → Prop
  | none => True
  | some t => Cd t
def depO : Option Tr → Nat
  | none => 0
  | some t => t.depth
theorem strs_dp {K : PySem.W.Frag} {H : Hp} : ∀ ws : List Str, DpAll K H (ws.map V.str) (ws.map PyData.str)
  | [] => .nil
  | x :: r => .cons (.str x) (strs_dp r)
theorem strs_lay : ∀ ws : List Str, (∀ x ∈ ws, PyData.strOk x = true) → PyData.canLayAll0 (ws.map PyData.str) = true ∧ PyData.depthAll (ws.map PyData.str) = 0
  | [], _ => by simp [PyData.canLayAll0, PyData.depthAll]
  | x :: r, h => by
    obtain ⟨h1, h2⟩ := strs_lay r fun y m => h y (List.mem_cons_of_mem _ m)
    exact ⟨by simp [PyData.canLayAll0, PyData.canLay0, h1, h x List.mem_cons_self], by simp [PyData.depthAll, PyData.depth, h2]⟩
theorem strs_shaped {ws : List Str} (h : ∀ x ∈ ws, PyData.strOk x = true) : SeqAt.shaped (.list (ws.map PyData.str)) = true := by
  obtain ⟨h1, h2⟩ := strs_lay ws h
  refine shaped_of (by simp only [PyData.canLay0]; exact h1) ?_
  simp only [PyData.depth]
  omega
/-- all but one list stays -/
def KB (r : Addr) (H H' : Hp) : Prop := ∀ b o, b ≠ r → H b = some o → H' b = some o
theorem KB.trans {r : Addr} {H H1 H2 : Hp} (p : KB r H H1) (q : KB r H1 H2) : KB r H H2 := fun b o n h => q b o n (p b o n h)
theorem KB.same {r : Addr} {H H' : Hp} (s : Same H H') : KB r H H' := fun b o _ h => s b o h
theorem KB.n {r : Addr} {H H' : Hp} {us : List V} (hr : H r = some (.lst us)) (k : KB r H H') : KeepN H H' := fun x o no h => k x o (fun e => by rw [e, hr] at h; cases h; exact no _ rfl) h
def BdR (K : PySem.W.Frag) (H : Hp) (v : V) (s : Span) : Prop := ∃ t, v = .ref t ∧ SqT K H t [oV s.1, oV s.2]
def BndAt (K : PySem.W.Frag) (H : Hp) (d : Addr) (bs : List (Str × Span)) : Prop := ∃ kvs, H d = some (.dK kvs) ∧ Paired (PR (BdR K) H) kvs bs
def spBnd (K : PySem.W.Frag) : Sp := fun vs H Q _ => ∃ (v : V) (c : Option Tr) (tb : Str), vs = [v, .str tb] ∧ CondAt K H v c ∧ CdO c ∧ CdT (partsO c) ∧ depO c < 16 ∧ PyData.strOk tb = true ∧
  (Bad tb (partsO c) = true → ∀ H', Same H H' → Q .non H') ∧
  (Bad tb (partsO c) = false → ∀ (d : Addr) (H' : Hp) (bs : List (Str × Span)), Same H H' → H d = none → BndAt K H' d bs → (bs.map (·.1)).Nodup → (∀ f, bs.lookup f = specF tb (partsO c) f) → Q (.ref d) H')

theorem room66 {k : Nat} {A : Around} (hr : Room k A) : A.units + 66 < cLine := by
  have := hr.un
  omega
theorem BndAt.keep {K : PySem.W.Frag} {H H' : Hp} (k : KeepN H H') {d : Addr} {bs : List (Str × Span)} (h : BndAt K H d bs) : BndAt K H' d bs := by
  obtain ⟨kvs, hd, p⟩ := h
  exact ⟨kvs, k d _ (fun _ e => nomatch e) hd, pr_mono (fun v x ⟨t, e, q⟩ => ⟨t, e, k.t q⟩) p⟩
theorem oV_is (o : Option Int) : (match o with | .none => V.non | .some i => V.int i) = oV o := by cases o <;> rfl
end K25

set_option maxRecDepth 100000
set_option maxHeartbeats 4000000
namespace K25
open PySem L2
/-! ### the program: bounds -/
structure TxtP (K : PySem.W.Frag) (w : World) (mg : Str → Option Value) (fc ft : Addr) : Prop where
  any : mg "any" = none
  max : mg "max" = none
  min : mg "min" = none
  comp : mg "COMPARISONS" = some (.ref fc)
  compT : ∀ H, SqT K H fc (signs.map V.str)
  turn : mg "TURNED" = some (.ref ft)
  turnD : ∀ op ∈ signs, KDct K w ft op (.str (flip op))
def KeepD (d : Addr) (H H' : Hp) : Prop := ∀ x o, x ≠ d → H x = some o → H' x = some o
theorem KeepD.trans {d : Addr} {H H1 H2 : Hp} (p : KeepD d H H1) (q : KeepD d H1 H2) : KeepD d H H2 := fun x o n h => q x o n (p x o n h)
theorem KeepD.of {d : Addr} {H H' : Hp} (s : Same H H') : KeepD d H H' := fun x o _ h => s x o h
theorem sqT_keepD {K : PySem.W.Frag} {H H' : Hp} {d t : Addr} {xs : List V} {kvs : List (Key × V)} (h : SqT K H t xs) (hd : H d = some (.dK kvs)) (q : KeepD d H H') : SqT K H' t xs := by
  rcases h with (h | ⟨o', h⟩) | h
  · exact .inl (.inl (q _ _ (fun z => by rw [z, hd] at h; cases h) h))
  · exact .inl (.inr ⟨o', q _ _ (fun z => by rw [z, hd] at h; cases h) h⟩)
  · exact .inr h
theorem bd_keepD {K : PySem.W.Frag} {H H' : Hp} {d : Addr} {ks : List (Key × V)} (hd : H d = some (.dK ks)) (q : KeepD d H H') {kvs : List (Key × V)} {bs : List (Str × Span)} (h : Paired (PR (BdR K) H) kvs bs) : Paired (PR (BdR K) H') kvs bs :=
  Paired.mapP h fun _ _ ⟨e, t, e2, ht⟩ => ⟨e, t, e2, sqT_keepD ht hd q⟩
theorem bd_put {K : PySem.W.Frag} {H : Hp} {v : V} {x : Span} {k : Str} {kvs : List (Key × V)} {fs : List (Str × Span)} (h : Paired (PR (BdR K) H) kvs fs) (r : BdR K H v x) : Paired (PR (BdR K) H) (putK kvs (.inr k) v) (putL fs k x) := by
  by_cases m : k ∈ fs.map (·.1)
  · have any : (kvs.any fun kv => decide (kv.1 = (Sum.inr k : Key))) = true := by
      rw [List.any_eq_true]
      have e := pr_keys h
      have m2 : (Sum.inr k : Key) ∈ kvs.map (·.1) := by rw [e]; exact List.mem_map_of_mem m
      obtain ⟨kv, m3, e3⟩ := List.mem_map.mp m2
      exact ⟨kv, m3, decide_eq_true e3⟩
    unfold putK putL
    rw [if_pos any, if_pos m]
    clear any m
    induction h with
    | nil => exact .nil
    | @cons kv p l1 l2 h1 h2 ih =>
      rw [List.map_cons, List.map_cons]
      refine .cons ?_ ih
      obtain ⟨e, q⟩ := h1
      have e : kv.1 = .inr p.1 := e
      by_cases z : p.1 = k
      · rw [if_pos (by rw [e, z]), if_pos z]
        exact ⟨e, r⟩
      · rw [if_neg (fun y => z (Sum.inr.inj (e.symm.trans y))), if_neg z]
        exact ⟨e, q⟩
  · rw [pr_put h m]
    unfold putL
    rw [if_neg m]
    exact pr_snoc h r
def addS (o : Option Span) (e : Span) : Span := match o with
  | none => e
  | some s => (maxO s.1 e.1, minO s.2 e.2)
theorem max_none (b : Option Int) : maxO none b = b := by cases b <;> rfl
theorem min_none (b : Option Int) : minO none b = b := by cases b <;> rfl
theorem narrow_add (o : Option Span) (op : Str) (n : Int) : narrow (o.getD (none, none)) op n = addS o (lowOf op n, highOf op n) := by
  cases o with
  | none => exact Prod.ext (max_none _) (min_none _)
  | some s => rfl
theorem ends_eq (n : Int) : lowOf gEq n = some n ∧ highOf gEq n = some n :=
  ⟨by unfold lowOf; rw [if_pos (.inl rfl), if_neg (by decide +kernel), Int.add_zero], by unfold highOf; rw [if_pos (.inl rfl), if_neg (by decide +kernel), Int.sub_zero]⟩
theorem ends_lt (n : Int) : lowOf gLt n = none ∧ highOf gLt n = some (n - 1) :=
  ⟨by unfold lowOf; rw [if_neg (by decide +kernel)], by unfold highOf; rw [if_pos (.inr (.inl rfl)), if_pos rfl]⟩
theorem ends_gt (n : Int) : lowOf gGt n = some (n + 1) ∧ highOf gGt n = none :=
  ⟨by unfold lowOf; rw [if_pos (.inr (.inl rfl)), if_pos rfl], by unfold highOf; rw [if_neg (by decide +kernel)]⟩
theorem ends_le (n : Int) : lowOf gLe n = none ∧ highOf gLe n = some n :=
  ⟨by unfold lowOf; rw [if_neg (by decide +kernel)], by unfold highOf; rw [if_pos (.inr (.inr rfl)), if_neg (by decide +kernel), Int.sub_zero]⟩
theorem ends_ge (n : Int) : lowOf gGe n = some n ∧ highOf gGe n = none :=
  ⟨by unfold lowOf; rw [if_pos (.inr (.inr rfl)), if_neg (by decide +kernel), Int.add_zero], by unfold highOf; rw [if_neg (by decide +kernel)]⟩
theorem sign_cases {op : Str} (h : op ∈ signs) : op = gEq ∨ op = gLt ∨ op = gGt ∨ op = gLe ∨ op = gGe := by
  simpa only [signs, List.mem_cons, List.mem_nil_iff, or_false] using h
def isOfT (tb : Str) : Tr → Bool
  | .field t _ => decide (t = tb)
  | _ => false
def isNumT : Tr → Bool
  | .num _ => true
  | _ => false
def spIsso : Sp := fun vs H Q _ => ∃ (op : Str) (x y : Int), vs = [.str op, .int x, .int y] ∧ op ∈ signs ∧ Q (.bl (fits op x y)) H
def spIsof (K : PySem.W.Frag) : Sp := fun vs H Q _ => ∃ (v : V) (t : Tr) (tb : Str), vs = [v, .str tb] ∧ TrAt K H v t ∧ Tm t ∧ Q (.bl (isOfT tb t)) H
def spEnds : Sp := fun vs H Q _ => ∃ (op : Str) (n : Int), vs = [.str op, .int n] ∧ op ∈ signs ∧ ∀ p, H p = none → Q (.ref p) (upd H p (.tup [oV (lowOf op n), oV (highOf op n)]))
def spGreater : Sp := fun vs H Q _ => ∃ a b : Option Int, vs = [oV a, oV b] ∧ Q (oV (maxO a b)) H
def spLesser : Sp := fun vs H Q _ => ∃ a b : Option Int, vs = [oV a, oV b] ∧ Q (oV (minO a b)) H
def spCrossed : Sp := fun vs H Q _ => ∃ lo hi : Option Int, vs = [oV lo, oV hi] ∧ Q (.bl (gap (lo, hi))) H
def spNarrow (K : PySem.W.Frag) : Sp := fun vs H Q _ => ∃ (d t : Addr) (f : Str) (kvs : List (Key × V)) (bs : List (Str × Span)) (e : Span), vs = [.ref d, .str f, .ref t] ∧ H d = some (.dK kvs) ∧ Paired (PR (BdR K) H) kvs bs ∧ kvs.length < sizeLine ∧
  SqT K H t [oV e.1, oV e.2] ∧ ∀ (H' : Hp) (ks : List (Key × V)), KeepD d H H' → H' d = some (.dK ks) → Paired (PR (BdR K) H') ks (putL bs f (addS (bs.lookup f) e)) → Q .non H'
def spMusts (K : PySem.W.Frag) : Sp := fun vs H Q _ => ∃ (v : V) (c : Option Tr), vs = [v] ∧ CondAt K H v c ∧ CdO c ∧ depO c < 16 ∧
  ∀ (r : Addr) (H' : Hp) (us : List V), Same H H' → H r = none → H' r = some (.lst us) → Paired (TrAt K H') us (partsO c) → Q (.ref r) H'
section
variable {P : Program} {w : World} {K : PySem.W.Frag} {mg : Str → Option Value} {base : Heap}
theorem sif_str {i : Nat} {x y : Str} {t e u : TS} {D : Ends} {σ : L2.St} {H : Hp} (h : σ[i]? = some (some (.str x))) (h1 : x = y → t { D with nx := u D } σ H) (h2 : x ≠ y → e { D with nx := u D } σ H) :
    tSeq (tIfS (tTest (tOp rEq (tVar i) (tC (.str y)))) t e) u D σ H := by
  refine sif ⟨_, h, rfl, _, rfl, ?_⟩
  show if decide (V.str x = V.str y) = true then t { D with nx := u D } σ H else e { D with nx := u D } σ H
  by_cases c : x = y
  · rw [if_pos (decide_eq_true (congrArg V.str c))]
    exact h1 c
  · rw [if_neg (fun z => c (V.str.inj (of_decide_eq_true z)))]
    exact h2 c
theorem scIsso : FnScope ["sign", "one", "other"] ["sign", "one", "other"] (defScope sisso) := ⟨rfl, rfl, rfl, by decide +kernel, rfl, by decide +kernel, by decide +kernel⟩
theorem ok_isso {f : Addr} {fd : FuncData} (F : Fun K "is_so" "is_so" sisso f fd) : FnOk P w K mg base CX0 1 f fd ["sign", "one", "other"] spIsso := by
  refine F.ok scIsso (fun vs H Q E h => ?_) (fun cdv A outer s H vs Q E hr h => ?_)
  · obtain ⟨op, x, y, rfl, _⟩ := h
    rfl
  · obtain ⟨op, x, y, rfl, hop, k⟩ := h
    refine ⟨_, (pss_cons (ps_if (pt_cmpR op_eq (pv 0) pe_str (nomark _)) (pss_one (ps_ret (pe_cmpR op_eq (pv 1) (pv 2) (nomark _)))) pss_nil)
      (pss_cons (ps_if (pt_cmpR op_eq (pv 0) pe_str (nomark _)) (pss_one (ps_ret (pe_cmpR op_lt (pv 1) (pv 2) (nomark _)))) pss_nil)
      (pss_cons (ps_if (pt_cmpR op_eq (pv 0) pe_str (nomark _)) (pss_one (ps_ret (pe_cmpR op_gt (pv 1) (pv 2) (nomark _)))) pss_nil)
      (pss_cons (ps_if (pt_cmpR op_eq (pv 0) pe_str (nomark _)) (pss_one (ps_ret (pe_cmpR op_le (pv 1) (pv 2) (nomark _)))) pss_nil)
      (pss_one (ps_ret (pe_cmpR op_ge (pv 1) (pv 2) (nomark _)))))))), ?_⟩
    have vx : decide (V.int x = V.int y) = decide (x = y) := decide_eq_decide.mpr ⟨fun e => V.int.inj e, fun e => congrArg V.int e⟩
    unfold fits at k
    refine sif_str rfl (fun e => ?_) (fun n1 => ?_)
    · rw [if_pos e, ← vx] at k
      exact ⟨_, rfl, _, rfl, rfl, k⟩
    rw [if_neg n1] at k
    show tSeq _ _ _ _ _
    refine sif_str rfl (fun e => ?_) (fun n1 => ?_)
    · rw [if_pos e] at k
      exact ⟨_, rfl, _, rfl, _, _, rfl, rfl, k⟩
    rw [if_neg n1] at k
    show tSeq _ _ _ _ _
    refine sif_str rfl (fun e => ?_) (fun n1 => ?_)
    · rw [if_pos e] at k
      exact ⟨_, rfl, _, rfl, _, _, rfl, rfl, k⟩
    rw [if_neg n1] at k
    show tSeq _ _ _ _ _
    refine sif_str rfl (fun e => ?_) (fun n1 => ?_)
    · rw [if_pos e] at k
      exact ⟨_, rfl, _, rfl, _, _, rfl, rfl, k⟩
    rw [if_neg n1] at k
    exact ⟨_, rfl, _, rfl, _, _, rfl, rfl, k⟩
theorem scIsof : FnScope ["term", "table"] ["term", "table"] (defScope sisof) := ⟨rfl, rfl, rfl, by decide +kernel, rfl, by decide +kernel, by decide +kernel⟩
theorem ok_isof {f : Addr} {fd : FuncData} (F : Fun K "is_of" "is_of" sisof f fd) : FnOk P w K mg base CX0 1 f fd ["term", "table"] (spIsof K) := by
  refine F.ok scIsof (fun vs H Q E h => ?_) (fun cdv A outer s H vs Q E hr h => ?_)
  · obtain ⟨v, t, tb, rfl, _⟩ := h
    rfl
  · obtain ⟨v, t, tb, rfl, ht, tm, k⟩ := h
    refine ⟨_, (pss_one (ps_ret (pe_and (pe_cmpR op_eq (pe_ix (RK.ixT (K := K)) (pv 0) pe_int (fun _ _ => rfl)) pe_str (nomark _)) (pe_one (pe_cmpR op_eq (pe_ix (RK.ixT (K := K)) (pv 0) pe_int (fun _ _ => rfl)) (pv 1) (nomark _)))))), ?_⟩
    cases tm with
    | num h1 h2 =>
      obtain ⟨p, rfl, hp⟩ := ht
      refine ⟨_, rfl, p, _, _, _, rfl, rfl, hp, rfl, rfl, _, rfl, ?_⟩
      rw [show decide (V.str (Str.ofString "num") = V.str (Str.ofString "field")) = false by decide +kernel]
      exact iteF k
    | @field t0 g h1 h2 =>
      obtain ⟨p, rfl, hp⟩ := ht
      refine ⟨_, rfl, p, _, _, _, rfl, rfl, hp, rfl, rfl, _, rfl, ?_⟩
      rw [show decide (V.str (Str.ofString "field") = V.str (Str.ofString "field")) = true by decide +kernel]
      refine iteT ⟨_, rfl, p, _, _, _, rfl, rfl, hp, rfl, _, rfl, rfl, ?_⟩
      have e : decide (V.str t0 = V.str tb) = decide (t0 = tb) := decide_eq_decide.mpr ⟨fun e => V.str.inj e, fun e => congrArg V.str e⟩
      show Q (.bl (decide (V.str t0 = V.str tb))) H
      rw [e]
      exact k
    | @bin o l r ho _ _ =>
      obtain ⟨p, x, y, rfl, hp, _⟩ := ht
      refine ⟨_, rfl, p, _, _, _, rfl, rfl, hp, rfl, rfl, _, rfl, ?_⟩
      have e : decide (V.str o = V.str (Str.ofString "field")) = false := by
        simp only [List.mem_cons, List.mem_nil_iff, or_false] at ho
        rcases ho with rfl | rfl | rfl <;> decide +kernel
      rw [e]
      exact iteF k
theorem scEnds : FnScope ["sign", "number"] ["sign", "number"] (defScope sends) := ⟨rfl, rfl, rfl, by decide +kernel, rfl, by decide +kernel, by decide +kernel⟩
theorem ok_ends {f : Addr} {fd : FuncData} (F : Fun K "ends" "ends" sends f fd) : FnOk P w K mg base CX0 1 f fd ["sign", "number"] spEnds := by
  refine F.ok scEnds (fun vs H Q E h => ?_) (fun cdv A outer s H vs Q E hr h => ?_)
  · obtain ⟨op, n, rfl, _⟩ := h
    rfl
  · obtain ⟨op, n, rfl, hop, k⟩ := h
    refine ⟨_, (pss_cons (ps_if (pt_cmpR op_eq (pv 0) pe_str (nomark _)) (pss_one (ps_ret (pe_tup (pa_cons (pv 1) (pa_cons (pv 1) pa_nil))))) pss_nil)
      (pss_cons (ps_if (pt_cmpR op_eq (pv 0) pe_str (nomark _)) (pss_one (ps_ret (pe_tup (pa_cons pe_non (pa_cons (pe_op op_sub (pv 1) pe_int) pa_nil))))) pss_nil)
      (pss_cons (ps_if (pt_cmpR op_eq (pv 0) pe_str (nomark _)) (pss_one (ps_ret (pe_tup (pa_cons (pe_op op_add (pv 1) pe_int) (pa_cons pe_non pa_nil))))) pss_nil)
      (pss_cons (ps_if (pt_cmpR op_eq (pv 0) pe_str (nomark _)) (pss_one (ps_ret (pe_tup (pa_cons pe_non (pa_cons (pv 1) pa_nil))))) pss_nil)
      (pss_one (ps_ret (pe_tup (pa_cons (pv 1) (pa_cons pe_non pa_nil))))))))), ?_⟩
    refine sif_str rfl (fun e => ?_) (fun n1 => ?_)
    · rw [e, (ends_eq n).1, (ends_eq n).2] at k
      exact ⟨_, rfl, _, rfl, (by show 2 ≤ sizeLine; decide), k⟩
    show tSeq _ _ _ _ _
    refine sif_str rfl (fun e => ?_) (fun n2 => ?_)
    · rw [e, (ends_lt n).1, (ends_lt n).2] at k
      exact ⟨_, rfl, _, _, rfl, rfl, (by show 2 ≤ sizeLine; decide), k⟩
    show tSeq _ _ _ _ _
    refine sif_str rfl (fun e => ?_) (fun n3 => ?_)
    · rw [e, (ends_gt n).1, (ends_gt n).2] at k
      exact ⟨_, rfl, _, _, rfl, rfl, (by show 2 ≤ sizeLine; decide), k⟩
    show tSeq _ _ _ _ _
    refine sif_str rfl (fun e => ?_) (fun n4 => ?_)
    · rw [e, (ends_le n).1, (ends_le n).2] at k
      exact ⟨_, rfl, (by show 2 ≤ sizeLine; decide), k⟩
    rcases sign_cases hop with e | e | e | e | e
    · exact absurd e n1
    · exact absurd e n2
    · exact absurd e n3
    · exact absurd e n4
    · rw [e, (ends_ge n).1, (ends_ge n).2] at k
      exact ⟨_, rfl, (by show 2 ≤ sizeLine; decide), k⟩
theorem scGreater : FnScope ["one", "other"] ["one", "other"] (defScope sgreater) := ⟨rfl, rfl, rfl, by decide +kernel, rfl, by decide +kernel, by decide +kernel⟩
theorem ok_greater {fc ft f : Addr} {fd : FuncData} (F : Fun K "greater" "greater" sgreater f fd) (TP : TxtP K w mg fc ft) : FnOk P w K mg base CX0 1 f fd ["one", "other"] spGreater := by
  refine F.ok scGreater (fun vs H Q E h => ?_) (fun cdv A outer s H vs Q E hr h => ?_)
  · obtain ⟨a, b, rfl, _⟩ := h
    rfl
  · obtain ⟨a, b, rfl, k⟩ := h
    refine ⟨_, (pss_cons (ps_if (PW.pt (pw_or (pt_cmpR op_isN (pv 0) pe_non (nomark _)) (pw_or1 (pt_cmpR op_isN (pv 1) pe_non (nomark _))))) (pss_one (ps_ret (pe_ifExp (pt_cmpR op_isN (pv 0) pe_non (nomark _)) (pv 1) (pv 0)))) pss_nil)
      (pss_one (ps_ret (pe_callB (call_max2 rfl) (by rfl) TP.max (by decide +kernel) (pa_cons (pv 0) (pa_cons (pv 1) pa_nil)))))), ?_⟩
    cases a with
    | none =>
      rw [max_none] at k
      exact sif ⟨_, rfl, rfl, _, rfl, iteT (iteT ⟨_, rfl, rfl, _, rfl, iteT ⟨_, rfl, k⟩⟩)⟩
    | some a =>
      refine sif ⟨_, rfl, rfl, _, rfl, iteF ⟨_, rfl, rfl, _, rfl, ?_⟩⟩
      cases b with
      | none => exact iteT ⟨_, rfl, rfl, _, rfl, iteF ⟨_, rfl, k⟩⟩
      | some b => exact iteF ⟨_, rfl, _, rfl, _, _, rfl, k⟩
theorem scLesser : FnScope ["one", "other"] ["one", "other"] (defScope slesser) := ⟨rfl, rfl, rfl, by decide +kernel, rfl, by decide +kernel, by decide +kernel⟩
theorem ok_lesser {fc ft f : Addr} {fd : FuncData} (F : Fun K "lesser" "lesser" slesser f fd) (TP : TxtP K w mg fc ft) : FnOk P w K mg base CX0 1 f fd ["one", "other"] spLesser := by
  refine F.ok scLesser (fun vs H Q E h => ?_) (fun cdv A outer s H vs Q E hr h => ?_)
  · obtain ⟨a, b, rfl, _⟩ := h
    rfl
  · obtain ⟨a, b, rfl, k⟩ := h
    refine ⟨_, (pss_cons (ps_if (PW.pt (pw_or (pt_cmpR op_isN (pv 0) pe_non (nomark _)) (pw_or1 (pt_cmpR op_isN (pv 1) pe_non (nomark _))))) (pss_one (ps_ret (pe_ifExp (pt_cmpR op_isN (pv 0) pe_non (nomark _)) (pv 1) (pv 0)))) pss_nil)
      (pss_one (ps_ret (pe_callB (call_min2 rfl) (by rfl) TP.min (by decide +kernel) (pa_cons (pv 0) (pa_cons (pv 1) pa_nil)))))), ?_⟩
    cases a with
    | none =>
      rw [min_none] at k
      exact sif ⟨_, rfl, rfl, _, rfl, iteT (iteT ⟨_, rfl, rfl, _, rfl, iteT ⟨_, rfl, k⟩⟩)⟩
    | some a =>
      refine sif ⟨_, rfl, rfl, _, rfl, iteF ⟨_, rfl, rfl, _, rfl, ?_⟩⟩
      cases b with
      | none => exact iteT ⟨_, rfl, rfl, _, rfl, iteF ⟨_, rfl, k⟩⟩
      | some b => exact iteF ⟨_, rfl, _, rfl, _, _, rfl, k⟩
theorem scCrossed : FnScope ["least", "greatest"] ["least", "greatest"] (defScope siscrossed) := ⟨rfl, rfl, rfl, by decide +kernel, rfl, by decide +kernel, by decide +kernel⟩
theorem ok_crossed {f : Addr} {fd : FuncData} (F : Fun K "is_crossed" "is_crossed" siscrossed f fd) : FnOk P w K mg base CX0 1 f fd ["least", "greatest"] spCrossed := by
  refine F.ok scCrossed (fun vs H Q E h => ?_) (fun cdv A outer s H vs Q E hr h => ?_)
  · obtain ⟨lo, hi, rfl, _⟩ := h
    rfl
  · obtain ⟨lo, hi, rfl, k⟩ := h
    refine ⟨_, (pss_one (ps_ret (pe_and (pe_cmpR op_notN (pv 0) pe_non (nomark _)) (pe_and (pe_cmpR op_notN (pv 1) pe_non (nomark _)) (pe_one (pe_cmpR op_gt (pv 0) (pv 1) (nomark _))))))), ?_⟩
    cases lo with
    | none => exact ⟨_, rfl, rfl, _, rfl, k⟩
    | some l =>
      refine ⟨_, rfl, rfl, _, rfl, iteT ?_⟩
      cases hi with
      | none => exact ⟨_, rfl, rfl, _, rfl, k⟩
      | some m => exact ⟨_, rfl, rfl, _, rfl, iteT ⟨_, rfl, _, rfl, _, _, rfl, rfl, k⟩⟩
theorem scNarrow : FnScope ["told", "field", "both", "least", "greatest"] ["told", "field", "both"] (defScope snarrow) := ⟨rfl, rfl, rfl, by decide +kernel, rfl, by decide +kernel, by decide +kernel⟩
theorem ok_narrow2 {f fg fl : Addr} {fd fdg fdl : FuncData} (F : Fun K "narrow" "narrow" snarrow f fd) (Cgreater : Cal P w K mg base 1 "greater" ["one", "other"] spGreater fg fdg) (Clesser : Cal P w K mg base 1 "lesser" ["one", "other"] spLesser fl fdl) :
    FnOk P w K mg base CX0 2 f fd ["told", "field", "both"] (spNarrow K) := by
  refine F.ok scNarrow (fun vs H Q E h => ?_) (fun cdv A outer s H vs Q E hr h => ?_)
  · obtain ⟨d, t, f, kvs, bs, e, rfl, _⟩ := h
    rfl
  · obtain ⟨d, t, g, kvs, bs, e, rfl, hd, pr, few, ht, k⟩ := h
    have hr1 : Room 1 _ := hr.mono (by decide)
    refine ⟨_, (pss_cons (ps_if (pt_cmp (pc_dnotin (hu_of hr) (pv 1) (pv 0))) (pss_cons (ps_dput (hu_of hr) (pv 0) (pv 1) (pv 2) rfl)
        (pss_one ps_retN)) pss_nil)
      (pss_cons (ps_asg (pe_dget (hu_of hr) (pv 0) (pv 1) (fun _ _ => rfl)) (RK.pgTup (K := K) (n := 2) rfl (pgs_cons (pg_name (i := 3) scNarrow.nd rfl (Or.inl rfl)) (pgs_cons (pg_name (i := 4) scNarrow.nd rfl (Or.inl rfl)) pgs_nil))))
      (pss_one (ps_dput (hu_of hr) (pv 0) (pv 1) (pe_tup (pa_cons (pe_call Cgreater.G hr1 rfl Cgreater.g Cgreater.kp Cgreater.b .nil pass0 (pa_cons (pv 3) (pa_cons (pe_ix (RK.ixT (K := K)) (pv 2) pe_int (fun _ _ => rfl)) pa_nil))) (pa_cons (pe_call Clesser.G hr1 rfl Clesser.g Clesser.kp Clesser.b .nil pass0 (pa_cons (pv 4) (pa_cons (pe_ix (RK.ixT (K := K)) (pv 2) pe_int (fun _ _ => rfl)) pa_nil))) pa_nil))) rfl)))), ?_⟩
    refine sif ⟨_, rfl, _, rfl, d, _, rfl, DGet.k (k := Sum.inr g) hd, _, rfl, ?_⟩
    rcases pr_look g pr with ⟨e1, e2⟩ | ⟨sp, v0, e1, e2, t0, rfl, h0⟩
    · rw [e2]
      refine iteT ⟨_, rfl, _, rfl, _, rfl, d, _, rfl, DPut.k (k := Sum.inr g) hd few, ?_⟩
      have kd : KeepD d H (upd H d (.dK (putK kvs (Sum.inr g) (.ref t)))) := fun x o n q => by rw [upd_ne n]; exact q
      rw [e1] at k
      exact k _ _ kd upd_same (bd_put (bd_keepD hd kd pr) ⟨t, rfl, sqT_keepD ht hd kd⟩)
    · rw [e2]
      refine iteF ?_
      have dg : DGet H d (.str g) (some (.ref t0)) := e2 ▸ DGet.k (k := Sum.inr g) hd
      dsimp only [tNext]
      refine sa1 ?_
      refine ⟨_, rfl, _, rfl, d, _, rfl, dg, ?_⟩
      refine ⟨t0, _, rfl, h0, rfl, _, _, rfl, _, _, rfl, rfl, ?_⟩
      refine ⟨_, rfl, _, rfl, t, _, _, _, rfl, rfl, ht, rfl, sp.1, e.1, rfl, _, rfl, _, rfl, t, _, _, _, rfl, rfl, ht, rfl, sp.2, e.2, rfl, (by show 2 ≤ sizeLine; decide), fun p hp => ?_⟩
      have s1 := Same.new (o := .tup [oV (maxO sp.1 e.1), oV (minO sp.2 e.2)]) hp
      refine ⟨_, rfl, _, rfl, d, _, rfl, DPut.k (k := Sum.inr g) (s1 _ _ hd) few, ?_⟩
      have kd : KeepD d H (upd (upd H p (.tup [oV (maxO sp.1 e.1), oV (minO sp.2 e.2)])) d (.dK (putK kvs (Sum.inr g) (.ref p)))) := fun x o n q => by rw [upd_ne n]; exact s1 _ _ q
      rw [e1] at k
      refine k _ _ kd upd_same (bd_put (bd_keepD hd kd pr) ⟨p, rfl, .inl (.inl ?_)⟩)
      rw [upd_ne (fun z => by rw [z, hd] at hp; cases hp), upd_same]
      rfl
end
end K25

set_option maxRecDepth 100000
set_option maxHeartbeats 4000000
namespace K25
open PySem L2
/-! ### musts -/
def nd : Tr → Nat
  | .bin op l r => if op = sAnd then nd l + nd r + 1 else 1
  | _ => 1
theorem nd_le : ∀ t : Tr, nd t + 1 ≤ 2 ^ (t.depth + 1)
  | .num _ => by show 1 + 1 ≤ 2 ^ (0 + 1); decide
  | .field _ _ => by show 1 + 1 ≤ 2 ^ (0 + 1); decide
  | .not x => by
    have := Nat.one_le_two_pow (n := x.depth)
    show 1 + 1 ≤ 2 ^ (x.depth + 1 + 1)
    rw [Nat.pow_succ, Nat.pow_succ]
    omega
  | .bin op l r => by
    have h1 := nd_le l
    have h2 := nd_le r
    have e1 : 2 ^ (l.depth + 1) ≤ 2 ^ (max l.depth r.depth + 1) := Nat.pow_le_pow_right (by decide) (by omega)
    have e2 : 2 ^ (r.depth + 1) ≤ 2 ^ (max l.depth r.depth + 1) := Nat.pow_le_pow_right (by decide) (by omega)
    show (if op = sAnd then nd l + nd r + 1 else 1) + 1 ≤ 2 ^ (max l.depth r.depth + 1 + 1)
    rw [Nat.pow_succ 2 (max l.depth r.depth + 1)]
    split
    · omega
    · have := Nat.one_le_two_pow (n := max l.depth r.depth + 1)
      omega
def todo (st : List Tr) : List Tr := st.reverse.flatMap parts
theorem todo_snoc (st : List Tr) (t : Tr) : todo (st ++ [t]) = parts t ++ todo st := by
  unfold todo
  rw [List.reverse_append]
  rfl
def sumN (st : List Tr) : Nat := (st.map nd).sum
theorem sum_snoc (st : List Tr) (t : Tr) : sumN (st ++ [t]) = sumN st + nd t := by
  unfold sumN
  rw [List.map_append, List.sum_append]
  rfl
theorem nd_pos (t : Tr) : 1 ≤ nd t := by
  cases t with
  | bin op l r =>
    show 1 ≤ (if op = sAnd then nd l + nd r + 1 else 1)
    split <;> omega
  | _ => exact Nat.le_refl 1
theorem len_sum : ∀ st : List Tr, st.length ≤ sumN st
  | [] => Nat.zero_le _
  | t :: r => by
    have h := len_sum r
    have p := nd_pos t
    show r.length + 1 ≤ nd t + sumN r
    omega
theorem pair_unsnoc {α β : Type} {F : α → β → Prop} : ∀ {l1 : List α} {l2 : List β} {b : β}, Paired F l1 (l2 ++ [b]) → ∃ l a, l1 = l ++ [a] ∧ Paired F l l2 ∧ F a b
  | _, [], _, .cons r .nil => ⟨[], _, rfl, .nil, r⟩
  | _, _ :: l2, _, .cons r q => by
    obtain ⟨l, a, e, p, z⟩ := pair_unsnoc (l2 := l2) q
    exact ⟨_ :: l, a, by rw [e]; rfl, .cons r p, z⟩
theorem sign_str {op : Str} (h : op ∈ signs) : PyData.strOk op = true := by
  rcases sign_cases h with rfl | rfl | rfl | rfl | rfl <;> decide +kernel
theorem layCd {t : Tr} (h : Cd t) : PyData.canLay0 (encD t) = true ∧ PyData.depth (encD t) ≤ t.depth + 1 := by
  induction h with
  | @cmp op l r ho hl hr =>
    obtain ⟨f1, k1, t1⟩ := hl
    obtain ⟨f2, k2, t2⟩ := hr
    have a1 := layTm (Tm.of k1 t1)
    have a2 := layTm (Tm.of k2 t2)
    refine ⟨by simp [encD, PyData.canLay0, PyData.canLayAll0, sign_str ho, a1.1, a2.1], ?_⟩
    have e1 := a1.2
    have e2 := a2.2
    simp only [encD, PyData.depth, PyData.depthAll, Tr.depth]
    omega
  | @join op l r ho _ _ h1 h2 =>
    have so : PyData.strOk op = true := by
      simp only [List.mem_cons, List.mem_nil_iff, or_false] at ho
      rcases ho with rfl | rfl <;> decide +kernel
    refine ⟨by simp [encD, PyData.canLay0, PyData.canLayAll0, so, h1.1, h2.1], ?_⟩
    have e1 := h1.2
    have e2 := h2.2
    simp only [encD, PyData.depth, PyData.depthAll, Tr.depth]
    omega
  | @not x _ h1 =>
    have so : PyData.strOk (Str.ofString "not") = true := by decide +kernel
    refine ⟨by simp [encD, PyData.canLay0, PyData.canLayAll0, so, h1.1], ?_⟩
    have e1 := h1.2
    simp only [encD, PyData.depth, PyData.depthAll, Tr.depth]
    omega
theorem cds_dp {K : PySem.W.Frag} {H : Hp} : ∀ {vs : List V} {st : List Tr}, Paired (TrAt K H) vs st → DpAll K H vs (st.map encD)
  | _, _, .nil => .nil
  | _, _, .cons h r => .cons (dpTr h) (cds_dp r)
theorem cds_lay : ∀ st : List Tr, (∀ t ∈ st, Cd t ∧ t.depth < 16) → PyData.canLayAll0 (st.map encD) = true ∧ PyData.depthAll (st.map encD) ≤ 20
  | [], _ => by simp [PyData.canLayAll0, PyData.depthAll]
  | t :: r, ok => by
    obtain ⟨h1, h2⟩ := cds_lay r fun x m => ok x (List.mem_cons_of_mem _ m)
    obtain ⟨o1, o2⟩ := ok t List.mem_cons_self
    obtain ⟨a1, a2⟩ := layCd o1
    refine ⟨by simp [PyData.canLayAll0, h1, a1], ?_⟩
    simp only [List.map_cons, PyData.depthAll]
    omega
theorem cds_shaped {st : List Tr} (ok : ∀ t ∈ st, Cd t ∧ t.depth < 16) : SeqAt.shaped (.list (st.map encD)) = true := by
  obtain ⟨h1, h2⟩ := cds_lay st ok
  refine shaped_of (by simp only [PyData.canLay0]; exact h1) ?_
  simp only [PyData.depth]
  omega
section
variable {P : Program} {w : World} {K : PySem.W.Frag} {mg : Str → Option Value} {base : Heap}
structure MuInv (K : PySem.W.Frag) (H H' : Hp) (r wl : Addr) (ps : List Tr) (st : List Tr) : Prop where
  same : Same H H'
  two : r ≠ wl
  all : ∃ us dn, H' r = some (.lst us) ∧ Paired (TrAt K H') us dn ∧ dn ++ todo st = ps
  wait : ∃ ws, H' wl = some (.lst ws) ∧ Paired (TrAt K H') ws st
  ok : ∀ t ∈ st, Cd t ∧ t.depth < 16
theorem trs_same {H H' : Hp} (s : Same H H') {us : List V} {ts : List Tr} (h : Paired (TrAt K H) us ts) : Paired (TrAt K H') us ts := Paired.mapP h fun _ _ z => z.keep (KeepN.of s)
def tPop (K : PySem.W.Frag) : TE := tBM0 K "list" rPop (tVar 2)
def tPush (K : PySem.W.Frag) (i : Nat) (te : TE) : TS := tDrop (tBM K "list" rAppend (tVar i) (tCons te tNil))
def tMu (K : PySem.W.Frag) (fc : Addr) : TS :=
  tSeq (tWhile (tTest (tOp (rNeD K) (tVar 2) (tLst tNil)))
    (tSeq (tAsg (tPop K) (gName 3))
      (tIfS (tTest (tOp rEq (tOp (rIxT K) (tVar 3) (tC (V.int 0))) (tC (V.str (Str.ofString "and")))))
        (tSeq (tPush K 2 (tOp (rIxT K) (tVar 3) (tC (V.int 2)))) (tPush K 2 (tOp (rIxT K) (tVar 3) (tC (V.int 1)))))
        (tIfS (tTest (tOp (rIn K false) (tOp (rIxT K) (tVar 3) (tC (V.int 0))) (tC (V.ref fc)))) (tPush K 1 (tVar 3)) tNext))))
  (tRet (tVar 1))
theorem push_run {i : Nat} {te : TE} {D : Ends} {σ : L2.St} {H : Hp} {l : Addr} {xs : List V} {y : V} (hi : σ[i]? = some (some (.ref l))) (hl : H l = some (.lst xs)) (few : xs.length < sizeLine) (ht : ∀ Q : VK, Q y H → te σ H Q) (q : D.nx σ (upd H l (.lst (xs ++ [y])))) :
    tPush K i te D σ H := ⟨_, hi, .inl ⟨rfl, _, SqL.of hl⟩, ht _ ⟨l, xs, y, rfl, rfl, hl, few, q⟩⟩
theorem ix_run {p : Addr} {σ : L2.St} {H : Hp} {Q : VK} {j : Nat} {xs : List V} {y : V} (hs : σ[3]? = some (some (.ref p))) (hp : SqT K H p xs) (hj : xs[j]? = some y) (q : Q y H) : tOp (rIxT K) (tVar 3) (tC (V.int (j : Nat))) σ H Q :=
  ⟨_, hs, p, _, _, _, rfl, rfl, hp, atI_nat hj, q⟩
theorem tag_run {p : Addr} {σ : L2.St} {H : Hp} {Qb : Bool → Hp → Prop} {xs : List V} {op z : Str} {b : Bool} (hs : σ[3]? = some (some (.ref p))) (hp : SqT K H p (.str op :: xs)) (hb : decide (V.str op = V.str z) = b) (q : Qb b H) :
    tTest (tOp rEq (tOp (rIxT K) (tVar 3) (tC (V.int 0))) (tC (V.str z))) σ H Qb := ⟨_, hs, p, _, _, _, rfl, rfl, hp, atI_nat (j := 0) rfl, rfl, b, by rw [← hb], q⟩
theorem in_run {p fc : Addr} {σ : L2.St} {H : Hp} {Qb : Bool → Hp → Prop} {xs : List V} {op : Str} {b : Bool} (hs : σ[3]? = some (some (.ref p))) (hp : SqT K H p (.str op :: xs)) (hc : SqT K H fc (signs.map V.str)) (hb : inV (V.str op) (signs.map V.str) = b) (q : Qb b H) :
    tTest (tOp (rIn K false) (tOp (rIxT K) (tVar 3) (tC (V.int 0))) (tC (V.ref fc))) σ H Qb := ⟨_, hs, p, _, _, _, rfl, rfl, hp, atI_nat (j := 0) rfl, fc, _, rfl, .inr hc, rfl, rfl, b, by rw [← hb]; rfl, q⟩
theorem mu_run {D : Ends} {fc : Addr} (hc : ∀ H, SqT K H fc (signs.map V.str)) {v3 : Option V} {v : V} {H H1 : Hp} {r wl : Addr} {ps st : List Tr} (I : MuInv K H H1 r wl ps st) (hr0 : H r = none) (hw0 : H wl = none) (sm : sumN st ≤ 2 ^ 17) (small : ps.length ≤ 2 ^ 16)
    (k : ∀ (H' : Hp) (us : List V), Same H H' → H' r = some (.lst us) → Paired (TrAt K H') us ps → D.rt (.ref r) H') : tMu K fc D [some v, some (.ref r), some (.ref wl), v3] H1 := by
  refine ⟨fun m σ H' => ∃ v3 st, m = sumN st ∧ m ≤ 2 ^ 17 ∧ σ = [some v, some (.ref r), some (.ref wl), v3] ∧ MuInv K H H' r wl ps st, ⟨_, v3, st, rfl, sm, rfl, I⟩, ?_⟩
  rintro m σ H2 ⟨u3, st, rfl, sm, rfl, I⟩
  obtain ⟨same, two, ⟨us, dn, hr, pu, eq⟩, ⟨ws, hw, pw⟩, ok⟩ := I
  refine ⟨_, rfl, (by show 0 ≤ sizeLine; decide), fun q hq => ?_⟩
  have sq := Same.new (o := .lst []) hq
  refine ⟨.list (st.map encD), .list [], .lst (SqL.of (sq _ _ hw)) (cds_dp (trs_same sq pw)), .lst (SqL.of upd_same) .nil, cds_shaped ok, rfl, _, rfl, ?_⟩
  rw [eqv_nil]
  have same2 := same.trans sq
  have hr2 := sq _ _ hr
  have hw2 := sq _ _ hw
  have pu2 := trs_same sq pu
  have pw2 := trs_same sq pw
  generalize upd H2 q (.lst []) = H3 at same2 hr2 hw2 pu2 pw2 ⊢
  clear sq hq hr hw pu pw same
  rcases List.eq_nil_or_concat st with rfl | ⟨st0, t, rfl⟩
  · refine iteF ⟨_, rfl, ?_⟩
    have e : dn = ps := by
      have z : dn ++ todo [] = ps := eq
      rw [show todo [] = [] from rfl, List.append_nil] at z
      exact z
    exact k H3 us same2 hr2 (e ▸ pu2)
  rw [List.concat_eq_append] at *
  have ne : (!(List.map encD (st0 ++ [t])).isEmpty) = true := by simp
  rw [ne]
  obtain ⟨ws0, x, rfl, pw0, hx⟩ := pair_unsnoc pw2
  have okt := ok t (List.mem_append.mpr (.inr List.mem_cons_self))
  have ok0 : ∀ z ∈ st0, Cd z ∧ z.depth < 16 := fun z m => ok z (List.mem_append.mpr (.inl m))
  rw [todo_snoc] at eq
  rw [sum_snoc] at sm
  have ldn : dn.length ≤ ps.length := by rw [← eq, List.length_append]; omega
  have lws : ws0.length ≤ sumN st0 := by rw [Paired.length pw0]; exact len_sum st0
  have lus : us.length ≤ ps.length := by rw [Paired.length pu2]; exact ldn
  have fin : ∀ {D' : Ends} {σ' : L2.St} {H' : Hp} {st' : List Tr}, True := fun {_ _ _ _} => trivial
  refine iteT ⟨fun σ' H' => ∃ m', m' < sumN (st0 ++ [t]) ∧ ∃ v3 st, m' = sumN st ∧ m' ≤ 2 ^ 17 ∧ σ' = [some v, some (.ref r), some (.ref wl), v3] ∧ MuInv K H H' r wl ps st, fun _ _ h => h, ?_⟩
  refine sa1 ?_
  refine ⟨_, rfl, .inl ⟨rfl, _, SqL.of hw2⟩, wl, _, x, rfl, rfl, hw2, by simp, ?_⟩
  rw [List.dropLast_concat]
  -- the list is shorter now
  have kn : KeepN H3 (upd H3 wl (.lst ws0)) := KeepN.lst hw2
  have h4r : upd H3 wl (.lst ws0) r = some (.lst us) := by rw [upd_ne two]; exact hr2
  have h4w : upd H3 wl (.lst ws0) wl = some (.lst ws0) := upd_same
  have p4u : Paired (TrAt K (upd H3 wl (.lst ws0))) us dn := Paired.mapP pu2 fun _ _ z => z.keep kn
  have p4w : Paired (TrAt K (upd H3 wl (.lst ws0))) ws0 st0 := Paired.mapP pw0 fun _ _ z => z.keep kn
  have s4 : Same H (upd H3 wl (.lst ws0)) := fun y o e => by
    rw [upd_ne (fun z => by rw [z, hw0] at e; cases e)]
    exact same2 y o e
  have hx4 := hx.keep kn
  generalize upd H3 wl (.lst ws0) = H4 at kn h4r h4w p4u p4w s4 hx4 ⊢
  refine gn ?_
  have bigW : ∀ n : Nat, n ≤ 2 ^ 17 + 2 → n < sizeLine := fun n h => Nat.lt_of_le_of_lt h (by decide)
  -- the next turn, nothing more in wait
  have done : ∀ p : Addr, (∀ (us' : List V) (dn' : List Tr) (H' : Hp), Same H H' → H' r = some (.lst us') → H' wl = some (.lst ws0) → Paired (TrAt K H') us' dn' → Paired (TrAt K H') ws0 st0 → dn' ++ todo st0 = ps →
      ∃ m', m' < sumN (st0 ++ [t]) ∧ ∃ v3 st, m' = sumN st ∧ m' ≤ 2 ^ 17 ∧ [some v, some (V.ref r), some (.ref wl), some (.ref p)] = [some v, some (.ref r), some (.ref wl), v3] ∧ MuInv K H H' r wl ps st) := fun p us' dn' H' sm' e1 e2 e3 e4 e5 =>
    ⟨sumN st0, by rw [sum_snoc]; have := nd_pos t; omega, _, st0, rfl, by omega, rfl, ⟨sm', two, ⟨us', dn', e1, e3, e5⟩, ⟨ws0, e2, e4⟩, ok0⟩⟩
  obtain ⟨cdt, dpt⟩ := okt
  cases cdt with
  | @not z cz =>
    obtain ⟨p, x0, rfl, hp, hz⟩ := hx4
    refine tag_run rfl hp (by decide +kernel) (iteF ?_)
    refine in_run rfl hp (hc _) (b := false) (by decide +kernel) (iteF ?_)
    exact done p us dn H4 s4 h4r h4w p4u p4w eq
  | @cmp op l r' hop hl hr' =>
    obtain ⟨p, y, z, rfl, hp, hy, hz⟩ := hx4
    have no : decide (V.str op = V.str (Str.ofString "and")) = false ∧ inV (V.str op) (signs.map V.str) = true ∧ parts (.bin op l r') = [.bin op l r'] := by
      rcases sign_cases hop with rfl | rfl | rfl | rfl | rfl <;> exact ⟨by decide +kernel, by decide +kernel, by rw [parts, if_neg (by decide +kernel), if_neg (by decide +kernel)]⟩
    refine tag_run rfl hp no.1 (iteF ?_)
    refine in_run rfl hp (hc _) no.2.1 (iteT ?_)
    refine push_run rfl h4r (bigW _ (Nat.le_trans lus (Nat.le_trans small (by decide)))) (fun Q q => ⟨_, rfl, q⟩) ?_
    have kn5 : KeepN H4 (upd H4 r (.lst (us ++ [.ref p]))) := KeepN.lst h4r
    rw [no.2.2] at eq
    refine done p (us ++ [.ref p]) (dn ++ [.bin op l r']) _ (fun y' o e => ?_) upd_same (by rw [upd_ne two.symm]; exact h4w) (Paired.snoc (Paired.mapP p4u fun _ _ q => q.keep kn5) ?_) (Paired.mapP p4w fun _ _ q => q.keep kn5) (by rw [List.append_assoc]; exact eq)
    · rw [upd_ne (fun q => by rw [q, hr0] at e; cases e)]
      exact s4 y' o e
    · exact TrAt.keep kn5 (show TrAt K H4 (.ref p) (.bin op l r') from ⟨p, y, z, rfl, hp, hy, hz⟩)
  | @join op l r' hop cl cr =>
    obtain ⟨p, y, z, rfl, hp, hy, hz⟩ := hx4
    simp only [List.mem_cons, List.mem_nil_iff, or_false] at hop
    rcases hop with rfl | rfl
    · refine tag_run rfl hp (b := true) (by decide +kernel) (iteT ?_)
      have d2 : l.depth < 16 ∧ r'.depth < 16 := by
        have : max l.depth r'.depth + 1 < 16 := dpt
        omega
      have nde : nd (.bin sAnd l r') = nd l + nd r' + 1 := by rw [nd, if_pos rfl]
      rw [nde] at sm
      have pe : parts (.bin sAnd l r') = parts l ++ parts r' := by rw [parts, if_pos rfl]
      rw [pe] at eq
      refine push_run rfl h4w (bigW _ (by omega)) (fun Q q => ix_run (j := 2) rfl hp rfl q) ?_
      have kn5 : KeepN H4 (upd H4 wl (.lst (ws0 ++ [z]))) := KeepN.lst h4w
      have h5 : upd H4 wl (.lst (ws0 ++ [z])) wl = some (.lst (ws0 ++ [z])) := upd_same
      refine push_run rfl h5 (bigW _ (by rw [List.length_append]; show ws0.length + 1 ≤ _; omega)) (fun Q q => ix_run (j := 1) rfl (kn5.t hp) rfl q) ?_
      have kn6 : KeepN (upd H4 wl (.lst (ws0 ++ [z]))) (upd (upd H4 wl (.lst (ws0 ++ [z]))) wl (.lst (ws0 ++ [z] ++ [y]))) := KeepN.lst h5
      have kn := kn5.trans kn6
      refine ⟨sumN (st0 ++ [r'] ++ [l]), by rw [sum_snoc, sum_snoc, sum_snoc, nde]; omega, _, st0 ++ [r'] ++ [l], rfl, by rw [sum_snoc, sum_snoc]; omega, rfl, ⟨fun y' o e => ?_, two, ⟨us, dn, ?_, Paired.mapP p4u fun _ _ q => q.keep kn, ?_⟩, ⟨_, upd_same, ?_⟩, fun q m => ?_⟩⟩
      · have ne : y' ≠ wl := fun q => by rw [q, hw0] at e; cases e
        rw [upd_ne ne, upd_ne ne]
        exact s4 y' o e
      · rw [upd_ne two, upd_ne two]
        exact h4r
      · rw [todo_snoc, todo_snoc, ← eq, List.append_assoc]
      · exact Paired.snoc (Paired.snoc (Paired.mapP p4w fun _ _ q => q.keep kn) (hz.keep kn)) (hy.keep kn)
      · rcases List.mem_append.mp m with m | m
        · rcases List.mem_append.mp m with m | m
          · exact ok0 q m
          · obtain rfl := List.mem_singleton.mp m
            exact ⟨cr, d2.2⟩
        · obtain rfl := List.mem_singleton.mp m
          exact ⟨cl, d2.1⟩
    · refine tag_run rfl hp (b := false) (by decide +kernel) (iteF ?_)
      refine in_run rfl hp (hc _) (b := false) (by decide +kernel) (iteF ?_)
      have pe : parts (.bin sOr l r') = [] := by rw [parts, if_neg (by decide +kernel), if_pos rfl]
      rw [pe] at eq
      exact done p us dn H4 s4 h4r h4w p4u p4w eq
theorem scMusts : FnScope ["cond", "found", "waiting", "tree"] ["cond"] (defScope smusts) := ⟨rfl, rfl, rfl, by decide +kernel, rfl, by decide +kernel, by decide +kernel⟩
theorem ok_musts {fc ft f : Addr} {fd : FuncData} (F : Fun K "musts" "musts" smusts f fd) (TP : TxtP K w mg fc ft) : FnOk P w K mg base CX0 1 f fd ["cond"] (spMusts K) := by
  refine F.ok scMusts (fun vs H Q E h => ?_) (fun cdv A outer s H vs Q E hr h => ?_)
  · obtain ⟨v, c, rfl, _⟩ := h
    rfl
  · obtain ⟨v, c, rfl, C, cd, dp, k⟩ := h
    refine ⟨_, (pss_cons (ps_set (i := 1) scMusts.nd rfl (Or.inl rfl) (pe_lst pa_nil))
      (pss_cons (ps_set (i := 2) scMusts.nd rfl (Or.inl rfl) (pe_ifExp (pt_cmpR op_isN (pv 0) pe_non (nomark _)) (pe_lst pa_nil) (pe_lst (pa_cons (pv 0) pa_nil))))
      (pss_cons (ps_while PassesOwn.never (pt_cmpR (RK.neD (K := K) hr.units) (pv 2) (pe_lst pa_nil) (nomark _))
        (pss_cons (ps_set (i := 3) scMusts.nd rfl (Or.inl rfl) (RK.bm0 (K := K) PySem.F.plainAttrs_list PySem.F.slot_list_pop PySem.F.type_list_pop mt_pop (pv 2)))
        (pss_one (ps_if (pt_cmpR op_eq (pe_ix (RK.ixT (K := K)) (pv 3) pe_int (fun _ _ => rfl)) pe_str (nomark _)) (pss_cons (ps_expr (RK.bm (K := K) PySem.F.plainAttrs_list PySem.F.slot_list_append PySem.F.type_list_append mt_append (pv 2) (pa_cons (pe_ix (RK.ixT (K := K)) (pv 3) pe_int (fun _ _ => rfl)) pa_nil)))
          (pss_one (ps_expr (RK.bm (K := K) PySem.F.plainAttrs_list PySem.F.slot_list_append PySem.F.type_list_append mt_append (pv 2) (pa_cons (pe_ix (RK.ixT (K := K)) (pv 3) pe_int (fun _ _ => rfl)) pa_nil))))) (pss_one (ps_if (pt_cmpR (RK.inQ (K := K)) (pe_ix (RK.ixT (K := K)) (pv 3) pe_int (fun _ _ => rfl)) (pe_glob (v := .ref fc) (by rfl) TP.comp rfl) (by rfl)) (pss_one (ps_expr (RK.bm (K := K) PySem.F.plainAttrs_list PySem.F.slot_list_append PySem.F.type_list_append mt_append (pv 1) (pa_cons (pv 3) pa_nil)))) pss_nil))))))
      (pss_one (ps_ret (pv 1)))))), ?_⟩
    have small : (partsO c).length ≤ 2 ^ 16 := by
      cases c with
      | none => exact Nat.zero_le _
      | some t => exact Nat.le_trans (parts_len t) (Nat.pow_le_pow_right (by decide) (Nat.le_of_lt dp))
    refine sa1 ⟨(by show 0 ≤ sizeLine; decide), fun r hr0 => ?_⟩
    have sr := Same.new (o := .lst []) hr0
    refine gn ?_
    refine sa1 ?_
    cases c with
    | none =>
      obtain rfl : v = .non := C
      refine ⟨_, rfl, rfl, _, rfl, iteT ⟨(by show 0 ≤ sizeLine; decide), fun wl hw => ?_⟩⟩
      have sw := Same.new (o := .lst []) hw
      have two : r ≠ wl := fun z => by rw [← z, upd_same] at hw; cases hw
      exact mu_run (K := K) (st := []) TP.compT ⟨sr.trans sw, two, ⟨[], [], sw _ _ upd_same, .nil, rfl⟩, ⟨[], upd_same, .nil⟩, fun _ m => by cases m⟩ hr0 (by rw [upd_ne two.symm] at hw; exact hw) (Nat.zero_le _) small fun H' us s1 h1 p1 => k r H' us s1 hr0 h1 p1
    | some t =>
      have nn : decide (v = V.non) = false := by
        cases cd with
        | not _ => obtain ⟨p, x0, rfl, _⟩ := C; rfl
        | cmp _ _ _ => obtain ⟨p, x0, y0, rfl, _⟩ := C; rfl
        | join _ _ _ => obtain ⟨p, x0, y0, rfl, _⟩ := C; rfl
      refine ⟨_, rfl, rfl, _, rfl, ?_⟩
      rw [nn]
      refine iteF ⟨_, rfl, (by show 1 ≤ sizeLine; decide), fun wl hw => ?_⟩
      have sw := Same.new (o := .lst [v]) hw
      have two : r ≠ wl := fun z => by rw [← z, upd_same] at hw; cases hw
      have b1 : nd t ≤ 2 ^ 17 := by
        have h1 := nd_le t
        have h2 : 2 ^ (t.depth + 1) ≤ 2 ^ 17 := Nat.pow_le_pow_right (by decide) (show t.depth + 1 ≤ 17 from Nat.succ_le_succ (Nat.le_of_lt dp))
        omega
      exact mu_run (K := K) (st := [t]) TP.compT ⟨sr.trans sw, two, ⟨[], [], sw _ _ upd_same, .nil, List.append_nil _⟩, ⟨[v], upd_same, .cons (TrAt.keep (KeepN.of (sr.trans sw)) C) .nil⟩, fun q m => (List.mem_singleton.mp m) ▸ ⟨cd, dp⟩⟩ hr0
        (by rw [upd_ne two.symm] at hw; exact hw) (by show nd t + 0 ≤ 2 ^ 17; omega) small fun H' us s1 h1 p1 => k r H' us s1 hr0 h1 p1
end
end K25

set_option maxRecDepth 100000
set_option maxHeartbeats 4000000
namespace K25
open PySem L2
/-! ### bounds -/
theorem at0 {x : V} {xs : List V} : atI (x :: xs) 0 = some x := atI_nat (j := 0) rfl
theorem pair_get {α β : Type} {F : α → β → Prop} : ∀ {l₁ : List α} {l₂ : List β} {i : Nat}, Paired F l₁ l₂ → (h : i < l₂.length) → ∃ a, l₁[i]? = some a ∧ F a l₂[i]
  | _, _, 0, .cons r _, _ => ⟨_, rfl, r⟩
  | _, _, i + 1, .cons _ q, h => pair_get (i := i) q (Nat.lt_of_succ_lt_succ h)
theorem same_of {H H1 H2 : Hp} {d : Addr} (hd : H d = none) (s : Same H H1) (k : KeepD d H1 H2) : Same H H2 := fun x o e => k x o (fun z => by rw [z, hd] at e; cases e) (s x o e)
theorem same_back {H : Hp} {d D : Addr} {u o l : HO} (hd : H d = some u) (hD : upd H d o D = none) : Same H (upd (upd (upd H d o) D l) d u) := fun x v e => by
  by_cases c : x = d
  · subst c
    rw [upd_same, ← hd, e]
  · have c2 : x ≠ D := fun z => by rw [← z, upd_ne c, e] at hD; cases hD
    rw [upd_ne c, upd_ne c2, upd_ne c]
    exact e
section
variable {P : Program} {w : World} {K : PySem.W.Frag} {mg : Str → Option Value} {base : Heap}
def tNumT (K : PySem.W.Frag) (i : Nat) : TT := tTest (tOp rEq (tOp (rIxT K) (tVar i) (tC (V.int 0))) (tC (V.str (Str.ofString "num"))))
def tOfT (K : PySem.W.Frag) (i : Nat) : TT := tB (tCall (spIsof K) [] E0 (tCons (tVar i) (tCons (tVar 1) tNil)))
def tIxI (K : PySem.W.Frag) (i : Nat) (j : Int) : TE := tOp (rIxT K) (tVar i) (tC (V.int j))
def tNarrowT (K : PySem.W.Frag) (i j : Nat) (sg : TE) : TS := tDrop (tCall (spNarrow K) [] E0 (tCons (tVar 2) (tCons (tIxI K i 2) (tCons (tCall spEnds [] E0 (tCons sg (tCons (tIxI K j 1) tNil))) tNil))))
def tBd (K : PySem.W.Frag) (w : World) (ft : Addr) : TS :=
  tIfS (tAnd (tNumT K 4) (tNumT K 5)) (tIfS (tNot (tB (tCall spIsso [] E0 (tCons (tVar 3) (tCons (tIxI K 4 1) (tCons (tIxI K 5 1) tNil)))))) (tRet (tC .non)) tNext)
    (tIfS (tAnd (tOfT K 4) (tNumT K 5)) (tNarrowT K 4 5 (tVar 3))
      (tIfS (tAnd (tNumT K 4) (tOfT K 5)) (tNarrowT K 5 4 (tOp (rIxD K w) (tC (V.ref ft)) (tVar 3))) tNext))
theorem num_run {σ : L2.St} {H : Hp} {Qb : Bool → Hp → Prop} {i : Nat} {v : V} {t : Tr} (hi : σ[i]? = some (some v)) (h : TrAt K H v t) (tm : Tm t) (q : Qb (isNumT t) H) : tNumT K i σ H Qb := by
  cases tm with
  | num h1 h2 =>
    obtain ⟨p, rfl, hp⟩ := h
    exact ⟨_, hi, p, _, _, _, rfl, rfl, hp, at0, rfl, true, by decide +kernel, q⟩
  | field h1 h2 =>
    obtain ⟨p, rfl, hp⟩ := h
    exact ⟨_, hi, p, _, _, _, rfl, rfl, hp, at0, rfl, false, by decide +kernel, q⟩
  | @bin op l r ho _ _ =>
    obtain ⟨p, x, y, rfl, hp, _⟩ := h
    have e : V.bl (decide (V.str op = V.str (Str.ofString "num"))) = V.bl false := by
      simp only [List.mem_cons, List.mem_nil_iff, or_false] at ho
      rcases ho with rfl | rfl | rfl <;> decide +kernel
    exact ⟨_, hi, p, _, _, _, rfl, rfl, hp, at0, rfl, false, e, q⟩
theorem of_run {σ : L2.St} {H : Hp} {Qb : Bool → Hp → Prop} {i : Nat} {v : V} {t : Tr} {tb : Str} (hi : σ[i]? = some (some v)) (h1 : σ[1]? = some (some (.str tb))) (h : TrAt K H v t) (tm : Tm t) (q : Qb (isOfT tb t) H) : tOfT K i σ H Qb :=
  ⟨_, hi, _, h1, v, t, tb, rfl, h, tm, _, rfl, q⟩
theorem and_run {t u : TT} {σ : L2.St} {H : Hp} {Qb : Bool → Hp → Prop} {b c : Bool} (h1 : ∀ Q : Bool → Hp → Prop, Q b H → t σ H Q) (h2 : ∀ Q : Bool → Hp → Prop, Q c H → u σ H Q) (q : Qb (b && c) H) : tAnd t u σ H Qb := by
  refine h1 _ ?_
  cases b with
  | true => exact iteT (h2 _ q)
  | false => exact iteF q
/-- the ends of what narrows are taken in -/
theorem narrow_run {D : Ends} {σ : L2.St} {H : Hp} {i j : Nat} {d pF pN : Addr} {tb t0 f op sg : Str} {n : Int} {te : TE} {kvs : List (Key × V)} {fs : List (Str × Span)} (h2 : σ[2]? = some (some (.ref d))) (hi : σ[i]? = some (some (.ref pF))) (hj : σ[j]? = some (some (.ref pN)))
    (hF : SqT K H pF [.str sField, .str t0, .str f]) (hN : SqT K H pN [.str sNum, .int n]) (hop : op ∈ signs) (ht : ∀ Q : VK, Q (.str op) H → te σ H Q) (hd : H d = some (.dK kvs)) (pr : Paired (PR (BdR K) H) kvs fs) (few : kvs.length < sizeLine)
    (go : ∀ (H' : Hp) (ks : List (Key × V)), KeepD d H H' → H' d = some (.dK ks) → Paired (PR (BdR K) H') ks (stepC fs (some (f, op, n))) → D.nx σ H') : tNarrowT K i j te D σ H := by
  refine ⟨_, h2, _, hi, pF, _, _, _, rfl, rfl, hF, atI_nat (j := 2) rfl, ?_⟩
  refine ht _ ⟨_, hj, pN, _, _, _, rfl, rfl, hN, atI_nat (j := 1) rfl, op, n, rfl, hop, fun p hp => ?_⟩
  have s1 := Same.new (o := .tup [oV (lowOf op n), oV (highOf op n)]) hp
  refine ⟨d, p, f, kvs, fs, (lowOf op n, highOf op n), rfl, s1 _ _ hd, bd_keepD hd (KeepD.of s1) pr, few, SqT.of upd_same, fun H' ks kd hk pk => go H' ks ((KeepD.of s1).trans kd) hk ?_⟩
  show Paired (PR (BdR K) H') ks (putL fs f (narrow ((fs.lookup f).getD (none, none)) op n))
  rw [narrow_add]
  exact pk
theorem turn_bd {D : Ends} {v0 v6 v7 : Option V} {tb op : Str} {d ft : Addr} {vL vR : V} {L R : Tr} {H : Hp} {kvs : List (Key × V)} {fs : List (Str × Span)} (TD : ∀ x ∈ signs, KDct K w ft x (.str (flip x))) (hop : op ∈ signs)
    (hL : TrAt K H vL L) (hR : TrAt K H vR R) (tL : Tm L) (tR : Tm R) (hd : H d = some (.dK kvs)) (pr : Paired (PR (BdR K) H) kvs fs) (few : kvs.length < sizeLine)
    (bad : falseNum (.bin op L R) = true → D.rt .non H)
    (go : falseNum (.bin op L R) = false → ∀ (H' : Hp) (ks : List (Key × V)), KeepD d H H' → H' d = some (.dK ks) → Paired (PR (BdR K) H') ks (stepC fs (con tb (.bin op L R))) → D.nx [v0, some (.str tb), some (.ref d), some (.str op), some vL, some vR, v6, v7] H') :
    tBd K w ft D [v0, some (.str tb), some (.ref d), some (.str op), some vL, some vR, v6, v7] H := by
  have same : KeepD d H H := fun _ _ _ h => h
  have fl : flip op ∈ signs := by
    rcases sign_cases hop with rfl | rfl | rfl | rfl | rfl <;> decide +kernel
  refine and_run (b := isNumT L) (c := isNumT R) (fun Q q => num_run rfl hL tL q) (fun Q q => num_run rfl hR tR q) ?_
  have two : ∀ Q : Bool → Hp → Prop, Q (isOfT tb L && isNumT R) H → tAnd (tOfT K 4) (tNumT K 5) [v0, some (.str tb), some (.ref d), some (.str op), some vL, some vR, v6, v7] H Q := fun Q q =>
    and_run (fun Q q => of_run rfl rfl hL tL q) (fun Q q => num_run rfl hR tR q) q
  have three : ∀ Q : Bool → Hp → Prop, Q (isNumT L && isOfT tb R) H → tAnd (tNumT K 4) (tOfT K 5) [v0, some (.str tb), some (.ref d), some (.str op), some vL, some vR, v6, v7] H Q := fun Q q =>
    and_run (fun Q q => num_run rfl hL tL q) (fun Q q => of_run rfl rfl hR tR q) q
  cases tL with
  | @num a l1 l2 =>
    obtain ⟨pL, rfl, hpL⟩ := hL
    cases tR with
    | @num b r1 r2 =>
      obtain ⟨pR, rfl, hpR⟩ := hR
      refine iteT ?_
      refine ⟨_, rfl, _, rfl, pL, _, _, _, rfl, rfl, hpL, atI_nat (j := 1) rfl, _, rfl, pR, _, _, _, rfl, rfl, hpR, atI_nat (j := 1) rfl, op, a, b, rfl, hop, _, rfl, ?_⟩
      have e : falseNum (.bin op (.num a) (.num b)) = !fits op a b := rfl
      rw [e] at bad go
      cases c : fits op a b with
      | true => exact iteF (go (by rw [c]; rfl) H kvs same hd pr)
      | false => exact iteT (bad (by rw [c]; rfl))
    | @field t0 f r1 r2 =>
      obtain ⟨pR, rfl, hpR⟩ := hR
      refine iteF (two _ (iteF (three _ ?_)))
      have e : con tb (.bin op (.num a) (.field t0 f)) = if t0 = tb then some (f, flip op, a) else none := rfl
      rw [e] at go
      show if (decide (t0 = tb)) = true then _ else _
      by_cases c : t0 = tb
      · rw [if_pos c] at go
        rw [if_pos (decide_eq_true c)]
        exact narrow_run (tb := tb) (sg := op) rfl rfl rfl hpR hpL fl (fun Q q => ⟨_, rfl, ft, op, _, rfl, rfl, TD op hop, q⟩) hd pr few (go rfl)
      · rw [if_neg c] at go
        rw [if_neg (fun z => c (of_decide_eq_true z))]
        exact go rfl H kvs same hd pr
    | bin _ _ _ => exact iteF (two _ (iteF (three _ (iteF (go rfl H kvs same hd pr)))))
  | @field t0 f l1 l2 =>
    obtain ⟨pL, rfl, hpL⟩ := hL
    cases tR with
    | @num b r1 r2 =>
      obtain ⟨pR, rfl, hpR⟩ := hR
      have e : con tb (.bin op (.field t0 f) (.num b)) = if t0 = tb then some (f, op, b) else none := rfl
      rw [e] at go
      refine iteF (two _ ?_)
      show if (decide (t0 = tb) && true) = true then _ else _
      by_cases c : t0 = tb
      · rw [if_pos c] at go
        rw [if_pos (by rw [decide_eq_true c]; rfl)]
        exact narrow_run (tb := tb) (sg := op) rfl rfl rfl hpL hpR hop (fun Q q => ⟨_, rfl, q⟩) hd pr few (go rfl)
      · rw [if_neg c] at go
        rw [if_neg (by rw [decide_eq_false c]; decide)]
        exact three _ (iteF (go rfl H kvs same hd pr))
    | field _ _ =>
      refine iteF (two _ ?_)
      show if (isOfT tb (.field t0 f) && false) = true then _ else _
      rw [Bool.and_false]
      exact iteF (three _ (iteF (go rfl H kvs same hd pr)))
    | bin _ _ _ =>
      refine iteF (two _ ?_)
      show if (isOfT tb (.field t0 f) && false) = true then _ else _
      rw [Bool.and_false]
      exact iteF (three _ (iteF (go rfl H kvs same hd pr)))
  | bin _ _ _ =>
    cases tR with
    | num _ _ => exact iteF (two _ (iteF (three _ (iteF (go rfl H kvs same hd pr)))))
    | field _ _ => exact iteF (two _ (iteF (three _ (iteF (go rfl H kvs same hd pr)))))
    | bin _ _ _ => exact iteF (two _ (iteF (three _ (iteF (go rfl H kvs same hd pr)))))
theorem scBounds : FnScope ["cond", "table", "told", "sign", "left", "right", "least", "greatest"] ["cond", "table"] (defScope sbounds) := ⟨rfl, rfl, rfl, by decide +kernel, rfl, by decide +kernel, by decide +kernel⟩
theorem ok_bounds {fc ft f f1 f2 f3 f4 f5 f6 : Addr} {fd fd1 fd2 fd3 fd4 fd5 fd6 : FuncData} (F : Fun K "bounds" "bounds" sbounds f fd) (TP : TxtP K w mg fc ft) (Cis_so : Cal P w K mg base 2 "is_so" ["sign", "one", "other"] spIsso f1 fd1)
    (Cmusts : Cal P w K mg base 2 "musts" ["cond"] (spMusts K) f2 fd2) (Cis_of : Cal P w K mg base 2 "is_of" ["term", "table"] (spIsof K) f3 fd3) (Cends : Cal P w K mg base 2 "ends" ["sign", "number"] spEnds f4 fd4)
    (Cnarrow : Cal P w K mg base 2 "narrow" ["told", "field", "both"] (spNarrow K) f5 fd5) (Cis_crossed : Cal P w K mg base 2 "is_crossed" ["least", "greatest"] spCrossed f6 fd6) : FnOk P w K mg base CX0 3 f fd ["cond", "table"] (spBnd K) := by
  refine F.ok scBounds (fun vs H Q E h => ?_) (fun cdv A outer s H vs Q E hr h => ?_)
  · obtain ⟨v, c, tb, rfl, _⟩ := h
    rfl
  · obtain ⟨v, c, tb, rfl, C, cd, ct, dp, hok, k1, k2⟩ := h
    have hr1 : Room 2 _ := hr.mono (by decide)
    refine ⟨_, (pss_cons (ps_set (i := 2) scBounds.nd rfl (Or.inl rfl) pe_dnewK)
      (pss_cons (ps_for PassesOwn.never rfl (RK.piL (K := K) (pe_call Cmusts.G hr1 (by rfl) Cmusts.g Cmusts.kp Cmusts.b .nil pass0 (pa_cons (pv 0) pa_nil))) (RK.pgTup (K := K) (n := 3) rfl (pgs_cons (pg_name (i := 3) scBounds.nd rfl (Or.inl rfl)) (pgs_cons (pg_name (i := 4) scBounds.nd rfl (Or.inl rfl)) (pgs_cons (pg_name (i := 5) scBounds.nd rfl (Or.inl rfl)) pgs_nil))))
        (pss_one (ps_if (PW.pt (pw_and (pt_cmpR op_eq (pe_ix (RK.ixT (K := K)) (pv 4) pe_int (fun _ _ => rfl)) pe_str (nomark _)) (pw_and1 (pt_cmpR op_eq (pe_ix (RK.ixT (K := K)) (pv 5) pe_int (fun _ _ => rfl)) pe_str (nomark _))))) (pss_one (ps_if (pt_not (pt_val (pe_call Cis_so.G hr1 (by rfl) Cis_so.g Cis_so.kp Cis_so.b .nil pass0 (pa_cons (pv 3) (pa_cons (pe_ix (RK.ixT (K := K)) (pv 4) pe_int (fun _ _ => rfl)) (pa_cons (pe_ix (RK.ixT (K := K)) (pv 5) pe_int (fun _ _ => rfl)) pa_nil)))))) (pss_one (ps_ret pe_non)) pss_nil)) (pss_one (ps_if (PW.pt (pw_and (pt_val (pe_call Cis_of.G hr1 (by rfl) Cis_of.g Cis_of.kp Cis_of.b .nil pass0 (pa_cons (pv 4) (pa_cons (pv 1) pa_nil)))) (pw_and1 (pt_cmpR op_eq (pe_ix (RK.ixT (K := K)) (pv 5) pe_int (fun _ _ => rfl)) pe_str (nomark _))))) (pss_one (ps_expr (pe_call Cnarrow.G hr1 (by rfl) Cnarrow.g Cnarrow.kp Cnarrow.b .nil pass0 (pa_cons (pv 2) (pa_cons (pe_ix (RK.ixT (K := K)) (pv 4) pe_int (fun _ _ => rfl)) (pa_cons (pe_call Cends.G hr1 (by rfl) Cends.g Cends.kp Cends.b .nil pass0 (pa_cons (pv 3) (pa_cons (pe_ix (RK.ixT (K := K)) (pv 5) pe_int (fun _ _ => rfl)) pa_nil))) pa_nil)))))) (pss_one (ps_if (PW.pt (pw_and (pt_cmpR op_eq (pe_ix (RK.ixT (K := K)) (pv 4) pe_int (fun _ _ => rfl)) pe_str (nomark _)) (pw_and1 (pt_val (pe_call Cis_of.G hr1 (by rfl) Cis_of.g Cis_of.kp Cis_of.b .nil pass0 (pa_cons (pv 5) (pa_cons (pv 1) pa_nil))))))) (pss_one (ps_expr (pe_call Cnarrow.G hr1 (by rfl) Cnarrow.g Cnarrow.kp Cnarrow.b .nil pass0 (pa_cons (pv 2) (pa_cons (pe_ix (RK.ixT (K := K)) (pv 5) pe_int (fun _ _ => rfl)) (pa_cons (pe_call Cends.G hr1 (by rfl) Cends.g Cends.kp Cends.b .nil pass0 (pa_cons (pe_ix ix_kdict (pe_glob (v := .ref ft) (by rfl) TP.turn rfl) (pv 3) (fun _ _ => rfl)) (pa_cons (pe_ix (RK.ixT (K := K)) (pv 4) pe_int (fun _ _ => rfl)) pa_nil))) pa_nil)))))) pss_nil)))))))
      (pss_cons (ps_if (pt_val (pe_callB (RK.anyQ (K := K) rfl) (by rfl) TP.any (by decide +kernel) (pa_cons (pe_lock (pe_lc (own := [("least", 6), ("greatest", 7)]) rfl scBounds.nd (pi_values (pv 2)) (blkOk_by (N := ["cond", "table", "told", "sign", "left", "right", "least", "greatest"]) (sc := defScope sbounds) (by decide +kernel)) (fun _ _ _ _ _ => (RK.pgTup (K := K) (n := 2) rfl (pgs_cons (pg_name (i := 6) scBounds.nd rfl (Or.inl rfl)) (pgs_cons (pg_name (i := 7) scBounds.nd rfl (Or.inl rfl)) pgs_nil)))) (fun _ _ _ _ _ => pts_nil) (fun _ _ _ _ _ => (pe_call Cis_crossed.G hr1 (by rfl) Cis_crossed.g Cis_crossed.kp Cis_crossed.b .nil pass0 (pa_cons (pv 6) (pa_cons (pv 7) pa_nil)))))) pa_nil))) (pss_one (ps_ret pe_non)) pss_nil)
      (pss_one (ps_ret (pv 2)))))), ?_⟩
    intro d hd
    have s0 := Same.new (o := .dK []) hd
    refine gn ?_
    refine ⟨_, rfl, v, c, rfl, C.keep (KeepN.of s0), cd, dp, fun r H1 us s1 hr0 h1 p1 => ?_⟩
    have hd1 : H1 d = some (.dK []) := s1 _ _ upd_same
    have rd : r ≠ d := fun e => by rw [e, upd_same] at hr0; cases hr0
    have small : (partsO c).length ≤ 2 ^ 16 := by
      cases c with
      | none => exact Nat.zero_le _
      | some t => exact Nat.le_trans (parts_len t) (Nat.pow_le_pow_right (by decide) (Nat.le_of_lt dp))
    have lu : us.length = (partsO c).length := Paired.length p1
    have found := okS_found (tb := tb) (partsO c) ct
    refine ⟨r, rfl, ⟨_, SqL.of h1⟩, for_list (K := K) (a := r) (xs := us) (fun i σ H' => ∃ v3 v4 v5 kvs, σ = [some v, some (.str tb), some (.ref d), v3, v4, v5, none, none] ∧ KeepD d H1 H' ∧ H' d = some (.dK kvs) ∧
      Paired (PR (BdR K) H') kvs (foundL tb ((partsO c).take i)) ∧ ((partsO c).take i).any falseNum = false)
      ⟨none, none, none, [], rfl, fun _ _ _ h => h, hd1, .nil, rfl⟩ (fun i σ H' _ ⟨_, _, _, _, _, kd, _⟩ => SqL.of (kd _ _ rd h1)) ?_ ?_⟩
    · rintro i x σ H' hx ⟨v3, v4, v5, kvs, rfl, kd, hdd, pr, nf⟩
      have hi : i < (partsO c).length := by have q := (List.getElem?_eq_some_iff.mp hx).1; omega
      obtain ⟨op, L, R, ep, hop, tL, tR, _, _⟩ := ct _ (List.getElem_mem hi)
      have hx1 : TrAt K H1 x (.bin op L R) := by
        obtain ⟨y, e, ht⟩ := pair_get p1 hi
        rw [hx] at e
        cases e
        rw [ep] at ht
        exact ht
      obtain ⟨p, xL, xR, rfl, hp, hL, hR⟩ := TrAt.mono (fun t xs z => sqT_keepD z hd1 kd) hx1
      refine ⟨p, _, rfl, hp, rfl, _, _, rfl, _, _, rfl, _, _, rfl, rfl, ?_⟩
      have tk : (partsO c).take (i + 1) = (partsO c).take i ++ [.bin op L R] := by rw [List.take_add_one, List.getElem?_eq_getElem hi, ep]; rfl
      have fl : foundL tb ((partsO c).take (i + 1)) = stepC (foundL tb ((partsO c).take i)) (con tb (.bin op L R)) := by
        unfold foundL
        rw [tk, List.foldl_append]
        rfl
      have few : kvs.length < sizeLine := by
        have := (okS_found (tb := tb) ((partsO c).take i) fun z m => ct z (List.mem_of_mem_take m)).2.2
        have e2 := pr_len pr
        rw [List.length_take] at this
        exact Nat.lt_of_le_of_lt (show kvs.length ≤ 2 ^ 16 by omega) (by decide)
      refine turn_bd (K := K) TP.turnD hop hL hR tL tR hdd pr few (fun b => ?_) (fun b H2 ks kd2 hk pk => ?_)
      · have bd : Bad tb (partsO c) = true := by
          unfold Bad
          rw [Bool.or_eq_true]
          refine .inl (List.any_eq_true.mpr ⟨_, List.getElem_mem hi, ?_⟩)
          rw [ep]
          exact b
        exact k1 bd _ (same_of hd (s0.trans s1) kd)
      · refine ⟨_, _, _, ks, rfl, kd.trans kd2, hk, ?_, ?_⟩
        · rw [fl]
          exact pk
        · rw [tk, List.any_append, nf]
          show (false || (falseNum (.bin op L R) || false)) = false
          rw [b]
          rfl
    · rintro σ H' ⟨v3, v4, v5, kvs, rfl, kd, hdd, pr, nf⟩
      rw [lu, List.take_length] at pr nf
      have sm := same_of hd (s0.trans s1) kd
      dsimp only
      refine sif ?_
      refine ⟨d, _, hdd, trivial, fun od => ?_⟩
      refine ⟨_, rfl, d, od, kvs, rfl, upd_same, fun D hD => ?_⟩
      have hne : D ≠ d := fun e => by rw [e, upd_same] at hD; cases hD
      have len : kvs.length = (foundL tb (partsO c)).length := pr_len pr
      have few : (foundL tb (partsO c)).length ≤ 2 ^ 16 := Nat.le_trans found.2.2 small
      refine lc_it (walk_values (kvs := kvs)) (fun i H2 => i ≤ kvs.length ∧ H2 = upd (upd H' d (.frz od (.dK kvs))) D (.lst ((((foundL tb (partsO c)).take i).map fun p => gap p.2).map V.bl))) ⟨Nat.zero_le _, rfl⟩ ?_ ?_ ?_
      · rintro i H2 _ ⟨_, rfl⟩
        rw [upd_ne hne.symm, upd_same]
      · rintro i x H0 H2 hi ⟨_, rfl⟩ ⟨rfl, k0, hx⟩
        have hi2 : i < (foundL tb (partsO c)).length := len ▸ hi
        obtain ⟨kv, hkv, _, t, et, ht⟩ := pair_get pr hi2
        rw [hkv] at hx
        cases hx
        subst et
        have ht2 : SqT K (upd (upd H' d (.frz od (.dK kvs))) D (.lst ((((foundL tb (partsO c)).take i).map fun p => gap p.2).map V.bl))) t [oV (foundL tb (partsO c))[i].2.1, oV (foundL tb (partsO c))[i].2.2] :=
          (KeepN.of (Same.new hD)).t (sqT_keepD ht hdd fun x o n q => by rw [upd_ne n]; exact q)
        refine ⟨t, _, rfl, ht2, rfl, _, _, rfl, _, _, rfl, rfl, rfl, ?_⟩
        refine ⟨_, rfl, _, rfl, (foundL tb (partsO c))[i].2.1, (foundL tb (partsO c))[i].2.2, rfl, _, upd_same, ?_, hi, ?_⟩
        · rw [List.length_map, List.length_map, List.length_take]
          exact Nat.lt_of_le_of_lt (show min i _ ≤ 2 ^ 16 by omega) (by decide)
        · rw [upd_upd]
          have tk : (foundL tb (partsO c)).take (i + 1) = (foundL tb (partsO c)).take i ++ [(foundL tb (partsO c))[i]] := by rw [List.take_add_one, List.getElem?_eq_getElem hi2]; rfl
          rw [tk, List.map_append, List.map_append]
          rfl
      · rintro H2 ⟨_, rfl⟩
        rw [len, List.take_length]
        refine ⟨by rw [upd_ne hne.symm, upd_same], D, _, rfl, SqL.of (by rw [upd_ne hne, upd_same]), _, rfl, ?_⟩
        have e : ((foundL tb (partsO c)).map fun p => gap p.2).any id = (foundL tb (partsO c)).any fun p => gap p.2 := by
          rw [List.any_map]
          rfl
        rw [e]
        have sb : Same H (upd (upd (upd H' d (.frz od (.dK kvs))) D (.lst (((foundL tb (partsO c)).map fun p => gap p.2).map V.bl))) d (.dK kvs)) := sm.trans (same_back hdd hD)
        have be : Bad tb (partsO c) = (foundL tb (partsO c)).any fun p => gap p.2 := by
          unfold Bad
          rw [nf]
          rfl
        rw [be] at k1 k2
        cases g : (foundL tb (partsO c)).any fun p => gap p.2 with
        | true => exact iteT (k1 g _ sb)
        | false =>
          refine iteF ⟨_, rfl, ?_⟩
          refine k2 g d _ (foundL tb (partsO c)) sb hd ⟨kvs, upd_same, ?_⟩ found.2.1 (look_found tb (partsO c))
          exact bd_keepD hdd (KeepD.of (same_back hdd hD)) pr
end
end K25

set_option maxRecDepth 100000
set_option maxHeartbeats 1000000
namespace K25
open PySem L2

/-! ### spans that are met -/
theorem max0 (b : Option Int) : maxO none b = b := by cases b <;> rfl
theorem min0 (b : Option Int) : minO none b = b := by cases b <;> rfl
theorem maxA (a b c : Option Int) : maxO (maxO a b) c = maxO a (maxO b c) := by
  cases a <;> cases b <;> cases c <;> simp only [maxO, Option.some.injEq] <;> (repeat' split) <;> omega
theorem minA (a b c : Option Int) : minO (minO a b) c = minO a (minO b c) := by
  cases a <;> cases b <;> cases c <;> simp only [minO, Option.some.injEq] <;> (repeat' split) <;> omega
theorem maxC (a b : Option Int) : maxO a b = maxO b a := by
  cases a <;> cases b <;> simp only [maxO, Option.some.injEq] <;> (repeat' split) <;> omega
theorem minC (a b : Option Int) : minO a b = minO b a := by
  cases a <;> cases b <;> simp only [minO, Option.some.injEq] <;> (repeat' split) <;> omega
def joinS (a b : Span) : Span := (maxO a.1 b.1, minO a.2 b.2)
def joinO : Option Span → Option Span → Option Span
  | none, b => b
  | some a, none => some a
  | some a, some b => some (joinS a b)
theorem join0 (b : Option Span) : joinO b none = b := by cases b <;> rfl
theorem joinC (a b : Option Span) : joinO a b = joinO b a := by
  cases a <;> cases b <;> simp only [joinO, joinS, maxC, minC]
theorem joinA (a b c : Option Span) : joinO (joinO a b) c = joinO a (joinO b c) := by
  cases a <;> cases b <;> cases c <;> simp only [joinO, joinS, maxA, minA]
theorem specS_join (tb f : Str) (o : Option Span) (p : Tr) : specS tb f o p = joinO o (specS tb f none p) := by
  unfold specS
  cases con tb p with
  | none => exact (join0 o).symm
  | some q =>
    obtain ⟨g, op, n⟩ := q
    dsimp only
    split
    · unfold narrow
      cases o with
      | none => rfl
      | some s => simp only [joinO, joinS, Option.getD, max0, min0]
    · exact (join0 o).symm
theorem fold_join (tb f : Str) : ∀ (ps : List Tr) (o : Option Span), ps.foldl (specS tb f) o = joinO o (ps.foldl (specS tb f) none)
  | [], o => (join0 o).symm
  | p :: r, o => by
    rw [List.foldl_cons, List.foldl_cons, fold_join tb f r, fold_join tb f r (specS tb f none p), specS_join, joinA]
theorem spec_app (tb f : Str) (p q : List Tr) : specF tb (p ++ q) f = joinO (specF tb p f) (specF tb q f) := by
  unfold specF
  rw [List.foldl_append, fold_join]
theorem found_nodup (tb : Str) (ps : List Tr) : ((foundL tb ps).map (·.1)).Nodup := by
  have key : ∀ (ps : List Tr) (fs : List (Str × Span)), (fs.map (·.1)).Nodup → ((ps.foldl (fun fs p => stepC fs (con tb p)) fs).map (·.1)).Nodup := by
    intro ps
    induction ps with
    | nil => intro fs h; exact h
    | cons p r ih =>
      intro fs h
      rw [List.foldl_cons]
      refine ih _ ?_
      cases con tb p with
      | none => exact h
      | some q =>
        obtain ⟨g, op, n⟩ := q
        exact nodup_put h
  exact key ps [] List.nodup_nil
theorem look_nd {β : Type} {cs : List (Str × β)} {t : Str} {n : β} (nd : (cs.map (·.1)).Nodup) (h : (t, n) ∈ cs) : cs.lookup t = some n := by
  induction cs with
  | nil => cases h
  | cons q r ih =>
    obtain ⟨g, y⟩ := q
    rw [List.map_cons, List.nodup_cons] at nd
    rcases List.mem_cons.mp h with e | m
    · cases e
      simp [List.lookup]
    · have ne : ¬ t = g := fun e => nd.1 (e ▸ List.mem_map.mpr ⟨(t, n), m, rfl⟩)
      have nb : (t == g) = false := by simpa using ne
      simp only [List.lookup, nb]
      exact ih nd.2 m
theorem look_in {β : Type} {cs : List (Str × β)} {t : Str} (h : t ∈ cs.map (·.1)) : ∃ n, cs.lookup t = some n := by
  induction cs with
  | nil => cases h
  | cons q r ih =>
    obtain ⟨g, y⟩ := q
    by_cases e : t = g
    · subst e
      exact ⟨y, by simp [List.lookup]⟩
    · have nb : (t == g) = false := by simpa using e
      rw [List.map_cons, List.mem_cons] at h
      obtain ⟨n, hn⟩ := ih (h.resolve_left e)
      exact ⟨n, by simp only [List.lookup, nb]; exact hn⟩
theorem in_look {β : Type} {cs : List (Str × β)} {t : Str} {n : β} (h : cs.lookup t = some n) : t ∈ cs.map (·.1) := List.mem_map.mpr ⟨(t, n), look_memG h, rfl⟩
theorem bad_iff (tb : Str) (ps : List Tr) : Bad tb ps = true ↔ ps.any falseNum = true ∨ ∃ f s, specF tb ps f = some s ∧ gap s = true := by
  unfold Bad
  rw [Bool.or_eq_true]
  refine or_congr Iff.rfl ?_
  rw [List.any_eq_true]
  constructor
  · rintro ⟨⟨f, s⟩, m, g⟩
    exact ⟨f, s, by rw [← look_found]; exact look_nd (found_nodup tb ps) m, g⟩
  · rintro ⟨f, s, h, g⟩
    rw [← look_found] at h
    exact ⟨(f, s), look_memG h, g⟩
theorem gap_join {a b : Span} (h : gap a = true) : gap (joinS a b) = true := by
  obtain ⟨a1, a2⟩ := a
  obtain ⟨b1, b2⟩ := b
  cases a1 with
  | none => cases h
  | some x =>
    cases a2 with
    | none => cases h
    | some y =>
      have h : decide (y < x) = true := h
      have h := of_decide_eq_true h
      cases b1 <;> cases b2 <;> simp only [joinS, maxO, minO, gap, decide_eq_true_eq] <;> (repeat' split) <;> omega
theorem gap_joinO {a b : Option Span} {s : Span} (h : a = some s) (g : gap s = true) : ∃ t, joinO a b = some t ∧ gap t = true := by
  subst h
  cases b with
  | none => exact ⟨s, rfl, g⟩
  | some b => exact ⟨_, rfl, gap_join g⟩
theorem bad_app (tb : Str) (p q : List Tr) : Bad tb (p ++ q) = true ↔ Bad tb p = true ∨ Bad tb q = true ∨ ∃ f s, joinO (specF tb p f) (specF tb q f) = some s ∧ gap s = true := by
  rw [bad_iff, bad_iff, bad_iff, List.any_append, Bool.or_eq_true]
  simp only [spec_app]
  constructor
  · rintro ((h | h) | h)
    · exact .inl (.inl h)
    · exact .inr (.inl (.inl h))
    · exact .inr (.inr h)
  · rintro ((h | ⟨f, s, h, g⟩) | (h | ⟨f, s, h, g⟩) | h)
    · exact .inl (.inl h)
    · obtain ⟨t, e, g'⟩ := gap_joinO (b := specF tb q f) h g
      exact .inr ⟨f, t, e, g'⟩
    · exact .inl (.inr h)
    · obtain ⟨t, e, g'⟩ := gap_joinO (b := specF tb p f) h g
      exact .inr ⟨f, t, by rw [joinC]; exact e, g'⟩
    · exact .inr h
/-! ### what bounds say -/
/-- None, or a dict of spans -/
def OB (K : PySem.W.Frag) (H : Hp) (v : V) : Option (List (Str × Span)) → Prop
  | none => v = .non
  | some bs => ∃ d, v = .ref d ∧ BndAt K H d bs ∧ (bs.map (·.1)).Nodup ∧ ∀ f ∈ bs.map (·.1), f ∈ flds
theorem OB.keep {K : PySem.W.Frag} {H H' : Hp} (k : KeepN H H') {v : V} : ∀ {o : Option (List (Str × Span))}, OB K H v o → OB K H' v o
  | none, h => h
  | some _, ⟨d, e, b, n, f⟩ => ⟨d, e, b.keep k, n, f⟩
def lkO (o : Option (List (Str × Span))) (f : Str) : Option Span := (o.getD []).lookup f
/-- o says what the parts ps say of tb -/
def Says (tb : Str) (ps : List Tr) : Option (List (Str × Span)) → Prop
  | none => Bad tb ps = true
  | some bs => Bad tb ps = false ∧ ∀ f, bs.lookup f = specF tb ps f
/-- what both say -/
def Both (o1 o2 o : Option (List (Str × Span))) : Prop := match o with
  | none => o1 = none ∨ o2 = none ∨ ∃ f s, joinO (lkO o1 f) (lkO o2 f) = some s ∧ gap s = true
  | some bs => o1 ≠ none ∧ o2 ≠ none ∧ (∀ f s, joinO (lkO o1 f) (lkO o2 f) = some s → gap s = false) ∧ ∀ f, bs.lookup f = joinO (lkO o1 f) (lkO o2 f)
theorem says_both {tb : Str} {p q : List Tr} {o1 o2 o : Option (List (Str × Span))} (h1 : Says tb p o1) (h2 : Says tb q o2) (h : Both o1 o2 o) : Says tb (p ++ q) o := by
  have l1 : ∀ bs, o1 = some bs → ∀ f, lkO o1 f = specF tb p f := fun bs e f => by subst e; exact h1.2 f
  have l2 : ∀ bs, o2 = some bs → ∀ f, lkO o2 f = specF tb q f := fun bs e f => by subst e; exact h2.2 f
  cases o with
  | none =>
    show Bad tb (p ++ q) = true
    rw [bad_app]
    cases o1 with
    | none => exact .inl h1
    | some b1 =>
      cases o2 with
      | none => exact .inr (.inl h2)
      | some b2 =>
        rcases h with h | h | ⟨f, s, e, g⟩
        · cases h
        · cases h
        · rw [l1 _ rfl, l2 _ rfl] at e
          exact .inr (.inr ⟨f, s, e, g⟩)
  | some bs =>
    obtain ⟨n1, n2, ng, lk⟩ := h
    cases o1 with
    | none => exact absurd rfl n1
    | some b1 =>
      cases o2 with
      | none => exact absurd rfl n2
      | some b2 =>
        refine ⟨?_, fun f => ?_⟩
        · cases hb : Bad tb (p ++ q) with
          | false => rfl
          | true =>
            rcases (bad_app tb p q).mp hb with z | z | ⟨f, s, e, g⟩
            · rw [h1.1] at z; cases z
            · rw [h2.1] at z; cases z
            · have := ng f s (by rw [l1 _ rfl, l2 _ rfl]; exact e)
              rw [g] at this
              cases this
        · rw [lk, spec_app, l1 _ rfl, l2 _ rfl]
theorem both_comm {o1 o2 o : Option (List (Str × Span))} (h : Both o1 o2 o) : Both o2 o1 o := by
  cases o with
  | none =>
    rcases h with h | h | ⟨f, s, e, g⟩
    · exact .inr (.inl h)
    · exact .inl h
    · exact .inr (.inr ⟨f, s, by rw [joinC]; exact e, g⟩)
  | some bs => exact ⟨h.2.1, h.1, fun f s e => h.2.2.1 f s (by rw [joinC]; exact e), fun f => by rw [h.2.2.2, joinC]⟩
/-- two that say the same parts -/
theorem says_same {tb : Str} {ps : List Tr} {o1 o2 : Option (List (Str × Span))} (h1 : Says tb ps o1) (h2 : Says tb ps o2) : (o1 = none ∧ o2 = none) ∨ ∃ b1 b2, o1 = some b1 ∧ o2 = some b2 ∧ ∀ f, b1.lookup f = b2.lookup f := by
  cases o1 with
  | none =>
    cases o2 with
    | none => exact .inl ⟨rfl, rfl⟩
    | some b2 => have h1 : Bad tb ps = true := h1; rw [h2.1] at h1; cases h1
  | some b1 =>
    cases o2 with
    | none => have h2 : Bad tb ps = true := h2; rw [h1.1] at h2; cases h2
    | some b2 => exact .inr ⟨b1, b2, rfl, rfl, fun f => by rw [h1.2, h2.2]⟩
/-! ### the fields' names -/
def CdF (ps : List Tr) : Prop := ∀ p ∈ ps, ∀ tb g op n, con tb p = some (g, op, n) → g ∈ flds
theorem CdF.app {p q : List Tr} (h : CdF p) (k : CdF q) : CdF (p ++ q) := fun x m => (List.mem_append.mp m).elim (h x) (k x)
theorem con_fl {fl : List (Str × Str)} {op : Str} {l r : Tr} (hl : IsTm fl l) (hr : IsTm fl r) {tb g o : Str} {n : Int} (h : con tb (.bin op l r) = some (g, o, n)) : ∃ t, (t, g) ∈ fl := by
  cases hl with
  | num _ _ =>
    obtain ⟨t, e1, _⟩ := conW_some (show conW tb (flip op) r (.num _) = some (g, o, n) from h)
    subst e1
    cases hr with
    | field m => exact ⟨_, m⟩
  | field m =>
    obtain ⟨t, e1, _⟩ := conW_some (show conW tb op (.field _ _) r = some (g, o, n) from h)
    injection e1 with e1 e2
    subst e2
    exact ⟨_, m⟩
  | bin _ _ _ =>
    have h' : (none : Option (Str × Str × Int)) = some (g, o, n) := h
    cases h'
theorem CdF.of {fl : List (Str × Str)} (ok : ∀ q ∈ fl, q.2 ∈ flds) {t : Tr} (h : IsCd fl t) : CdF (parts t) := by
  induction h with
  | cmp h l r =>
    rename_i op lt rt
    intro p m
    have e : parts (.bin op lt rt) = [.bin op lt rt] := by
      show (if op = sAnd then parts lt ++ parts rt else if op = sOr then [] else [.bin op lt rt]) = _
      have n1 : ¬ op = sAnd := fun e => by subst e; revert h; decide +kernel
      have n2 : ¬ op = sOr := fun e => by subst e; revert h; decide +kernel
      rw [if_neg n1, if_neg n2]
    rw [e, List.mem_singleton] at m
    subst m
    intro tb g o n hc
    obtain ⟨t, m⟩ := con_fl l r hc
    exact ok _ m
  | join h _ _ l r =>
    rename_i op lt rt _ _
    show CdF (if op = sAnd then parts lt ++ parts rt else if op = sOr then [] else [.bin op lt rt])
    rcases List.mem_cons.mp h with e | h
    · subst e
      rw [if_pos rfl]
      exact l.app r
    · have e := List.mem_singleton.mp h
      subst e
      rw [if_neg (by decide +kernel), if_pos rfl]
      exact fun p m => by cases m
  | not _ _ => exact fun p m => by cases m
theorem spec_fld {tb f : Str} {ps : List Tr} (h : CdF ps) {s : Span} (e : specF tb ps f = some s) : f ∈ flds := by
  have key : ∀ (ps : List Tr) (o : Option Span), CdF ps → ps.foldl (specS tb f) o = some s → o = none → f ∈ flds := by
    intro ps
    induction ps with
    | nil => intro o _ e n; rw [n] at e; cases e
    | cons p r ih =>
      intro o h e n
      subst n
      rw [List.foldl_cons] at e
      cases hs : specS tb f none p with
      | none =>
        rw [hs] at e
        exact ih none (fun x m => h x (List.mem_cons_of_mem _ m)) e rfl
      | some x =>
        unfold specS at hs
        cases hc : con tb p with
        | none => rw [hc] at hs; cases hs
        | some q =>
          obtain ⟨g, op, n⟩ := q
          rw [hc] at hs
          dsimp only at hs
          split at hs
          · rename_i eg
            rw [eg]
            exact h p List.mem_cons_self tb g op n hc
          · cases hs
  exact key ps none h e rfl
theorem fl_names {sh : List (Str × List Str)} (I : IsShapes sh) {ts : List Str} : ∀ q ∈ flOf sh ts, q.2 ∈ flds := by
  intro q m
  unfold flOf at m
  rw [List.mem_flatMap] at m
  obtain ⟨t, _, m2⟩ := m
  cases hl : sh.lookup t with
  | none => rw [hl] at m2; simp at m2
  | some fs =>
    rw [hl] at m2
    obtain ⟨f, mf, rfl⟩ := List.mem_map.mp m2
    obtain ⟨k, _, _, e⟩ := I.fs _ (look_memG hl)
    have e : fs = flds.take k := e
    have mf : f ∈ fs := mf
    rw [e] at mf
    exact List.mem_of_mem_take mf
end K25

set_option maxRecDepth 100000
set_option maxHeartbeats 4000000
namespace K25
open PySem L2
structure TxtS (mg : Str → Option Value) : Prop extends Txt mg where
  set : mg "set" = none
  sorted : mg "sorted" = none
  min : mg "min" = none
def spBoth (K : PySem.W.Frag) : Sp := fun vs H Q _ => ∃ (v1 v2 : V) (o1 o2 : Option (List (Str × Span))), vs = [v1, v2] ∧ OB K H v1 o1 ∧ OB K H v2 o2 ∧
  ∀ (v : V) (H' : Hp) (o : Option (List (Str × Span))), Same H H' → OB K H' v o → Both o1 o2 o → Q v H'
theorem nodup_len {α : Type} [DecidableEq α] : ∀ {l m : List α}, l.Nodup → (∀ x ∈ l, x ∈ m) → l.length ≤ m.length
  | [], _, _, _ => Nat.zero_le _
  | a :: l, m, n, h => by
    rw [List.nodup_cons] at n
    have ih := nodup_len (l := l) (m := m.erase a) n.2 fun x hx => by
      have : x ≠ a := fun e => n.1 (e ▸ hx)
      exact (List.mem_erase_of_ne this).mpr (h x (List.mem_cons_of_mem _ hx))
    have ha : a ∈ m := h a List.mem_cons_self
    have pos : 0 < m.length := List.length_pos_of_mem ha
    rw [List.length_erase_of_mem ha] at ih
    rw [List.length_cons]
    omega
def oL (a b : Option Int) : List Int := a.toList ++ b.toList
theorem max_oL {a b : Option Int} {m : Int} (h : m ∈ oL a b) (g : ∀ y ∈ oL a b, y ≤ m) : maxO a b = some m := by
  cases a <;> cases b <;> simp only [oL, Option.toList, List.nil_append, List.append_nil, List.mem_append, List.mem_singleton, List.not_mem_nil, List.singleton_append, List.mem_cons, or_false] at h g
  · rw [h]; rfl
  · rw [h]; rfl
  · rename_i x y
    have g1 := g x (.inl rfl)
    have g2 := g y (.inr rfl)
    simp only [maxO, Option.some.injEq]
    split <;> omega
theorem min_oL {a b : Option Int} {m : Int} (h : m ∈ oL a b) (g : ∀ y ∈ oL a b, m ≤ y) : minO a b = some m := by
  cases a <;> cases b <;> simp only [oL, Option.toList, List.nil_append, List.append_nil, List.mem_append, List.mem_singleton, List.not_mem_nil, List.singleton_append, List.mem_cons, or_false] at h g
  · rw [h]; rfl
  · rw [h]; rfl
  · rename_i x y
    have g1 := g x (.inl rfl)
    have g2 := g y (.inr rfl)
    simp only [minO, Option.some.injEq]
    split <;> omega
theorem oL_nil {a b : Option Int} (h : oL a b = []) : a = none ∧ b = none := by
  cases a <;> cases b <;> simp [oL] at h ⊢
theorem oL_len (a b : Option Int) : (oL a b).length ≤ 2 := by cases a <;> cases b <;> simp [oL]
theorem jn_eq (a b : Option Span) : (joinO a b).getD (none, none) = joinS (a.getD (none, none)) (b.getD (none, none)) := by
  cases a with
  | none =>
    cases b with
    | none => rfl
    | some s =>
      show s = (maxO none s.1, minO none s.2)
      rw [max0, min0]
  | some s =>
    cases b with
    | none =>
      obtain ⟨x, y⟩ := s
      cases x <;> cases y <;> rfl
    | some t => rfl
theorem ints_dpA {K : PySem.W.Frag} {H : Hp} : ∀ ns : List Int, DpAll K H (ns.map V.int) (ns.map PyData.int)
  | [] => .nil
  | x :: r => .cons (.int x) (ints_dpA r)
theorem ints_lay : ∀ ns : List Int, PyData.canLayAll0 (ns.map PyData.int) = true ∧ PyData.depthAll (ns.map PyData.int) = 0
  | [] => by simp [PyData.canLayAll0, PyData.depthAll]
  | x :: r => by
    obtain ⟨h1, h2⟩ := ints_lay r
    exact ⟨by simp [PyData.canLayAll0, PyData.canLay0, h1], by simp [PyData.depthAll, PyData.depth, h2]⟩
theorem ints_shaped (ns : List Int) : SeqAt.shaped (.list (ns.map PyData.int)) = true := by
  obtain ⟨h1, h2⟩ := ints_lay ns
  refine shaped_of (by simp only [PyData.canLay0]; exact h1) ?_
  simp only [PyData.depth]
  omega
theorem eqv_nilI (ns : List Int) : PyData.eqv (.list (ns.map PyData.int)) (.list []) = decide (ns = []) := by
  cases ns <;> simp [PyData.eqv, PyData.eqvAll]
theorem keys_inr {K : PySem.W.Frag} {H : Hp} {kvs : List (Key × V)} {bs : List (Str × Span)} (p : Paired (PR (BdR K) H) kvs bs) : kvs.map (·.1) = (bs.map (·.1)).map Sum.inr := by
  induction p with
  | nil => rfl
  | cons h _ ih =>
    rw [List.map_cons, List.map_cons, List.map_cons, ih]
    exact congrArg (· :: _) h.1
theorem look_fun {g : Str → Span} : ∀ (ns : List Str) (f : Str), (ns.map fun f => (f, g f)).lookup f = if f ∈ ns then some (g f) else none
  | [], _ => by simp
  | x :: r, f => by
    by_cases e : f = x
    · subst e
      simp [List.lookup]
    · have nb : (f == x) = false := by simpa using e
      rw [List.map_cons]
      simp only [List.lookup, nb]
      rw [look_fun r f]
      simp [e]
section
variable {P : Program} {w : World} {K : PySem.W.Frag} {mg : Str → Option Value} {base : Heap}
/-- sorted(set(one) | set(other)) -/
theorem te_names {σ : L2.St} {H : Hp} {Q : VK} {d1 d2 : Addr} {bs1 bs2 : List (Str × Span)} {kvs1 kvs2 : List (Key × V)} (h0 : σ[0]? = some (some (.ref d1))) (h1 : σ[1]? = some (some (.ref d2))) (hd1 : H d1 = some (.dK kvs1)) (hd2 : H d2 = some (.dK kvs2))
    (pr1 : Paired (PR (BdR K) H) kvs1 bs1) (pr2 : Paired (PR (BdR K) H) kvs2 bs2) (len1 : (bs1.map (·.1)).length ≤ 4) (len2 : (bs2.map (·.1)).length ≤ 4)
    (k : ∀ (p : Addr) (ns : List Str) (H' : Hp), Same H H' → H' p = some (.lst (ns.map V.str)) → ns.Nodup → ns.length ≤ 8 → (∀ f, f ∈ ns ↔ f ∈ bs1.map (·.1) ∨ f ∈ bs2.map (·.1)) → Q (.ref p) H') :
    tCB (ST.rSortS w) (tCons (tOp (ST.rOrS w) (tCB (ST.rSetD w) (tCons (tVar 0) tNil)) (tCB (ST.rSetD w) (tCons (tVar 1) tNil))) tNil) σ H Q := by
  refine ⟨_, h0, d1, kvs1, bs1.map (·.1), rfl, hd1, keys_inr pr1, len1, fun p1 l1 hp1 nl1 ml1 ll1 => ?_⟩
  have s1 := Same.new (o := ST.SetH w p1 l1) hp1
  refine ⟨_, h1, d2, kvs2, bs2.map (·.1), rfl, s1 _ _ hd2, keys_inr pr2, len2, fun p2 l2 hp2 nl2 ml2 ll2 => ?_⟩
  have s2 := Same.new (o := ST.SetH w p2 l2) hp2
  refine ⟨p1, p2, l1, l2, rfl, rfl, s2 _ _ upd_same, upd_same, ne_of_none (upd_same (H := H)) hp2, ll1, ll2, nl1, nl2, fun p3 l3 hp3 nl3 ml3 ll3 => ?_⟩
  have s3 := Same.new (o := ST.SetH w p3 l3) hp3
  refine ⟨p3, l3, rfl, upd_same, by omega, fun ns p4 pm hp4 => ?_⟩
  have s4 := Same.new (o := .lst (ns.map V.str)) hp4
  exact k p4 ns _ (s1.trans (s2.trans (s3.trans s4))) upd_same (pm.nodup_iff.mpr nl3) (by rw [pm.length_eq]; exact ll3) fun f => by rw [pm.mem_iff, ml3, ml1, ml2]
/-- one.get(field, (None, None)) -/
theorem te_get {σ : L2.St} {H : Hp} {Q : VK} {j : Nat} {f : Str} {d : Addr} {bs : List (Str × Span)} {kvs : List (Key × V)} (h0 : σ[j]? = some (some (.ref d))) (h3 : σ[3]? = some (some (.str f))) (hd : H d = some (.dK kvs)) (pr : Paired (PR (BdR K) H) kvs bs)
    (k : ∀ v H', Same H H' → BdR K H' v ((bs.lookup f).getD (none, none)) → Q v H') : tDGet2 (tVar j) (tVar 3) (tTup (tCons (tC V.non) (tCons (tC V.non) tNil))) σ H Q := by
  refine ⟨_, h0, d, rfl, .inl ⟨kvs, .inl hd⟩, _, h3, (by show 2 ≤ sizeLine; decide), fun p hp => ?_⟩
  have s1 := Same.new (o := .tup [V.non, V.non]) hp
  refine ⟨valV kvs (.inr f), DGet.k (k := .inr f) (s1 _ _ hd), ?_⟩
  rcases pr_look f pr with ⟨e1, e2⟩ | ⟨sp, v0, e1, e2, t0, rfl, h0⟩
  · rw [e2]
    refine k _ _ s1 ?_
    rw [e1]
    exact ⟨p, rfl, SqT.of upd_same⟩
  · rw [e2]
    refine k _ _ s1 ?_
    rw [e1]
    exact ⟨t0, rfl, (KeepN.of s1).t h0⟩
def accL (a b : Option Int) : Nat → List Int
  | 0 => []
  | 1 => a.toList
  | _ => oL a b
/-- [end for end in (a, b) if end is not None] -/
theorem te_ends {x0 x1 x2 x3 x4 x5 x6 x7 x8 x9 x10 : Option V} {H : Hp} {Q : VK} {i j : Nat} {a b : Option Int} (hi : [x0, x1, x2, x3, x4, x5, x6, x7, x8, x9, x10][i]? = some (some (oV a))) (hj : [x0, x1, x2, x3, x4, x5, x6, x7, x8, x9, x10][j]? = some (some (oV b)))
    (k : ∀ D H', Same H H' → H' D = some (.lst ((oL a b).map V.int)) → Q (.ref D) H') :
    tLc (iTup K (tTup (tCons (tVar i) (tCons (tVar j) tNil)))) (gName 9) (tTest (tOp (fun x y H Q => y = V.non ∧ Q (V.bl !decide (x = V.non)) H) (tVar 9) (tC V.non))) (tVar 9) [9] [x0, x1, x2, x3, x4, x5, x6, x7, x8, x9, x10] H Q := by
  refine ⟨_, hi, _, hj, (by show 2 ≤ sizeLine; decide), fun p hp => ?_⟩
  have s1 := Same.new (o := .tup [oV a, oV b]) hp
  refine ⟨p, rfl, ⟨_, SqT.of upd_same⟩, fun D hD => ?_⟩
  have s2 := Same.new (o := .lst []) hD
  refine lc_tup (K := K) (a := p) (xs := [oV a, oV b]) (fun n H' => (∀ x o, x ≠ D → upd H p (.tup [oV a, oV b]) x = some o → H' x = some o) ∧ H' D = some (.lst ((accL a b n).map V.int)))
    ⟨fun x o _ q => s2 _ _ q, upd_same⟩ (fun n H' _ ⟨q, _⟩ => SqT.of (q p _ (ne_of_none (upd_same (H := H)) hD) upd_same)) ?_ ?_
  · rintro n x H2 hx ⟨q, hD2⟩
    have step : ∀ (o : Option Int), x = oV o → accL a b (n + 1) = accL a b n ++ o.toList → gName 9 x (wipe [x0, x1, x2, x3, x4, x5, x6, x7, x8, x9, x10] [9]) H2 fun σ2 H2 => wipe σ2 [9] = wipe [x0, x1, x2, x3, x4, x5, x6, x7, x8, x9, x10] [9] ∧ tTest (tOp (fun x y H Q => y = V.non ∧ Q (V.bl !decide (x = V.non)) H) (tVar 9) (tC V.non)) σ2 H2 fun b' H3 =>
        if b' = true then tVar 9 σ2 H3 fun y H4 => ∃ acc, H4 D = some (.lst acc) ∧ acc.length < sizeLine ∧ ((∀ x o, x ≠ D → upd H p (.tup [oV a, oV b]) x = some o → upd H4 D (.lst (acc ++ [y])) x = some o) ∧ upd H4 D (.lst (acc ++ [y])) D = some (.lst ((accL a b (n + 1)).map V.int)))
        else (∀ x o, x ≠ D → upd H p (.tup [oV a, oV b]) x = some o → H3 x = some o) ∧ H3 D = some (.lst ((accL a b (n + 1)).map V.int)) := by
      intro o ex ea
      subst ex
      refine ⟨rfl, _, rfl, rfl, _, rfl, ?_⟩
      cases o with
      | none =>
        refine iteF ⟨q, ?_⟩
        rw [ea, hD2]
        simp
      | some z =>
        refine iteT ⟨_, rfl, _, hD2, ?_, fun x o n q' => by rw [upd_ne n]; exact q x o n q', ?_⟩
        · have hl : (accL a b n).length ≤ 2 := by
            match n with
            | 0 => exact Nat.zero_le _
            | 1 => show a.toList.length ≤ 2; cases a <;> simp
            | n + 2 => exact oL_len a b
          rw [List.length_map]
          exact Nat.lt_of_le_of_lt hl (by decide)
        · rw [upd_same, ea, List.map_append]
          rfl
    match n, hx with
    | 0, hx => exact step a (Option.some.inj hx).symm rfl
    | 1, hx => exact step b (Option.some.inj hx).symm rfl
    | n + 2, hx => simp at hx
  · rintro H2 ⟨q, hD2⟩
    exact k D H2 (fun x o e => q x o (ne_of_none (s1 _ _ e) hD) (s1 _ _ e)) hD2
/-- l != [] -/
theorem te_some {σ : L2.St} {H : Hp} {Q : Bool → Hp → Prop} {i : Nat} {D : Addr} {ns : List Int} (hi : σ[i]? = some (some (.ref D))) (hD : H D = some (.lst (ns.map V.int))) (k : ∀ H', Same H H' → Q (!decide (ns = [])) H') : tTest (tOp (rNeD K) (tVar i) (tLst tNil)) σ H Q := by
  refine ⟨_, hi, (by show 0 ≤ sizeLine; decide), fun e he => ?_⟩
  have se := Same.new (o := .lst []) he
  refine ⟨_, _, .lst (SqL.of (se _ _ hD)) (ints_dpA ns), .lst (SqL.of upd_same) .nil, ints_shaped ns, rfl, _, rfl, ?_⟩
  rw [eqv_nilI]
  exact k _ se
/-- max(l) if l != [] else None -/
theorem te_max {σ : L2.St} {H : Hp} {Q : VK} {i : Nat} {D : Addr} {a b : Option Int} (hi : σ[i]? = some (some (.ref D))) (hD : H D = some (.lst ((oL a b).map V.int))) (k : ∀ H', Same H H' → Q (oV (maxO a b)) H') : tIf (tTest (tOp (rNeD K) (tVar i) (tLst tNil))) (tCB (rMax K) (tCons (tVar i) tNil)) (tC V.non) σ H Q := by
  refine te_some hi hD fun H' s => ?_
  by_cases e : oL a b = []
  · obtain ⟨rfl, rfl⟩ := oL_nil e
    exact iteF (k H' s)
  · rw [show (!decide (oL a b = [])) = true by simp [e]]
    refine iteT ⟨_, hi, D, oL a b, rfl, SqL.of (s _ _ hD), List.length_pos_iff.mpr e, fun m hm g => ?_⟩
    have q := k H' s
    rw [max_oL hm g] at q
    exact q
theorem te_min {σ : L2.St} {H : Hp} {Q : VK} {i : Nat} {D : Addr} {a b : Option Int} (hi : σ[i]? = some (some (.ref D))) (hD : H D = some (.lst ((oL a b).map V.int))) (k : ∀ H', Same H H' → Q (oV (minO a b)) H') : tIf (tTest (tOp (rNeD K) (tVar i) (tLst tNil))) (tCB (rMin K) (tCons (tVar i) tNil)) (tC V.non) σ H Q := by
  refine te_some hi hD fun H' s => ?_
  by_cases e : oL a b = []
  · obtain ⟨rfl, rfl⟩ := oL_nil e
    exact iteF (k H' s)
  · rw [show (!decide (oL a b = [])) = true by simp [e]]
    refine iteT ⟨_, hi, D, oL a b, rfl, SqL.of (s _ _ hD), List.length_pos_iff.mpr e, fun m hm g => ?_⟩
    have q := k H' s
    rw [min_oL hm g] at q
    exact q
theorem te_gap {σ : L2.St} {H : Hp} {Q : Bool → Hp → Prop} {D1 D2 : Addr} {a b c d : Option Int} (h8 : σ[8]? = some (some (.ref D1))) (h10 : σ[10]? = some (some (.ref D2))) (e1 : H D1 = some (.lst ((oL a b).map V.int))) (e2 : H D2 = some (.lst ((oL c d).map V.int)))
    (k : ∀ H', Same H H' → Q (gap (maxO a b, minO c d)) H') :
    tAnd (tTest (tOp (rNeD K) (tVar 8) (tLst tNil))) (tAnd (tTest (tOp (rNeD K) (tVar 10) (tLst tNil))) (tTest (tOp (rI0 fun i j => V.bl (decide (j < i))) (tCB (rMax K) (tCons (tVar 8) tNil)) (tCB (rMin K) (tCons (tVar 10) tNil))))) σ H Q := by
  refine te_some h8 e1 fun H1 s1 => ?_
  by_cases n1 : oL a b = []
  · obtain ⟨rfl, rfl⟩ := oL_nil n1
    exact iteF (k H1 s1)
  rw [show (!decide (oL a b = [])) = true by simp [n1]]
  refine iteT (te_some h10 (s1 _ _ e2) fun H2 s2 => ?_)
  have s12 := s1.trans s2
  by_cases n2 : oL c d = []
  · obtain ⟨rfl, rfl⟩ := oL_nil n2
    refine iteF ?_
    have q := k H2 s12
    have e : gap (maxO a b, minO none none) = false := by cases maxO a b <;> rfl
    rw [e] at q
    exact q
  rw [show (!decide (oL c d = [])) = true by simp [n2]]
  refine iteT ⟨_, h8, D1, oL a b, rfl, SqL.of (s12 _ _ e1), List.length_pos_iff.mpr n1, fun m hm g => ⟨_, h10, D2, oL c d, rfl, SqL.of (s12 _ _ e2), List.length_pos_iff.mpr n2, fun m2 hm2 g2 => ⟨_, _, rfl, rfl, _, rfl, ?_⟩⟩⟩
  have q := k H2 s12
  rw [max_oL hm g, min_oL hm2 g2] at q
  exact q
theorem scBoth : FnScope ["_law_one", "_law_other", "_law_found", "_law_field", "_law_low", "_law_high", "_law_least", "_law_most", "_law_lows", "_law_end", "_law_highs"] ["_law_one", "_law_other"] (defScope sLboth) := ⟨rfl, rfl, rfl, by decide +kernel, rfl, by decide +kernel, by decide +kernel⟩
theorem ok_both {f : Addr} {fd : FuncData} (F : Fun K "_law_both" "_law_both" sLboth f fd) (T : TxtS mg) : FnOk P w K mg base CX0 2 f fd ["_law_one", "_law_other"] (spBoth K) := by
  refine F.ok scBoth (fun vs H Q E h => ?_) (fun cdv A outer s H vs Q E hr h => ?_)
  · obtain ⟨v1, v2, o1, o2, rfl, _⟩ := h
    rfl
  · obtain ⟨v1, v2, o1, o2, rfl, O1, O2, k⟩ := h
    have hr1 : Room 1 _ := hr
    refine ⟨_, (pss_cons (ps_if (PW.pt (pw_or (pt_cmpR op_isN (pv 0) pe_non (nomark _)) (pw_or1 (pt_cmpR op_isN (pv 1) pe_non (nomark _))))) (pss_one (ps_ret pe_non)) pss_nil)
      (pss_cons (ps_set (i := 2) scBoth.nd rfl (Or.inl rfl) pe_dnewK)
      (pss_cons (ps_for PassesOwn.never rfl (RK.piL (K := K) (pe_callB (ST.cr_sortS rfl) (by rfl) T.sorted (by decide +kernel) (pa_cons (pe_op ST.op_orS (pe_callTy ST.cr_setD (by rfl) T.set (by decide +kernel) (pa_cons (pv 0) pa_nil)) (pe_callTy ST.cr_setD (by rfl) T.set (by decide +kernel) (pa_cons (pv 1) pa_nil))) pa_nil))) (pg_name (i := 3) scBoth.nd rfl (Or.inl rfl))
        (pss_cons (ps_asg (pe_dget2 (hu_of hr) (pv 0) (pv 3) (pe_tup (pa_cons pe_non (pa_cons pe_non pa_nil))) ⟨rfl, rfl, rfl, rfl⟩) (RK.pgTup (K := K) (n := 2) rfl (pgs_cons (pg_name (i := 4) scBoth.nd rfl (Or.inl rfl)) (pgs_cons (pg_name (i := 5) scBoth.nd rfl (Or.inl rfl)) pgs_nil))))
        (pss_cons (ps_asg (pe_dget2 (hu_of hr) (pv 1) (pv 3) (pe_tup (pa_cons pe_non (pa_cons pe_non pa_nil))) ⟨rfl, rfl, rfl, rfl⟩) (RK.pgTup (K := K) (n := 2) rfl (pgs_cons (pg_name (i := 6) scBoth.nd rfl (Or.inl rfl)) (pgs_cons (pg_name (i := 7) scBoth.nd rfl (Or.inl rfl)) pgs_nil))))
        (pss_cons (ps_setLc (i := 8) (own := [("_law_end", 9)]) rfl scBoth.nd rfl rfl (sw_true rfl rfl rfl (by decide +kernel)) (RK.piT (K := K) (pe_tup (pa_cons (pv 4) (pa_cons (pv 6) pa_nil)))) (blkOk_by (N := ["_law_one", "_law_other", "_law_found", "_law_field", "_law_low", "_law_high", "_law_least", "_law_most", "_law_lows", "_law_end", "_law_highs"]) (sc := defScope sLboth) (by decide +kernel)) (fun _ _ _ _ _ => (pg_name (i := 9) scBoth.nd rfl (Or.inl rfl))) (fun _ _ _ _ _ => (pts_one (pt_cmpR op_notN (pv 9) pe_non (nomark _)))) (fun _ _ _ _ _ => (pv 9)))
        (pss_cons (ps_setLc (i := 10) (own := [("_law_end", 9)]) rfl scBoth.nd rfl rfl (sw_true rfl rfl rfl (by decide +kernel)) (RK.piT (K := K) (pe_tup (pa_cons (pv 5) (pa_cons (pv 7) pa_nil)))) (blkOk_by (N := ["_law_one", "_law_other", "_law_found", "_law_field", "_law_low", "_law_high", "_law_least", "_law_most", "_law_lows", "_law_end", "_law_highs"]) (sc := defScope sLboth) (by decide +kernel)) (fun _ _ _ _ _ => (pg_name (i := 9) scBoth.nd rfl (Or.inl rfl))) (fun _ _ _ _ _ => (pts_one (pt_cmpR op_notN (pv 9) pe_non (nomark _)))) (fun _ _ _ _ _ => (pv 9)))
        (pss_cons (ps_dput (hu_of hr) (pv 2) (pv 3) (pe_tup (pa_cons (pe_ifExp (pt_cmpR (RK.neD (K := K) hr.units) (pv 8) (pe_lst pa_nil) (nomark _)) (pe_callB (cr_max rfl) (by rfl) T.max (by decide +kernel) (pa_cons (pv 8) pa_nil)) pe_non) (pa_cons (pe_ifExp (pt_cmpR (RK.neD (K := K) hr.units) (pv 10) (pe_lst pa_nil) (nomark _)) (pe_callB (cr_min rfl) (by rfl) T.min (by decide +kernel) (pa_cons (pv 10) pa_nil)) pe_non) pa_nil))) rfl)
        (pss_one (ps_if (PW.pt (pw_and (pt_cmpR (RK.neD (K := K) hr.units) (pv 8) (pe_lst pa_nil) (nomark _)) (pw_and (pt_cmpR (RK.neD (K := K) hr.units) (pv 10) (pe_lst pa_nil) (nomark _)) (pw_and1 (pt_cmpR op_gt (pe_callB (cr_max rfl) (by rfl) T.max (by decide +kernel) (pa_cons (pv 8) pa_nil)) (pe_callB (cr_min rfl) (by rfl) T.min (by decide +kernel) (pa_cons (pv 10) pa_nil)) (nomark _)))))) (pss_one (ps_ret pe_non)) pss_nil))))))))
      (pss_one (ps_ret (pv 2)))))), ?_⟩
    refine sif ?_
    cases o1 with
    | none =>
      obtain rfl : v1 = .non := O1
      refine ⟨_, rfl, rfl, _, rfl, iteT (iteT ?_)⟩
      exact k .non H none (Same.refl _) rfl (.inl rfl)
    | some bs1 =>
    obtain ⟨d1, rfl, ⟨kvs1, hd1, pr1⟩, nd1, fl1⟩ := O1
    refine ⟨_, rfl, rfl, _, rfl, iteF ?_⟩
    cases o2 with
    | none =>
      obtain rfl : v2 = .non := O2
      refine ⟨_, rfl, rfl, _, rfl, iteT ?_⟩
      exact k .non H none (Same.refl _) rfl (.inr (.inl rfl))
    | some bs2 =>
    obtain ⟨d2, rfl, ⟨kvs2, hd2, pr2⟩, nd2, fl2⟩ := O2
    refine ⟨_, rfl, rfl, _, rfl, iteF ?_⟩
    dsimp only [tNext]
    refine sa1 (fun d hd => gn ?_)
    have s0 := Same.new (o := .dK []) hd
    have ne1 : d1 ≠ d := ne_of_none hd1 hd
    have ne2 : d2 ≠ d := ne_of_none hd2 hd
    have hdd : upd H d (.dK []) d = some (.dK []) := upd_same
    have hd1' := s0 _ _ hd1
    have hd2' := s0 _ _ hd2
    have pr1' := pr_mono (fun v x ⟨t, e, q⟩ => ⟨t, e, (KeepN.of s0).t q⟩) pr1
    have pr2' := pr_mono (fun v x ⟨t, e, q⟩ => ⟨t, e, (KeepN.of s0).t q⟩) pr2
    generalize upd H d (.dK []) = H0 at s0 hdd hd1' hd2' pr1' pr2' ⊢
    have len1 : (bs1.map (·.1)).length ≤ 4 := nodup_len (m := flds) nd1 fl1
    have len2 : (bs2.map (·.1)).length ≤ 4 := nodup_len (m := flds) nd2 fl2
    refine te_names (w := w) rfl rfl hd1' hd2' pr1' pr2' len1 len2 fun p4 ns H4 s04 hns nsnd nslen nsmem => ?_
    have hd4 := s04 _ _ hdd
    have hd14 := s04 _ _ hd1'
    have hd24 := s04 _ _ hd2'
    have pr14 := pr_mono (fun v x ⟨t, e, q⟩ => ⟨t, e, (KeepN.of s04).t q⟩) pr1'
    have pr24 := pr_mono (fun v x ⟨t, e, q⟩ => ⟨t, e, (KeepN.of s04).t q⟩) pr2'
    have np4 : p4 ≠ d := fun e => by rw [e, hd4] at hns; cases hns
    let jn : Str → Span := fun f => joinS ((bs1.lookup f).getD (none, none)) ((bs2.lookup f).getD (none, none))
    have hjn : ∀ f, f ∈ ns → joinO (bs1.lookup f) (bs2.lookup f) = some (jn f) := fun f m => by
      have e := jn_eq (bs1.lookup f) (bs2.lookup f)
      cases c : joinO (bs1.lookup f) (bs2.lookup f) with
      | some x => rw [c] at e; exact congrArg some e
      | none =>
        rcases (nsmem f).mp m with m | m
        · obtain ⟨x, hx⟩ := look_in m
          rw [hx] at c
          cases h2 : bs2.lookup f <;> rw [h2] at c <;> cases c
        · obtain ⟨x, hx⟩ := look_in m
          rw [hx] at c
          cases h2 : bs1.lookup f <;> rw [h2] at c <;> cases c
    have hjn0 : ∀ f, f ∉ ns → joinO (bs1.lookup f) (bs2.lookup f) = none := fun f m => by
      have a1 : bs1.lookup f = none := by
        cases c : bs1.lookup f with
        | none => rfl
        | some x => exact absurd ((nsmem f).mpr (.inl (in_look c))) m
      have a2 : bs2.lookup f = none := by
        cases c : bs2.lookup f with
        | none => rfl
        | some x => exact absurd ((nsmem f).mpr (.inr (in_look c))) m
      rw [a1, a2]
      rfl
    refine ⟨p4, rfl, ⟨_, SqL.of hns⟩, for_list (K := K) (a := p4) (xs := ns.map V.str) (fun i σ H' => ∃ x3 x4 x5 x6 x7 x8 x9 x10 kvs, σ = [some (.ref d1), some (.ref d2), some (.ref d), x3, x4, x5, x6, x7, x8, x9, x10] ∧ KeepD d H4 H' ∧ H' d = some (.dK kvs) ∧
      Paired (PR (BdR K) H') kvs ((ns.take i).map fun f => (f, jn f)) ∧ ∀ f ∈ ns.take i, gap (jn f) = false)
      ⟨none, none, none, none, none, none, none, none, [], rfl, (fun _ _ _ h => h), hd4, .nil, fun f m => by simp at m⟩ (fun i σ H' _ ⟨_, _, _, _, _, _, _, _, _, _, kd, _⟩ => SqL.of (kd _ _ np4 hns)) ?_ ?_⟩
    · rintro i y σ H5 hi ⟨x3, x4, x5, x6, x7, x8, x9, x10, kvs, rfl, kd, hd5, pr5, ng⟩
      have hi1 : i < ns.length := by have q := (List.getElem?_eq_some_iff.mp hi).1; rw [List.length_map] at q; exact q
      obtain rfl : y = .str ns[i] := by rw [List.getElem?_map, List.getElem?_eq_getElem hi1] at hi; exact (Option.some.inj hi).symm
      have tk : ns.take (i + 1) = ns.take i ++ [ns[i]] := by rw [List.take_add_one, List.getElem?_eq_getElem hi1]; rfl
      have mf : ns[i] ∈ ns := List.getElem_mem hi1
      have nf : ns[i] ∉ ns.take i := fun m => by
        have q : (ns.take (i + 1)).Nodup := nsnd.sublist (List.take_sublist _ _)
        rw [tk, List.nodup_append] at q
        exact q.2.2 _ m _ (List.mem_singleton.mpr rfl) rfl
      refine gn ?_
      refine sa1 (te_get (bs := bs1) rfl rfl (kd _ _ ne1 hd14) (bd_keepD hd4 kd pr14) fun va H6 s6 ⟨ta, ea, ha⟩ => ?_)
      subst ea
      refine ⟨ta, _, rfl, ha, rfl, _, _, rfl, _, _, rfl, rfl, ?_⟩
      have kd6 := kd.trans (KeepD.of s6)
      refine sa1 (te_get (bs := bs2) rfl rfl (kd6 _ _ ne2 hd24) (bd_keepD hd4 kd6 pr24) fun vb H7 s7 ⟨tb', eb, hb⟩ => ?_)
      subst eb
      refine ⟨tb', _, rfl, hb, rfl, _, _, rfl, _, _, rfl, rfl, ?_⟩
      refine sa1 (te_ends (i := 4) (j := 6) rfl rfl fun D1 H8 s8 hD1 => gn ?_)
      refine sa1 (te_ends (i := 5) (j := 7) rfl rfl fun D2 H9 s9 hD2 => gn ?_)
      refine te_max (i := 8) rfl (s9 _ _ hD1) fun H10 s10 => te_min (i := 10) rfl (s10 _ _ hD2) fun H11 s11 => ⟨(by show 2 ≤ sizeLine; decide), fun pt hpt => ?_⟩
      have s12 := Same.new (o := .tup [oV (jn ns[i]).1, oV (jn ns[i]).2]) hpt
      have s5 : Same H5 _ := s6.trans (s7.trans (s8.trans (s9.trans (s10.trans (s11.trans s12)))))
      have hd12 := s5 _ _ hd5
      have few : kvs.length < sizeLine := by
        rw [pr_len pr5, List.length_map, List.length_take]
        exact Nat.lt_of_le_of_lt (show min i ns.length ≤ 8 by omega) (by decide)
      refine ⟨_, rfl, _, rfl, d, _, rfl, .inl ⟨kvs, .inr ns[i], hd12, rfl, few, rfl⟩, ?_⟩
      have hpt2 : upd H11 pt (.tup [oV (jn ns[i]).1, oV (jn ns[i]).2]) pt = _ := upd_same
      have hD1' := (s9.trans (s10.trans (s11.trans s12))) _ _ hD1
      have hD2' := (s10.trans (s11.trans s12)) _ _ hD2
      have kd12 := kd.trans (KeepD.of s5)
      have pr12 := pr_mono (fun v x ⟨t, e, q⟩ => ⟨t, e, (KeepN.of s5).t q⟩) pr5
      have kl : KeepD d (upd H11 pt (.tup [oV (jn ns[i]).1, oV (jn ns[i]).2])) (upd (upd H11 pt (.tup [oV (jn ns[i]).1, oV (jn ns[i]).2])) d (.dK (putK kvs (.inr ns[i]) (.ref pt)))) := fun x o n q => by rw [upd_ne n]; exact q
      have n1 : D1 ≠ d := fun e => by rw [e, hd12] at hD1'; cases hD1'
      have n2 : D2 ≠ d := fun e => by rw [e, hd12] at hD2'; cases hD2'
      have pr13 := bd_put (bd_keepD hd12 kl pr12) ⟨pt, rfl, sqT_keepD (SqT.of hpt2) hd12 kl⟩ (k := ns[i]) (x := jn ns[i])
      have pl : putL ((ns.take i).map fun f => (f, jn f)) ns[i] (jn ns[i]) = (ns.take (i + 1)).map fun f => (f, jn f) := by
        unfold putL
        rw [if_neg, tk, List.map_append]
        · rfl
        · have e : ((ns.take i).map fun f => (f, jn f)).map (·.1) = ns.take i := by rw [List.map_map]; exact List.map_id' _
          rw [e]
          exact nf
      rw [pl] at pr13
      refine te_gap rfl rfl (kl _ _ n1 hD1') (kl _ _ n2 hD2') fun H14 s14 => ?_
      have kd14 := kd12.trans (kl.trans (KeepD.of s14))
      refine ite2 (fun g => ?_) (fun g => ?_)
      · have g' : gap (jn ns[i]) = true := g
        exact k .non H14 none (same_of hd (s0.trans s04) kd14) rfl (.inr (.inr ⟨ns[i], jn ns[i], hjn _ mf, g'⟩))
      · have g' : gap (jn ns[i]) = false := Bool.eq_false_iff.mpr g
        refine ⟨_, _, _, _, _, _, _, _, _, rfl, kd14, s14 _ _ upd_same, pr_mono (fun v x ⟨t, e, q⟩ => ⟨t, e, (KeepN.of s14).t q⟩) pr13, fun f m => ?_⟩
        rw [tk, List.mem_append] at m
        rcases m with m | m
        · exact ng f m
        · rw [List.mem_singleton.mp m]
          exact g'
    · rintro σ H5 ⟨x3, x4, x5, x6, x7, x8, x9, x10, kvs, rfl, kd, hd5, pr5, ng⟩
      rw [List.length_map, List.take_length] at pr5 ng
      refine ⟨_, rfl, ?_⟩
      have nn : (ns.map fun f => (f, jn f)).map (·.1) = ns := by rw [List.map_map]; exact List.map_id' ns
      refine k (.ref d) H5 (some (ns.map fun f => (f, jn f))) (same_of hd (s0.trans s04) kd) ⟨d, rfl, ⟨kvs, hd5, pr5⟩, ?_, ?_⟩ ⟨(fun e => nomatch e), (fun e => nomatch e), fun f s e => ?_, fun f => ?_⟩
      · rw [nn]; exact nsnd
      · rw [nn]
        intro f m
        exact ((nsmem f).mp m).elim (fl1 f) (fl2 f)
      · by_cases m : f ∈ ns
        · have e : joinO (bs1.lookup f) (bs2.lookup f) = some s := e
          rw [hjn f m] at e
          rw [← Option.some.inj e]
          exact ng f m
        · have e : joinO (bs1.lookup f) (bs2.lookup f) = some s := e
          rw [hjn0 f m] at e
          cases e
      · rw [look_fun]
        show _ = joinO (bs1.lookup f) (bs2.lookup f)
        by_cases m : f ∈ ns
        · rw [if_pos m, hjn f m]
        · rw [if_neg m, hjn0 f m]
end
end K25

set_option maxRecDepth 100000
set_option maxHeartbeats 4000000
namespace K25
open PySem L2
theorem shapes_ok {sh : List (Str × List Str)} (I : IsShapes sh) {ts : List Str} (h : ∀ t ∈ ts, t ∈ sh.map (·.1)) : (∀ t ∈ ts, ∃ fs, sh.lookup t = some fs ∧ fs.length ≤ 4) ∧ FlOk (flOf sh ts) := by
  have look : ∀ t ∈ sh.map (·.1), ∃ fs, sh.lookup t = some fs ∧ (t, fs) ∈ sh := by
    clear h I
    induction sh with
    | nil => intro t m; cases m
    | cons q r ih =>
      obtain ⟨g, x⟩ := q
      intro t m
      by_cases e : t = g
      · subst e
        exact ⟨x, by simp [List.lookup], List.mem_cons_self⟩
      · have nb : (t == g) = false := by simpa using e
        rw [List.map_cons, List.mem_cons] at m
        obtain ⟨fs, h1, h2⟩ := ih t (m.resolve_left e)
        exact ⟨fs, by simp [List.lookup, nb, h1], List.mem_cons_of_mem _ h2⟩
  have okF : ∀ x ∈ flds, PyData.strOk x = true := by decide +kernel
  have okT : ∀ x ∈ tabs, PyData.strOk x = true := by decide +kernel
  constructor
  · intro t m
    obtain ⟨fs, h1, h2⟩ := look t (h t m)
    obtain ⟨k, k1, k4, e⟩ := I.fs _ h2
    refine ⟨fs, h1, ?_⟩
    have e : fs = flds.take k := e
    rw [e, List.length_take]
    exact Nat.le_trans (Nat.min_le_left _ _) k4
  · intro q m
    unfold flOf at m
    rw [List.mem_flatMap] at m
    obtain ⟨t, mt, m2⟩ := m
    obtain ⟨fs, h1, h2⟩ := look t (h t mt)
    rw [h1] at m2
    obtain ⟨f, mf, rfl⟩ := List.mem_map.mp m2
    obtain ⟨k, k1, k4, e⟩ := I.fs _ h2
    have e : fs = flds.take k := e
    have mf : f ∈ fs := mf
    rw [e] at mf
    have nt : t ∈ tabs := by
      have := h t mt
      rw [I.names] at this
      exact List.mem_of_mem_take this
    exact ⟨okT t nt, okF f (List.mem_of_mem_take mf)⟩

/-- a condition that is drawn -/
structure Dr (K : PySem.W.Frag) (H : Hp) (v : V) (t : Tr) (n : Nat) : Prop where
  at_ : TrAt K H v t
  cd : Cd t
  ct : CdT (parts t)
  cf : CdF (parts t)
  dp : t.depth ≤ n
theorem Dr.keep {K : PySem.W.Frag} {H H' : Hp} {v : V} {t : Tr} {n : Nat} (k : KeepN H H') (h : Dr K H v t n) : Dr K H' v t n := ⟨h.at_.keep k, h.cd, h.ct, h.cf, h.dp⟩
theorem Dr.of {K : PySem.W.Frag} {H : Hp} {v : V} {t : Tr} {fl : List (Str × Str)} {n : Nat} (ok : FlOk fl) (names : ∀ q ∈ fl, q.2 ∈ flds) (h : TrAt K H v t) (i : IsCd fl t) (d : t.depth ≤ n) (d2 : n ≤ 20) : Dr K H v t n :=
  ⟨h, Cd.of ok i, CdT.of ok i (Nat.le_trans d d2), CdF.of names i, d⟩
theorem parts_or (l r : Tr) : parts (.bin sOr l r) = [] := by
  show (if sOr = sAnd then parts l ++ parts r else if sOr = sOr then [] else [.bin sOr l r]) = _
  rw [if_neg (by decide +kernel), if_pos rfl]
theorem Dr.and {K : PySem.W.Frag} {H : Hp} {x y : V} {t u : Tr} {n : Nat} {p : Addr} (h1 : Dr K H x t n) (h2 : Dr K H y u n) (hp : SqT K H p [.str sAnd, x, y]) : Dr K H (.ref p) (.bin sAnd t u) (n + 1) where
  at_ := ⟨p, x, y, rfl, hp, h1.at_, h2.at_⟩
  cd := .join (by decide +kernel) h1.cd h2.cd
  ct := by rw [parts_and]; exact fun q m => (List.mem_append.mp m).elim (h1.ct q) (h2.ct q)
  cf := by rw [parts_and]; exact h1.cf.app h2.cf
  dp := by
    have a := h1.dp
    have b := h2.dp
    show max t.depth u.depth + 1 ≤ n + 1
    omega
theorem Dr.or {K : PySem.W.Frag} {H : Hp} {x y : V} {t u : Tr} {n : Nat} {p : Addr} (h1 : Dr K H x t n) (h2 : Dr K H y u n) (hp : SqT K H p [.str sOr, x, y]) : Dr K H (.ref p) (.bin sOr t u) (n + 1) where
  at_ := ⟨p, x, y, rfl, hp, h1.at_, h2.at_⟩
  cd := .join (by decide +kernel) h1.cd h2.cd
  ct := by rw [parts_or]; exact fun q m => by cases m
  cf := by rw [parts_or]; exact fun q m => by cases m
  dp := by
    have a := h1.dp
    have b := h2.dp
    show max t.depth u.depth + 1 ≤ n + 1
    omega
theorem Dr.not {K : PySem.W.Frag} {H : Hp} {x : V} {t : Tr} {n : Nat} {p : Addr} (h1 : Dr K H x t n) (hp : SqT K H p [.str (Str.ofString "not"), x]) : Dr K H (.ref p) (.not t) (n + 1) where
  at_ := ⟨p, x, rfl, hp, h1.at_⟩
  cd := .not h1.cd
  ct := fun q m => by cases m
  cf := fun q m => by cases m
  dp := Nat.succ_le_succ h1.dp
theorem Dr.mono {K : PySem.W.Frag} {H : Hp} {v : V} {t : Tr} {n m : Nat} (h : Dr K H v t n) (le : n ≤ m) : Dr K H v t m := ⟨h.at_, h.cd, h.ct, h.cf, Nat.le_trans h.dp le⟩
theorem bnd_ob {K : PySem.W.Frag} {tb : Str} {v : V} {c : Option Tr} {H : Hp} {Q : VK} {E : XK} (ca : CondAt K H v c) (cd : CdO c) (ct : CdT (partsO c)) (cf : CdF (partsO c)) (dp : depO c < 16) (okt : PyData.strOk tb = true)
    (k : ∀ (x : V) (H2 : Hp) (o : Option (List (Str × Span))), Same H H2 → OB K H2 x o → Says tb (partsO c) o → Q x H2) : spBnd K [v, .str tb] H Q E := by
  refine ⟨v, c, tb, rfl, ca, cd, ct, dp, okt, fun bad H' s => k .non H' none s rfl bad, fun nb d H' bs s _ BD nd lk => ?_⟩
  refine k (.ref d) H' (some bs) s ⟨d, rfl, BD, nd, fun f m => ?_⟩ ⟨nb, lk⟩
  obtain ⟨sp, hs⟩ := look_in m
  rw [lk] at hs
  exact spec_fld cf hs
theorem bnd_use {K : PySem.W.Frag} {tb : Str} {v : V} {t : Tr} {n : Nat} {H : Hp} {Q : VK} {E : XK} (D : Dr K H v t n) (hn : n < 16) (okt : PyData.strOk tb = true)
    (k : ∀ (x : V) (H2 : Hp) (o : Option (List (Str × Span))), Same H H2 → OB K H2 x o → Says tb (parts t) o → Q x H2) : spBnd K [v, .str tb] H Q E :=
  bnd_ob (c := some t) D.at_ D.cd D.ct D.cf (Nat.lt_of_le_of_lt D.dp hn) okt k
theorem bnd_none {K : PySem.W.Frag} {tb : Str} {H : Hp} {Q : VK} {E : XK} (okt : PyData.strOk tb = true)
    (k : ∀ (x : V) (H2 : Hp) (o : Option (List (Str × Span))), Same H H2 → OB K H2 x o → Says tb [] o → Q x H2) : spBnd K [.non, .str tb] H Q E :=
  bnd_ob (c := none) rfl trivial (fun q m => by cases m) (fun q m => by cases m) (by decide) okt k
/-- what says nothing is an empty dict -/
theorem says_nil {K : PySem.W.Frag} {H : Hp} {tb : Str} {x : V} {o : Option (List (Str × Span))} (h : OB K H x o) (s : Says tb [] o) : ST.IsE H x := by
  cases o with
  | none =>
    have s : Bad tb [] = true := s
    cases s
  | some bs =>
    obtain ⟨d, rfl, ⟨kvs, hd, pr⟩, _⟩ := h
    have e : bs = [] := by
      cases bs with
      | nil => rfl
      | cons q r =>
        obtain ⟨g, y⟩ := q
        have t := s.2 g
        have z : specF tb [] g = none := rfl
        rw [z] at t
        simp [List.lookup] at t
    subst e
    cases pr
    exact ⟨d, rfl, hd⟩
theorem IsE_same {H H' : Hp} {x : V} (s : Same H H') (h : ST.IsE H x) : ST.IsE H' x := by
  obtain ⟨d, e, q⟩ := h
  exact ⟨d, e, s _ _ q⟩
theorem oV_dp {K : PySem.W.Frag} {H : Hp} (o : Option Int) : ∃ d, Dp K H (oV o) d ∧ PyData.canLay0 d = true ∧ PyData.depth d = 0 ∧ PyData.eqv d d = true := by
  cases o with
  | none => exact ⟨.none, .non, by simp [PyData.canLay0], by simp [PyData.depth], by simp [PyData.eqv]⟩
  | some i => exact ⟨.int i, .int i, by simp [PyData.canLay0], by simp [PyData.depth], by simp [PyData.eqv]⟩
theorem alike_bd {K : PySem.W.Frag} {H : Hp} {v u : V} {s : Span} (h1 : BdR K H v s) (h2 : BdR K H u s) : AlikeV K H v u := by
  obtain ⟨t, rfl, ht⟩ := h1
  obtain ⟨t', rfl, ht'⟩ := h2
  obtain ⟨d, a1, a2, a3, a4⟩ := oV_dp (K := K) (H := H) s.1
  obtain ⟨e, b1, b2, b3, b4⟩ := oV_dp (K := K) (H := H) s.2
  have sh : SeqAt.shaped (.tuple [d, e]) = true := shaped_of (by simp [PyData.canLay0, PyData.canLayAll0, a2, b2]) (by simp only [PyData.depth, PyData.depthAll]; omega)
  exact ⟨_, _, .tup ht (.cons a1 (.cons b1 .nil)), .tup ht' (.cons a1 (.cons b1 .nil)), sh, sh, by simp [PyData.eqv, PyData.eqvAll, a4, b4]⟩
theorem pr_mem {K : PySem.W.Frag} {H : Hp} {kvs : List (Key × V)} {bs : List (Str × Span)} (p : Paired (PR (BdR K) H) kvs bs) : ∀ x ∈ kvs, ∃ f s, x.1 = Sum.inr f ∧ (f, s) ∈ bs ∧ BdR K H x.2 s := by
  induction p with
  | nil => exact fun x m => by cases m
  | cons h _ ih =>
    intro x m
    rcases List.mem_cons.mp m with e | m
    · subst e
      exact ⟨_, _, h.1, List.mem_cons_self, h.2⟩
    · obtain ⟨f, s, a, b, c⟩ := ih x m
      exact ⟨f, s, a, List.mem_cons_of_mem _ b, c⟩
theorem same_dicts {K : PySem.W.Frag} {H : Hp} {kvs ls : List (Key × V)} {bs cs : List (Str × Span)} (p : Paired (PR (BdR K) H) kvs bs) (q : Paired (PR (BdR K) H) ls cs) (nb : (bs.map (·.1)).Nodup) (nc : (cs.map (·.1)).Nodup) (e : ∀ f, bs.lookup f = cs.lookup f) :
    kvs.length = ls.length ∧ ∀ x ∈ kvs, ∃ u, valV ls x.1 = some u ∧ AlikeV K H x.2 u := by
  constructor
  · rw [pr_len p, pr_len q]
    have h1 : (bs.map (·.1)).length ≤ (cs.map (·.1)).length := nodup_len nb fun f m => by
      obtain ⟨s, hs⟩ := look_in m
      rw [e] at hs
      exact in_look hs
    have h2 : (cs.map (·.1)).length ≤ (bs.map (·.1)).length := nodup_len nc fun f m => by
      obtain ⟨s, hs⟩ := look_in m
      rw [← e] at hs
      exact in_look hs
    rw [List.length_map, List.length_map] at h1 h2
    omega
  · intro x m
    obtain ⟨g, s, hk, hg, hR⟩ := pr_mem p x m
    have lk := look_nd nb hg
    rw [e] at lk
    rw [hk]
    rcases pr_look g q with ⟨e1, _⟩ | ⟨s', u, e1, e2, hR'⟩
    · rw [lk] at e1; cases e1
    · obtain rfl : s = s' := by rw [lk] at e1; exact Option.some.inj e1
      exact ⟨u, e2, alike_bd hR hR'⟩
theorem ne_same {K : PySem.W.Frag} {H : Hp} {Q : VK} {tb : Str} {ps : List Tr} {x y : V} {o1 o2 : Option (List (Str × Span))} (h1 : OB K H x o1) (h2 : OB K H y o2) (s1 : Says tb ps o1) (s2 : Says tb ps o2) (k : Q (.bl false) H) : rNeSame K x y H Q := by
  rcases says_same s1 s2 with ⟨rfl, rfl⟩ | ⟨b1, b2, rfl, rfl, e⟩
  · exact .inl ⟨h1, h2, k⟩
  · obtain ⟨d1, rfl, ⟨kv1, e1, p1⟩, n1, _⟩ := h1
    obtain ⟨d2, rfl, ⟨kv2, e2, p2⟩, n2, _⟩ := h2
    obtain ⟨el, al⟩ := same_dicts p1 p2 n1 n2 e
    exact .inr ⟨d1, d2, kv1, kv2, rfl, rfl, e1, e2, el, al, k⟩
theorem bad_perm {tb : Str} {p q : List Tr} {o : Option (List (Str × Span))} (h : Says tb (p ++ q) o) : Says tb (q ++ p) o := by
  cases o with
  | none =>
    have h : Bad tb (p ++ q) = true := h
    show Bad tb (q ++ p) = true
    rw [bad_app] at h ⊢
    rcases h with h | h | ⟨f, s, e, g⟩
    · exact .inr (.inl h)
    · exact .inl h
    · exact .inr (.inr ⟨f, s, by rw [joinC]; exact e, g⟩)
  | some bs =>
    refine ⟨?_, fun f => by rw [h.2 f, spec_app, spec_app, joinC]⟩
    cases hb : Bad tb (q ++ p) with
    | false => rfl
    | true =>
      have z : Bad tb (p ++ q) = true := by
        rw [bad_app] at hb ⊢
        rcases hb with h | h | ⟨f, s, e, g⟩
        · exact .inr (.inl h)
        · exact .inl h
        · exact .inr (.inr ⟨f, s, by rw [joinC]; exact e, g⟩)
      rw [h.1] at z
      cases z
def spLaw (K : PySem.W.Frag) : Sp := fun vs H Q _ => ∃ (a : Addr) (ns : List Int), vs = [.ref a] ∧ SqL K H a (ns.map V.int) ∧ ns.length ≤ 63 ∧ ∀ H', Q (.bl true) H'
abbrev tB1 (K : PySem.W.Frag) (ta : TE) : TE := tCall (spBnd K) [] E0 (tCons ta (tCons (tVar 7) tNil))
theorem te_bV {K : PySem.W.Frag} {σ : L2.St} {H : Hp} {Q : VK} {i n : Nat} {tb : Str} {v : V} {t : Tr} (hi : σ[i]? = some (some v)) (h7 : σ[7]? = some (some (.str tb))) (okt : PyData.strOk tb = true) (D : Dr K H v t n) (hn : n < 16)
    (k : ∀ (x : V) (H2 : Hp) (o : Option (List (Str × Span))), Same H H2 → OB K H2 x o → Says tb (parts t) o → Q x H2) : tB1 K (tVar i) σ H Q :=
  ⟨_, hi, _, h7, bnd_use (Q := Q) (E := E0) D hn okt k⟩
theorem te_b0 {K : PySem.W.Frag} {σ : L2.St} {H : Hp} {Q : VK} {tb : Str} (h7 : σ[7]? = some (some (.str tb))) (okt : PyData.strOk tb = true)
    (k : ∀ (x : V) (H2 : Hp) (o : Option (List (Str × Span))), Same H H2 → OB K H2 x o → Says tb [] o → Q x H2) : tB1 K (tC .non) σ H Q :=
  ⟨_, h7, bnd_none (Q := Q) (E := E0) okt k⟩
theorem te_bA {K : PySem.W.Frag} {σ : L2.St} {H : Hp} {Q : VK} {i j n : Nat} {tb : Str} {v u : V} {t r : Tr} (hi : σ[i]? = some (some v)) (hj : σ[j]? = some (some u)) (h7 : σ[7]? = some (some (.str tb))) (okt : PyData.strOk tb = true) (D : Dr K H v t n) (E : Dr K H u r n) (hn : n < 15)
    (k : ∀ (x : V) (H2 : Hp) (o : Option (List (Str × Span))), Same H H2 → OB K H2 x o → Says tb (parts t ++ parts r) o → Q x H2) : tB1 K (tTup (tCons (tC (.str sAnd)) (tCons (tVar i) (tCons (tVar j) tNil)))) σ H Q := by
  refine ⟨_, hi, _, hj, (by show 3 ≤ sizeLine; decide), fun p hp => ?_⟩
  have s := Same.new (o := .tup [.str sAnd, v, u]) hp
  exact ⟨_, h7, bnd_use (Q := Q) (E := E0) (Dr.and (D.keep (KeepN.of s)) (E.keep (KeepN.of s)) (SqT.of upd_same)) (by omega) okt fun x H2 o s2 ob sy => k x H2 o (s.trans s2) ob (by rw [parts_and] at sy; exact sy)⟩
theorem te_bO {K : PySem.W.Frag} {σ : L2.St} {H : Hp} {Q : VK} {i j n : Nat} {tb : Str} {v u : V} {t r : Tr} (hi : σ[i]? = some (some v)) (hj : σ[j]? = some (some u)) (h7 : σ[7]? = some (some (.str tb))) (okt : PyData.strOk tb = true) (D : Dr K H v t n) (E : Dr K H u r n) (hn : n < 15)
    (k : ∀ (x : V) (H2 : Hp) (o : Option (List (Str × Span))), Same H H2 → OB K H2 x o → Says tb [] o → Q x H2) : tB1 K (tTup (tCons (tC (.str sOr)) (tCons (tVar i) (tCons (tVar j) tNil)))) σ H Q := by
  refine ⟨_, hi, _, hj, (by show 3 ≤ sizeLine; decide), fun p hp => ?_⟩
  have s := Same.new (o := .tup [.str sOr, v, u]) hp
  exact ⟨_, h7, bnd_use (Q := Q) (E := E0) (Dr.or (D.keep (KeepN.of s)) (E.keep (KeepN.of s)) (SqT.of upd_same)) (by omega) okt fun x H2 o s2 ob sy => k x H2 o (s.trans s2) ob (by rw [parts_or] at sy; exact sy)⟩
theorem te_bN {K : PySem.W.Frag} {σ : L2.St} {H : Hp} {Q : VK} {i n : Nat} {tb : Str} {v : V} {t : Tr} (hi : σ[i]? = some (some v)) (h7 : σ[7]? = some (some (.str tb))) (okt : PyData.strOk tb = true) (D : Dr K H v t n) (hn : n < 15)
    (k : ∀ (x : V) (H2 : Hp) (o : Option (List (Str × Span))), Same H H2 → OB K H2 x o → Says tb [] o → Q x H2) : tB1 K (tTup (tCons (tC (.str (Str.ofString "not"))) (tCons (tVar i) tNil))) σ H Q := by
  refine ⟨_, hi, (by show 2 ≤ sizeLine; decide), fun p hp => ?_⟩
  have s := Same.new (o := .tup [.str (Str.ofString "not"), v]) hp
  exact ⟨_, h7, bnd_use (Q := Q) (E := E0) (Dr.not (D.keep (KeepN.of s)) (SqT.of upd_same)) (by omega) okt fun x H2 o s2 ob sy => k x H2 o (s.trans s2) ob sy⟩
theorem te_bX {K : PySem.W.Frag} {σ : L2.St} {H : Hp} {Q : VK} {i j n : Nat} {tb : Str} {v u : V} {t r : Tr} (hi : σ[i]? = some (some v)) (hj : σ[j]? = some (some u)) (h7 : σ[7]? = some (some (.str tb))) (okt : PyData.strOk tb = true) (D : Dr K H v t n) (E : Dr K H u r n) (hn : n < 14)
    (k : ∀ (x : V) (H2 : Hp) (o : Option (List (Str × Span))), Same H H2 → OB K H2 x o → Says tb (parts t) o → Q x H2) :
    tB1 K (tTup (tCons (tC (.str sAnd)) (tCons (tTup (tCons (tC (.str sOr)) (tCons (tVar i) (tCons (tVar j) tNil)))) (tCons (tVar i) tNil)))) σ H Q := by
  refine ⟨_, hi, _, hj, (by show 3 ≤ sizeLine; decide), fun p hp => ⟨_, hi, (by show 3 ≤ sizeLine; decide), fun q hq => ?_⟩⟩
  have s := Same.new (o := .tup [.str sOr, v, u]) hp
  have s2 := Same.new (o := .tup [.str sAnd, .ref p, v]) hq
  have s3 := s.trans s2
  exact ⟨_, h7, bnd_use (Q := Q) (E := E0) (Dr.and (Dr.or (D.keep (KeepN.of s3)) (E.keep (KeepN.of s3)) (SqT.of (s2 _ _ upd_same))) ((D.keep (KeepN.of s3)).mono (Nat.le_succ _)) (SqT.of upd_same)) (by omega) okt
    fun x H2 o s4 ob sy => k x H2 o (s3.trans s4) ob (by rw [parts_and, parts_or] at sy; exact sy)⟩
section
variable {P : Program} {w : World} {K : PySem.W.Frag} {mg : Str → Option Value} {base : Heap}
theorem scLaw : FnScope ["_law_script", "_law_h", "_law_turn", "_law_shapes_here", "_law_fields", "_law_one", "_law_other", "_law_table", "_law_due"] ["_law_script"] (defScope slaw) := ⟨rfl, rfl, rfl, by decide +kernel, rfl, by decide +kernel, by decide +kernel⟩
theorem ok_law {n : Nat} {f f1 f3 f4 f5 f6 f7 : Addr} {fd d1 d3 d4 d5 d6 d7 : FuncData} (F : Fun K "law" "law" slaw f fd) (T : TxtS mg) (Cmix : Cal P w K mg base n "_law_mix" ["_law_script", "_law_seed"] (spMix K) f1 d1)
    (Cshapes : Cal P w K mg base n "_law_shapes" ["_law_h", "_law_many"] (spShapes K) f3 d3) (Csome : Cal P w K mg base n "_law_some" ["_law_h", "_law_shapes_here", "_law_tables"] (spSome K) f4 d4)
    (Ccond : Cal P w K mg base n "_law_cond" ["_law_h", "_law_fields", "_law_deep"] (spCond K 4) f5 d5) (Cbounds : Cal P w K mg base n "bounds" ["cond", "table"] (spBnd K) f6 d6) (Cboth : Cal P w K mg base n "_law_both" ["_law_one", "_law_other"] (spBoth K) f7 d7) :
    FnOk P w K mg base CX0 (n + 1) f fd ["_law_script"] (spLaw K) := by
  refine F.ok scLaw (fun vs H Q E h => ?_) (fun cdv A outer s H vs Q E hr h => ?_)
  · obtain ⟨l, ns, rfl, _⟩ := h
    rfl
  · obtain ⟨l, ns, rfl, hl, l63, k⟩ := h
    have hr1 : Room n _ := hr
    refine ⟨_, (pss_cons (ps_set (i := 1) scLaw.nd rfl (Or.inl rfl) (pe_call Cmix.G hr1 rfl Cmix.g Cmix.kp Cmix.b .nil pass0 (pa_cons (pv 0) (pa_cons pe_int pa_nil))))
      (pss_cons (ps_for PassesOwn.never rfl (pi_range1 rfl T.range (pa_cons pe_int pa_nil)) (pg_name (i := 2) scLaw.nd rfl (Or.inl rfl))
        (pss_cons (ps_set (i := 3) scLaw.nd rfl (Or.inl rfl) (pe_call Cshapes.G hr1 rfl Cshapes.g Cshapes.kp Cshapes.b .nil pass0 (pa_cons (pv 1) (pa_cons pe_int pa_nil))))
        (pss_cons (ps_set (i := 4) scLaw.nd rfl (Or.inl rfl) (pe_call Csome.G hr1 rfl Csome.g Csome.kp Csome.b .nil pass0 (pa_cons (pv 1) (pa_cons (pv 3) (pa_cons (pe_callB (call_sortedD rfl) (by rfl) T.sorted (by decide +kernel) (pa_cons (pv 3) pa_nil)) pa_nil)))))
        (pss_cons (ps_par (i := 5) (j := 6) (by rfl) scLaw.nd rfl rfl (by decide) rfl rfl (pa_cons (pe_call Ccond.G hr1 rfl Ccond.g Ccond.kp Ccond.b .nil pass0 (pa_cons (pv 1) (pa_cons (pv 4) (pa_cons pe_int pa_nil)))) (pa_cons (pe_call Ccond.G hr1 rfl Ccond.g Ccond.kp Ccond.b .nil pass0 (pa_cons (pv 1) (pa_cons (pv 4) (pa_cons pe_int pa_nil)))) pa_nil)) (by rfl))
        (pss_one (ps_for PassesOwn.never rfl (RK.piL (K := K) (pe_callB (call_sortedD rfl) (by rfl) T.sorted (by decide +kernel) (pa_cons (pv 3) pa_nil))) (pg_name (i := 7) scLaw.nd rfl (Or.inl rfl))
          (pss_cons (ps_set (i := 8) scLaw.nd rfl (Or.inl rfl) (pe_call Cboth.G hr1 rfl Cboth.g Cboth.kp Cboth.b .nil pass0 (pa_cons (pe_call Cbounds.G hr1 rfl Cbounds.g Cbounds.kp Cbounds.b .nil pass0 (pa_cons (pv 5) (pa_cons (pv 7) pa_nil))) (pa_cons (pe_call Cbounds.G hr1 rfl Cbounds.g Cbounds.kp Cbounds.b .nil pass0 (pa_cons (pv 6) (pa_cons (pv 7) pa_nil))) pa_nil))))
          (pss_cons (ps_if (PW.pt (pw_or (pt_cmpR (op_neSame (K := K) (room66 hr)) (pe_call Cbounds.G hr1 rfl Cbounds.g Cbounds.kp Cbounds.b .nil pass0 (pa_cons (pe_tup (pa_cons pe_str (pa_cons (pv 5) (pa_cons (pv 6) pa_nil)))) (pa_cons (pv 7) pa_nil))) (pv 8) (nomark _)) (pw_or1 (pt_cmpR (op_neSame (K := K) (room66 hr)) (pe_call Cbounds.G hr1 rfl Cbounds.g Cbounds.kp Cbounds.b .nil pass0 (pa_cons (pe_tup (pa_cons pe_str (pa_cons (pv 6) (pa_cons (pv 5) pa_nil)))) (pa_cons (pv 7) pa_nil))) (pv 8) (nomark _))))) (pss_one (ps_ret pe_bl)) pss_nil)
          (pss_cons (ps_if (pt_cmpR (ST.op_neE (Nat.lt_of_le_of_lt (Nat.add_le_add_left (by decide) _) (room66 hr))) (pe_lst (pa_cons (pe_call Cbounds.G hr1 rfl Cbounds.g Cbounds.kp Cbounds.b .nil pass0 (pa_cons (pe_tup (pa_cons pe_str (pa_cons (pv 5) (pa_cons (pv 6) pa_nil)))) (pa_cons (pv 7) pa_nil))) (pa_cons (pe_call Cbounds.G hr1 rfl Cbounds.g Cbounds.kp Cbounds.b .nil pass0 (pa_cons (pe_tup (pa_cons pe_str (pa_cons (pv 5) pa_nil))) (pa_cons (pv 7) pa_nil))) (pa_cons (pe_call Cbounds.G hr1 rfl Cbounds.g Cbounds.kp Cbounds.b .nil pass0 (pa_cons pe_non (pa_cons (pv 7) pa_nil))) pa_nil)))) (pe_op op_rep (pe_lst (pa_cons pe_dnewK pa_nil)) pe_int) (nomark _)) (pss_one (ps_ret pe_bl)) pss_nil)
          (pss_one (ps_if (pt_cmpR (op_neSame (K := K) (room66 hr)) (pe_call Cbounds.G hr1 rfl Cbounds.g Cbounds.kp Cbounds.b .nil pass0 (pa_cons (pe_tup (pa_cons pe_str (pa_cons (pe_tup (pa_cons pe_str (pa_cons (pv 5) (pa_cons (pv 6) pa_nil)))) (pa_cons (pv 5) pa_nil)))) (pa_cons (pv 7) pa_nil))) (pe_call Cbounds.G hr1 rfl Cbounds.g Cbounds.kp Cbounds.b .nil pass0 (pa_cons (pv 5) (pa_cons (pv 7) pa_nil))) (nomark _)) (pss_one (ps_ret pe_bl)) pss_nil)))))))))))
      (pss_one (ps_ret pe_bl)))), ?_⟩
    refine sa1 ?_
    refine ⟨_, rfl, l, ns, 103, rfl, hl, l63, fun a b H1 a0 b0 B1 s1 => ?_⟩
    refine gn ?_
    refine ⟨8, rfl, by decide, by decide, for_range (lo := 0) (n := 8) (fun i σ H' => ∃ v2 v3 v4 v5 v6 v7 v8, σ = [some (.ref l), some (.ref a), v2, v3, v4, v5, v6, v7, v8] ∧ HAt H' a b)
      ⟨_, _, _, _, _, _, _, rfl, B1⟩ ?_ ?_⟩
    · rintro i σ H2 hi ⟨v2, v3, v4, v5, v6, v7, v8, rfl, B2⟩
      refine ⟨_, rfl, a, b, rfl, B2, fun d Hb sh Bb kpb d0 Sb Ib lb => ?_⟩
      refine gn ?_
      obtain ⟨kvs, hdb, prb⟩ := id Sb
      have names : ∀ {ys : List Str}, ys.Perm (sh.map (·.1)) → (∀ t ∈ ys, t ∈ sh.map (·.1)) ∧ ys.length ≤ 3 ∧ ∀ t ∈ ys, PyData.strOk t = true := fun {ys} perm => by
        refine ⟨fun t m => perm.mem_iff.mp m, ?_, fun t m => ?_⟩
        · rw [perm.length_eq, List.length_map]; exact Ib.few
        · have h1 := perm.mem_iff.mp m
          rw [Ib.names] at h1
          exact (by decide +kernel : ∀ x ∈ tabs, PyData.strOk x = true) t (List.mem_of_mem_take h1)
      have n64 : (sh.map (·.1)).length < 64 := by rw [List.length_map]; have := Ib.few; omega
      try dsimp only
      refine sa1 ?_
      refine ⟨_, rfl, _, rfl, _, rfl, d, kvs, sh.map (·.1), rfl, Rd.of hdb, pr_keys prb, n64, fun ys p perm _ hp => ?_⟩
      obtain ⟨ny, ly, _⟩ := names perm
      have sp := Same.new (o := .lst (ys.map V.str)) hp
      have shok := shapes_ok Ib ny
      refine ⟨.ref a, d, p, sh, ys, rfl, Sb.keep (KeepN.of sp), SqL.of upd_same, shok.1, ly, shok.2, fun rr Hc sc rr0 Flc lc => ?_⟩
      refine gn ?_
      have Bp := Bb.same sp
      have nrr := Bp.ne rr0
      have Bc := Bp.same sc
      have Sc := (Sb.keep (KeepN.of sp)).keep (KeepN.of sc)
      have few100 : (flOf sh ys).length ≤ 100 := by omega
      have okF : FlOk (flOf sh ys) := by obtain ⟨_, _, _, ok⟩ := Flc; exact ok
      have nmF := fl_names Ib (ts := ys)
      try dsimp only
      refine ⟨_, rfl, _, rfl, a, b, rr, flOf sh ys, 3, rfl, by decide, by decide, Bc, Flc, nrr.1, nrr.2, few100, fun vx t1 Hd Bd kpd T1 C1 D1 => ?_⟩
      refine ⟨_, rfl, _, rfl, a, b, rr, flOf sh ys, 3, rfl, by decide, by decide, Bd, Flc.keep Bc kpd nrr.1 nrr.2, nrr.1, nrr.2, few100, fun vy t2 He Be kpe T2 C2 D2 => ?_⟩
      have E1 := (Dr.of okF nmF T1 C1 D1 (by decide)).keep (kpe.n Bd)
      have E2 := Dr.of okF nmF T2 C2 D2 (by decide)
      have E1 : Dr K He vx t1 5 := E1
      have E2 : Dr K He vy t2 5 := E2
      have Se := (Sc.keep (kpd.n Bc)).keep (kpe.n Bd)
      obtain ⟨kvs2, hd2, pr2⟩ := Se
      refine ⟨_, _, rfl, ?_⟩
      refine ⟨_, rfl, d, kvs2, sh.map (·.1), rfl, Rd.of hd2, pr_keys pr2, n64, fun zs p2 perm2 _ hp2 => ?_⟩
      obtain ⟨_, lz, okz⟩ := names perm2
      have w1 := Same.new (o := .lst (zs.map V.str)) hp2
      have hzs := upd_same (H := He) (a := p2) (o := .lst (zs.map V.str))
      generalize upd He p2 (.lst (zs.map V.str)) = Hf at w1 hzs ⊢
      have Bf := Be.same w1
      have F1 := E1.keep (KeepN.of w1)
      have F2 := E2.keep (KeepN.of w1)
      refine ⟨p2, rfl, ⟨_, SqL.of hzs⟩, for_list (K := K) (a := p2) (xs := zs.map V.str) (fun j σ H' => ∃ v7 v8, σ = [some (.ref l), some (.ref a), some (.int (0 + ((i : Nat) : Int))), some (.ref d), some (.ref rr), some vx, some vy, v7, v8] ∧ Same Hf H')
        ⟨_, _, rfl, Same.refl Hf⟩ (fun j σ H' _ ⟨_, _, _, sm⟩ => SqL.of (sm _ _ hzs)) ?_ ?_⟩
      · rintro j y σ Hg hj ⟨v7, v8, rfl, sg⟩
        obtain ⟨tb, rfl, okt⟩ : ∃ tb, y = .str tb ∧ PyData.strOk tb = true := by
          obtain ⟨t, mt, rfl⟩ := List.mem_map.mp (List.mem_of_getElem? hj)
          exact ⟨t, rfl, okz t mt⟩
        have G1 := F1.keep (KeepN.of sg)
        have G2 := F2.keep (KeepN.of sg)
        refine gn ?_
        try dsimp only
        refine sa1 ?_
        refine te_bV rfl rfl okt G1 (by decide) fun x1 Ha o1 sa ob1 sy1 => ?_
        have G2a := G2.keep (KeepN.of sa)
        refine te_bV rfl rfl okt G2a (by decide) fun x2 Hb2 o2 sb ob2 sy2 => ?_
        refine ⟨x1, x2, o1, o2, rfl, ob1.keep (KeepN.of sb), ob2, fun vd Hh o sc' obd bo => ?_⟩
        have sy := says_both sy1 sy2 bo
        refine gn ?_
        have sh1 := sa.trans (sb.trans sc')
        have I1 := G1.keep (KeepN.of sh1)
        have I2 := G2.keep (KeepN.of sh1)
        have sgh := sg.trans sh1
        try dsimp only
        refine sif ?_
        -- and, both ways
        refine te_bA rfl rfl rfl okt I1 I2 (by decide) fun y1 H3 p1 u2 oa sya => ?_
        refine ⟨_, rfl, ne_same oa (obd.keep (KeepN.of u2)) sya sy ⟨_, rfl, iteF ?_⟩⟩
        refine te_bA rfl rfl rfl okt (I2.keep (KeepN.of u2)) (I1.keep (KeepN.of u2)) (by decide) fun y2 H4 p2' u4 ob syb => ?_
        have u14 := u2.trans u4
        refine ⟨_, rfl, ne_same ob (obd.keep (KeepN.of u14)) syb (bad_perm sy) ⟨_, rfl, iteF ?_⟩⟩
        have J1 := I1.keep (KeepN.of u14)
        have J2 := I2.keep (KeepN.of u14)
        have sg4 := sgh.trans u14
        try dsimp only [tNext]
        refine sif ?_
        -- or, not, nothing
        refine te_bO rfl rfl rfl okt J1 J2 (by decide) fun z1 H5 p3 v1 oc syc => ?_
        refine te_bN rfl rfl okt (J1.keep (KeepN.of v1)) (by decide) fun z2 H6 p4 v2 od syd => ?_
        refine te_b0 rfl okt fun z3 H7 p5 v3 oe sye => ?_
        have ea := IsE_same (v2.trans v3) (says_nil oc syc)
        have eb := IsE_same v3 (says_nil od syd)
        have ec := says_nil oe sye
        have v13 := v1.trans (v2.trans v3)
        refine ⟨(by show 3 ≤ sizeLine; decide), fun q5 hq5 => ?_⟩
        have u6 := Same.new (o := .lst [z1, z2, z3]) hq5
        refine fun q6 hq6 => ⟨(by show 1 ≤ sizeLine; decide), fun q7 hq7 => ?_⟩
        have u7 := Same.new (o := .dK []) hq6
        have u8 := Same.new (o := .lst [.ref q6]) hq7
        refine ⟨q7, 3, [.ref q6], rfl, rfl, upd_same, by decide, by decide, (by show 3 ≤ sizeLine; decide), fun q8 hq8 => ?_⟩
        have u9 := Same.new (o := .lst [.ref q6, .ref q6, .ref q6]) hq8
        have u69 := u6.trans (u7.trans (u8.trans u9))
        have e6 : ST.IsE _ (.ref q6) := ⟨q6, rfl, (u8.trans u9) _ _ upd_same⟩
        refine ⟨q5, q8, [z1, z2, z3], [.ref q6, .ref q6, .ref q6], rfl, rfl, (u7.trans (u8.trans u9)) _ _ upd_same, upd_same, rfl, fun x m => ?_, fun x m => ?_, ⟨_, rfl, iteF ?_⟩⟩
        · rcases List.mem_cons.mp m with e | m
          · subst e; exact IsE_same u69 ea
          rcases List.mem_cons.mp m with e | m
          · subst e; exact IsE_same u69 eb
          rw [List.mem_singleton.mp m]
          exact IsE_same u69 ec
        · rcases List.mem_cons.mp m with e | m
          · subst e; exact e6
          rcases List.mem_cons.mp m with e | m
          · subst e; exact e6
          rw [List.mem_singleton.mp m]
          exact e6
        have vv := v13.trans u69
        have L1 := J1.keep (KeepN.of vv)
        have L2 := J2.keep (KeepN.of vv)
        try dsimp only [tNext]
        refine te_bX rfl rfl rfl okt L1 L2 (by decide) fun y1' H12 p6 w2 of' syf => ?_
        refine te_bV rfl rfl okt (L1.keep (KeepN.of w2)) (by decide) fun y2' H13 p7 w3 og syg => ?_
        refine ne_same (of'.keep (KeepN.of w3)) og syf syg ⟨_, rfl, iteF ?_⟩
        exact ⟨_, _, rfl, sg4.trans (vv.trans (w2.trans w3))⟩
      · rintro σ Hg ⟨v7, v8, rfl, sg⟩
        exact ⟨_, _, _, _, _, _, _, rfl, Bf.same sg⟩
    · rintro σ H' ⟨v2, v3, v4, v5, v6, v7, v8, rfl, _⟩
      exact k H'
end
end K25


set_option Elab.async false
set_option maxRecDepth 100000
set_option maxHeartbeats 4000000
namespace K25
open PySem L2
section
variable {P : Program} {w : World} {K : PySem.W.Frag} {mg : Str → Option Value} {base : Heap}
theorem all_cond {f fn ft : Addr} {fd fdn fdt : FuncData} (F : Fun K "_law_cond" "_law_cond" sLcond f fd) (T : Txt mg) (Cnext : Cal P w K mg base 1 "_law_next" ["_law_h", "_law_many"] spNext fn fdn) (Cterm : Cal P w K mg base 4 "_law_term" ["_law_h", "_law_fields", "_law_deep"] (spTerm K 2) ft fdt)
    (g : mg "_law_cond" = some (.ref f)) (b : Binds K fd ["_law_h", "_law_fields", "_law_deep"] []) : ∀ n : Nat, FnOk P w K mg base CX0 (n + 4) f fd ["_law_h", "_law_fields", "_law_deep"] (spCond K n)
  | 0 => none_left fun vs H Q E h => by
    obtain ⟨_, _, _, _, dp, _, h0, h1, _⟩ := h
    omega
  | n + 1 => ok_cond F T (Cnext.mono (by omega)) (Cterm.mono (by omega)) ⟨g, F.kp, b, all_cond F T Cnext Cterm g b n⟩
end
theorem all_mk {l : PySem.W.OpenLaw} {w : World} {K : PySem.W.Frag} {h : Heap} {mg : Str → Option Value} {fa f1 f2 f3 f4 f5 f6 f7 f8 f9 f10 f11 f12 f13 f14 f15 f16 f17 f18 : Addr} (X : K.In h) (G : h.Ns mainGlobals mg) (hfa : mg "law" = some (.ref fa))
    {od1 an1 od2 an2 od3 an3 od4 an4 od5 an5 od6 an6 od7 an7 od8 an8 od9 an9 od10 an10 od11 an11 od12 an12 od13 an13 od14 an14 od15 an15 od16 an16 od17 an17 od18 an18 : Option Addr} {fc ft : Addr} {odC : Option Addr} {itC : Array Value} {nC : Nat} {slC : Array (Option Value)} {esT : Array DictEntry} {nT : Nat} {tk1 tk2 tk3 tk4 tk5 : Tok} {sl1 sl2 sl3 sl4 sl5 sl6 sl7 sl8 sl9 sl10 sl11 sl12 sl13 sl14 sl15 sl16 sl17 sl18 : Array (Option Value)} {oc1 kV1 dc1 pm1 cd1 ct1 oc2 kV2 dc2 pm2 cd2 ct2 oc3 kV3 dc3 pm3 cd3 ct3 oc4 kV4 dc4 pm4 cd4 ct4 oc5 kV5 dc5 pm5 cd5 ct5 oc6 kV6 dc6 pm6 cd6 ct6 oc7 kV7 dc7 pm7 cd7 ct7 oc8 kV8 dc8 pm8 cd8 ct8 oc9 kV9 dc9 pm9 cd9 ct9 oc10 kV10 dc10 pm10 cd10 ct10 oc11 kV11 dc11 pm11 cd11 ct11 oc12 kV12 dc12 pm12 cd12 ct12 oc13 kV13 dc13 pm13 cd13 ct13 oc14 kV14 dc14 pm14 cd14 ct14 oc15 kV15 dc15 pm15 cd15 ct15 oc16 kV16 dc16 pm16 cd16 ct16 oc17 kV17 dc17 pm17 cd17 ct17 oc18 kV18 dc18 pm18 cd18 ct18 : Value}
    (a1 : PySem.W.nsIn K mainGlobals "is_so" = some (some (.ref f1))) (l1 : K.lookup f1 = some ⟨oc1, od1, .func (PySem.W.fnOf "is_so" "is_so" (defArgs sisso) (defBody sisso) (defScope sisso) .none kV1 dc1 pm1 an1 cd1 ct1), sl1⟩) (c1 : PySem.W.codeIn K cd1 "is_so" = true) (k1 : PySem.W.keepIn K (.ref f1) = true)
    (a2 : PySem.W.nsIn K mainGlobals "bounds" = some (some (.ref f2))) (l2 : K.lookup f2 = some ⟨oc2, od2, .func (PySem.W.fnOf "bounds" "bounds" (defArgs sbounds) (defBody sbounds) (defScope sbounds) .none kV2 dc2 pm2 an2 cd2 ct2), sl2⟩) (c2 : PySem.W.codeIn K cd2 "bounds" = true) (k2 : PySem.W.keepIn K (.ref f2) = true)
    (a3 : PySem.W.nsIn K mainGlobals "musts" = some (some (.ref f3))) (l3 : K.lookup f3 = some ⟨oc3, od3, .func (PySem.W.fnOf "musts" "musts" (defArgs smusts) (defBody smusts) (defScope smusts) .none kV3 dc3 pm3 an3 cd3 ct3), sl3⟩) (c3 : PySem.W.codeIn K cd3 "musts" = true) (k3 : PySem.W.keepIn K (.ref f3) = true)
    (a4 : PySem.W.nsIn K mainGlobals "is_of" = some (some (.ref f4))) (l4 : K.lookup f4 = some ⟨oc4, od4, .func (PySem.W.fnOf "is_of" "is_of" (defArgs sisof) (defBody sisof) (defScope sisof) .none kV4 dc4 pm4 an4 cd4 ct4), sl4⟩) (c4 : PySem.W.codeIn K cd4 "is_of" = true) (k4 : PySem.W.keepIn K (.ref f4) = true)
    (a5 : PySem.W.nsIn K mainGlobals "ends" = some (some (.ref f5))) (l5 : K.lookup f5 = some ⟨oc5, od5, .func (PySem.W.fnOf "ends" "ends" (defArgs sends) (defBody sends) (defScope sends) .none kV5 dc5 pm5 an5 cd5 ct5), sl5⟩) (c5 : PySem.W.codeIn K cd5 "ends" = true) (k5 : PySem.W.keepIn K (.ref f5) = true)
    (a6 : PySem.W.nsIn K mainGlobals "narrow" = some (some (.ref f6))) (l6 : K.lookup f6 = some ⟨oc6, od6, .func (PySem.W.fnOf "narrow" "narrow" (defArgs snarrow) (defBody snarrow) (defScope snarrow) .none kV6 dc6 pm6 an6 cd6 ct6), sl6⟩) (c6 : PySem.W.codeIn K cd6 "narrow" = true) (k6 : PySem.W.keepIn K (.ref f6) = true)
    (a7 : PySem.W.nsIn K mainGlobals "greater" = some (some (.ref f7))) (l7 : K.lookup f7 = some ⟨oc7, od7, .func (PySem.W.fnOf "greater" "greater" (defArgs sgreater) (defBody sgreater) (defScope sgreater) .none kV7 dc7 pm7 an7 cd7 ct7), sl7⟩) (c7 : PySem.W.codeIn K cd7 "greater" = true) (k7 : PySem.W.keepIn K (.ref f7) = true)
    (a8 : PySem.W.nsIn K mainGlobals "lesser" = some (some (.ref f8))) (l8 : K.lookup f8 = some ⟨oc8, od8, .func (PySem.W.fnOf "lesser" "lesser" (defArgs slesser) (defBody slesser) (defScope slesser) .none kV8 dc8 pm8 an8 cd8 ct8), sl8⟩) (c8 : PySem.W.codeIn K cd8 "lesser" = true) (k8 : PySem.W.keepIn K (.ref f8) = true)
    (a9 : PySem.W.nsIn K mainGlobals "is_crossed" = some (some (.ref f9))) (l9 : K.lookup f9 = some ⟨oc9, od9, .func (PySem.W.fnOf "is_crossed" "is_crossed" (defArgs siscrossed) (defBody siscrossed) (defScope siscrossed) .none kV9 dc9 pm9 an9 cd9 ct9), sl9⟩) (c9 : PySem.W.codeIn K cd9 "is_crossed" = true) (k9 : PySem.W.keepIn K (.ref f9) = true)
    (a10 : PySem.W.nsIn K mainGlobals "_law_mix" = some (some (.ref f10))) (l10 : K.lookup f10 = some ⟨oc10, od10, .func (PySem.W.fnOf "_law_mix" "_law_mix" (defArgs sLmix) (defBody sLmix) (defScope sLmix) .none kV10 dc10 pm10 an10 cd10 ct10), sl10⟩) (c10 : PySem.W.codeIn K cd10 "_law_mix" = true) (k10 : PySem.W.keepIn K (.ref f10) = true)
    (a11 : PySem.W.nsIn K mainGlobals "_law_next" = some (some (.ref f11))) (l11 : K.lookup f11 = some ⟨oc11, od11, .func (PySem.W.fnOf "_law_next" "_law_next" (defArgs sLnext) (defBody sLnext) (defScope sLnext) .none kV11 dc11 pm11 an11 cd11 ct11), sl11⟩) (c11 : PySem.W.codeIn K cd11 "_law_next" = true) (k11 : PySem.W.keepIn K (.ref f11) = true)
    (a12 : PySem.W.nsIn K mainGlobals "_law_shapes" = some (some (.ref f12))) (l12 : K.lookup f12 = some ⟨oc12, od12, .func (PySem.W.fnOf "_law_shapes" "_law_shapes" (defArgs sLshapes) (defBody sLshapes) (defScope sLshapes) .none kV12 dc12 pm12 an12 cd12 ct12), sl12⟩) (c12 : PySem.W.codeIn K cd12 "_law_shapes" = true) (k12 : PySem.W.keepIn K (.ref f12) = true)
    (a13 : PySem.W.nsIn K mainGlobals "_law_number" = some (some (.ref f13))) (l13 : K.lookup f13 = some ⟨oc13, od13, .func (PySem.W.fnOf "_law_number" "_law_number" (defArgs sLnumber) (defBody sLnumber) (defScope sLnumber) .none kV13 dc13 pm13 an13 cd13 ct13), sl13⟩) (c13 : PySem.W.codeIn K cd13 "_law_number" = true) (k13 : PySem.W.keepIn K (.ref f13) = true)
    (a14 : PySem.W.nsIn K mainGlobals "_law_term" = some (some (.ref f14))) (l14 : K.lookup f14 = some ⟨oc14, od14, .func (PySem.W.fnOf "_law_term" "_law_term" (defArgs sLterm) (defBody sLterm) (defScope sLterm) .none kV14 dc14 pm14 an14 cd14 ct14), sl14⟩) (c14 : PySem.W.codeIn K cd14 "_law_term" = true) (k14 : PySem.W.keepIn K (.ref f14) = true)
    (a15 : PySem.W.nsIn K mainGlobals "_law_cond" = some (some (.ref f15))) (l15 : K.lookup f15 = some ⟨oc15, od15, .func (PySem.W.fnOf "_law_cond" "_law_cond" (defArgs sLcond) (defBody sLcond) (defScope sLcond) .none kV15 dc15 pm15 an15 cd15 ct15), sl15⟩) (c15 : PySem.W.codeIn K cd15 "_law_cond" = true) (k15 : PySem.W.keepIn K (.ref f15) = true)
    (a16 : PySem.W.nsIn K mainGlobals "_law_some" = some (some (.ref f16))) (l16 : K.lookup f16 = some ⟨oc16, od16, .func (PySem.W.fnOf "_law_some" "_law_some" (defArgs sLsome) (defBody sLsome) (defScope sLsome) .none kV16 dc16 pm16 an16 cd16 ct16), sl16⟩) (c16 : PySem.W.codeIn K cd16 "_law_some" = true) (k16 : PySem.W.keepIn K (.ref f16) = true)
    (a17 : PySem.W.nsIn K mainGlobals "_law_both" = some (some (.ref f17))) (l17 : K.lookup f17 = some ⟨oc17, od17, .func (PySem.W.fnOf "_law_both" "_law_both" (defArgs sLboth) (defBody sLboth) (defScope sLboth) .none kV17 dc17 pm17 an17 cd17 ct17), sl17⟩) (c17 : PySem.W.codeIn K cd17 "_law_both" = true) (k17 : PySem.W.keepIn K (.ref f17) = true)
    (a18 : PySem.W.nsIn K mainGlobals "law" = some (some (.ref f18))) (l18 : K.lookup f18 = some ⟨oc18, od18, .func (PySem.W.fnOf "law" "law" (defArgs slaw) (defBody slaw) (defScope slaw) .none kV18 dc18 pm18 an18 cd18 ct18), sl18⟩) (c18 : PySem.W.codeIn K cd18 "law" = true) (k18 : PySem.W.keepIn K (.ref f18) = true)
    (z_len : PySem.W.nsIn K mainGlobals "len" = some none) (z_range : PySem.W.nsIn K mainGlobals "range" = some none) (z_list : PySem.W.nsIn K mainGlobals "list" = some none) (z_tuple : PySem.W.nsIn K mainGlobals "tuple" = some none) (z_max : PySem.W.nsIn K mainGlobals "max" = some none) (z_sorted : PySem.W.nsIn K mainGlobals "sorted" = some none) (z_min : PySem.W.nsIn K mainGlobals "min" = some none) (z_any : PySem.W.nsIn K mainGlobals "any" = some none) (z_set : PySem.W.nsIn K mainGlobals "set" = some none)
    (aC : PySem.W.nsIn K mainGlobals "COMPARISONS" = some (some (.ref fc)))
    (lC : K.lookup fc = some ⟨.type "tuple", odC, .seq itC nC, slC⟩)
    (hC : itC.size ≤ sizeLine)
    (vC : Vals (signs.map V.str) itC.toList)
    (aT : PySem.W.nsIn K mainGlobals "TURNED" = some (some (.ref ft)))
    (lT : K.lookup ft = some ⟨.type "dict", none, .dict esT nT, #[]⟩)
    (vT : PySem.W.KeysLit w.params esT.toList)
    (t1 : PySem.W.nsIn K ft "=" = some (some (.str "=" tk1)))
    (t2 : PySem.W.nsIn K ft "<" = some (some (.str ">" tk2)))
    (t3 : PySem.W.nsIn K ft ">" = some (some (.str "<" tk3)))
    (t4 : PySem.W.nsIn K ft "<=" = some (some (.str ">=" tk4)))
    (t5 : PySem.W.nsIn K ft ">=" = some (some (.str "<=" tk5))) :
    ∃ fd : FuncData, (∀ (s : Shared) (v : Value), BindsTo s fd ⟨[v], []⟩ [("_law_script", v)]) ∧ ∀ base : Heap, K.In base → base.Ns mainGlobals mg → FnOk l.prog w K mg base CX0 20 fa fd ["_law_script"] (spLaw K) := by
  have e := hfa.symm.trans (PySem.W.mg_of X G a18)
  cases e
  have m_len : mg "len" = none := PySem.W.mg_none_of X G z_len
  have m_range : mg "range" = none := PySem.W.mg_none_of X G z_range
  have m_list : mg "list" = none := PySem.W.mg_none_of X G z_list
  have m_tuple : mg "tuple" = none := PySem.W.mg_none_of X G z_tuple
  have m_max : mg "max" = none := PySem.W.mg_none_of X G z_max
  have m_sorted : mg "sorted" = none := PySem.W.mg_none_of X G z_sorted
  have m_min : mg "min" = none := PySem.W.mg_none_of X G z_min
  have m_any : mg "any" = none := PySem.W.mg_none_of X G z_any
  have m_set : mg "set" = none := PySem.W.mg_none_of X G z_set
  have F1 := fun_mk (st := sisso) l1 c1 k1
  have g1 : mg "is_so" = some (.ref f1) := PySem.W.mg_of X G a1
  have b1 := F1.binds (ps := ["sign", "one", "other"]) fun _ _ _ _ _ _ us hl => match us, hl with | [_, _, _], _ => rfl
  have F2 := fun_mk (st := sbounds) l2 c2 k2
  have g2 : mg "bounds" = some (.ref f2) := PySem.W.mg_of X G a2
  have b2 := F2.binds (ps := ["cond", "table"]) fun _ _ _ _ _ _ us hl => match us, hl with | [_, _], _ => rfl
  have F3 := fun_mk (st := smusts) l3 c3 k3
  have g3 : mg "musts" = some (.ref f3) := PySem.W.mg_of X G a3
  have b3 := F3.binds (ps := ["cond"]) fun _ _ _ _ _ _ us hl => match us, hl with | [_], _ => rfl
  have F4 := fun_mk (st := sisof) l4 c4 k4
  have g4 : mg "is_of" = some (.ref f4) := PySem.W.mg_of X G a4
  have b4 := F4.binds (ps := ["term", "table"]) fun _ _ _ _ _ _ us hl => match us, hl with | [_, _], _ => rfl
  have F5 := fun_mk (st := sends) l5 c5 k5
  have g5 : mg "ends" = some (.ref f5) := PySem.W.mg_of X G a5
  have b5 := F5.binds (ps := ["sign", "number"]) fun _ _ _ _ _ _ us hl => match us, hl with | [_, _], _ => rfl
  have F6 := fun_mk (st := snarrow) l6 c6 k6
  have g6 : mg "narrow" = some (.ref f6) := PySem.W.mg_of X G a6
  have b6 := F6.binds (ps := ["told", "field", "both"]) fun _ _ _ _ _ _ us hl => match us, hl with | [_, _, _], _ => rfl
  have F7 := fun_mk (st := sgreater) l7 c7 k7
  have g7 : mg "greater" = some (.ref f7) := PySem.W.mg_of X G a7
  have b7 := F7.binds (ps := ["one", "other"]) fun _ _ _ _ _ _ us hl => match us, hl with | [_, _], _ => rfl
  have F8 := fun_mk (st := slesser) l8 c8 k8
  have g8 : mg "lesser" = some (.ref f8) := PySem.W.mg_of X G a8
  have b8 := F8.binds (ps := ["one", "other"]) fun _ _ _ _ _ _ us hl => match us, hl with | [_, _], _ => rfl
  have F9 := fun_mk (st := siscrossed) l9 c9 k9
  have g9 : mg "is_crossed" = some (.ref f9) := PySem.W.mg_of X G a9
  have b9 := F9.binds (ps := ["least", "greatest"]) fun _ _ _ _ _ _ us hl => match us, hl with | [_, _], _ => rfl
  have F10 := fun_mk (st := sLmix) l10 c10 k10
  have g10 : mg "_law_mix" = some (.ref f10) := PySem.W.mg_of X G a10
  have b10 := F10.binds (ps := ["_law_script", "_law_seed"]) fun _ _ _ _ _ _ us hl => match us, hl with | [_, _], _ => rfl
  have F11 := fun_mk (st := sLnext) l11 c11 k11
  have g11 : mg "_law_next" = some (.ref f11) := PySem.W.mg_of X G a11
  have b11 := F11.binds (ps := ["_law_h", "_law_many"]) fun _ _ _ _ _ _ us hl => match us, hl with | [_, _], _ => rfl
  have F12 := fun_mk (st := sLshapes) l12 c12 k12
  have g12 : mg "_law_shapes" = some (.ref f12) := PySem.W.mg_of X G a12
  have b12 := F12.binds (ps := ["_law_h", "_law_many"]) fun _ _ _ _ _ _ us hl => match us, hl with | [_, _], _ => rfl
  have F13 := fun_mk (st := sLnumber) l13 c13 k13
  have g13 : mg "_law_number" = some (.ref f13) := PySem.W.mg_of X G a13
  have b13 := F13.binds (ps := ["_law_h"]) fun _ _ _ _ _ _ us hl => match us, hl with | [_], _ => rfl
  have F14 := fun_mk (st := sLterm) l14 c14 k14
  have g14 : mg "_law_term" = some (.ref f14) := PySem.W.mg_of X G a14
  have b14 := F14.binds (ps := ["_law_h", "_law_fields", "_law_deep"]) fun _ _ _ _ _ _ us hl => match us, hl with | [_, _, _], _ => rfl
  have F15 := fun_mk (st := sLcond) l15 c15 k15
  have g15 : mg "_law_cond" = some (.ref f15) := PySem.W.mg_of X G a15
  have b15 := F15.binds (ps := ["_law_h", "_law_fields", "_law_deep"]) fun _ _ _ _ _ _ us hl => match us, hl with | [_, _, _], _ => rfl
  have F16 := fun_mk (st := sLsome) l16 c16 k16
  have g16 : mg "_law_some" = some (.ref f16) := PySem.W.mg_of X G a16
  have b16 := F16.binds (ps := ["_law_h", "_law_shapes_here", "_law_tables"]) fun _ _ _ _ _ _ us hl => match us, hl with | [_, _, _], _ => rfl
  have F17 := fun_mk (st := sLboth) l17 c17 k17
  have g17 : mg "_law_both" = some (.ref f17) := PySem.W.mg_of X G a17
  have b17 := F17.binds (ps := ["_law_one", "_law_other"]) fun _ _ _ _ _ _ us hl => match us, hl with | [_, _], _ => rfl
  have F18 := fun_mk (st := slaw) l18 c18 k18
  have T1 : Txt mg := ⟨m_len, m_range, m_list, m_tuple, m_max⟩
  have TS : TxtS mg := ⟨T1, m_set, m_sorted, m_min⟩
  have TP : TxtP K w mg fc ft := ⟨m_any, m_max, m_min, PySem.W.mg_of X G aC, fun _ => .inr ⟨_, itC, nC, lC, rfl, rfl, hC, vC⟩, PySem.W.mg_of X G aT, fun op hop => by
    rcases sign_cases hop with rfl | rfl | rfl | rfl | rfl
    · exact ⟨esT, nT, _, lT, vT, t1, ⟨_, rfl⟩⟩
    · exact ⟨esT, nT, _, lT, vT, t2, ⟨_, rfl⟩⟩
    · exact ⟨esT, nT, _, lT, vT, t3, ⟨_, rfl⟩⟩
    · exact ⟨esT, nT, _, lT, vT, t4, ⟨_, rfl⟩⟩
    · exact ⟨esT, nT, _, lT, vT, t5, ⟨_, rfl⟩⟩⟩
  refine ⟨PySem.W.fnOf "law" "law" (defArgs slaw) (defBody slaw) (defScope slaw) .none kV18 dc18 pm18 an18 cd18 ct18, fun s v => .of_eq rfl, fun base _ _ => ?_⟩
  have C1 : Cal l.prog w K mg base 2 "is_so" ["sign", "one", "other"] spIsso f1 _ := ⟨g1, k1, b1, (ok_isso F1).mono (by decide)⟩
  have C3 : Cal l.prog w K mg base 2 "musts" ["cond"] (spMusts K) f3 _ := ⟨g3, k3, b3, (ok_musts F3 TP).mono (by decide)⟩
  have C4 : Cal l.prog w K mg base 2 "is_of" ["term", "table"] (spIsof K) f4 _ := ⟨g4, k4, b4, (ok_isof F4).mono (by decide)⟩
  have C5 : Cal l.prog w K mg base 2 "ends" ["sign", "number"] spEnds f5 _ := ⟨g5, k5, b5, (ok_ends F5).mono (by decide)⟩
  have C7 : Cal l.prog w K mg base 1 "greater" ["one", "other"] spGreater f7 _ := ⟨g7, k7, b7, ok_greater F7 TP⟩
  have C8 : Cal l.prog w K mg base 1 "lesser" ["one", "other"] spLesser f8 _ := ⟨g8, k8, b8, ok_lesser F8 TP⟩
  have C9 : Cal l.prog w K mg base 2 "is_crossed" ["least", "greatest"] spCrossed f9 _ := ⟨g9, k9, b9, (ok_crossed F9).mono (by decide)⟩
  have C6 : Cal l.prog w K mg base 2 "narrow" ["told", "field", "both"] (spNarrow K) f6 _ := ⟨g6, k6, b6, ok_narrow2 F6 C7 C8⟩
  have C2 : Cal l.prog w K mg base 19 "bounds" ["cond", "table"] (spBnd K) f2 _ := ⟨g2, k2, b2, (ok_bounds F2 TP C1 C3 C4 C5 C6 C9).mono (by decide)⟩
  have C10 : Cal l.prog w K mg base 19 "_law_mix" ["_law_script", "_law_seed"] (spMix K) f10 _ := ⟨g10, k10, b10, (ok_mix F10 T1).mono (by decide)⟩
  have C11 : Cal l.prog w K mg base 1 "_law_next" ["_law_h", "_law_many"] spNext f11 _ := ⟨g11, k11, b11, ok_next F11 T1⟩
  have C13 : Cal l.prog w K mg base 2 "_law_number" ["_law_h"] spNumber f13 _ := ⟨g13, k13, b13, ok_number F13 C11⟩
  have C12 : Cal l.prog w K mg base 19 "_law_shapes" ["_law_h", "_law_many"] (spShapes K) f12 _ := ⟨g12, k12, b12, (ok_shapes F12 T1 C11).mono (by decide)⟩
  have C14 : Cal l.prog w K mg base 4 "_law_term" ["_law_h", "_law_fields", "_law_deep"] (spTerm K 2) f14 _ := ⟨g14, k14, b14, all_term F14 T1 C11 C13 g14 b14 2⟩
  have C15 : Cal l.prog w K mg base 19 "_law_cond" ["_law_h", "_law_fields", "_law_deep"] (spCond K 4) f15 _ := ⟨g15, k15, b15, (all_cond F15 T1 C11 C14 g15 b15 4).mono (by decide)⟩
  have C16 : Cal l.prog w K mg base 19 "_law_some" ["_law_h", "_law_shapes_here", "_law_tables"] (spSome K) f16 _ := ⟨g16, k16, b16, (ok_some F16).mono (by decide)⟩
  have C17 : Cal l.prog w K mg base 19 "_law_both" ["_law_one", "_law_other"] (spBoth K) f17 _ := ⟨g17, k17, b17, (ok_both F17 TS).mono (by decide)⟩
  exact ok_law F18 TS C10 C12 C16 C15 C2 C17

theorem walk {l : PySem.W.OpenLaw} {q : Program} {loose : List Str} {XP : (Str → Option Value) → Heap → Prop} {YP : World → Heap → Prop} {d : DefRec} {K : Params → PySem.W.Frag} (hn : l.most = some 63) (hdf : d.params.defaults = [])
    (hY : ∀ (w : World) (h : Heap), YP w h → (K w.params).In h)
    (F : ∀ (w : World) (mg : Str → Option Value) (fa : Addr) (h : Heap), (K w.params).In h → h.Ns mainGlobals mg → mg d.name = some (.ref fa) →
      ∃ fd : FuncData, (∀ (s : Shared) (u : Value), BindsTo s fd ⟨[u], []⟩ [("_law_script", u)]) ∧ ∀ base : Heap, (K w.params).In base → base.Ns mainGlobals mg → FnOk l.prog w (K w.params) mg base CX0 20 fa fd ["_law_script"] (spLaw (K w.params))) :
    PySem.W.WalkO q loose XP YP l.row.toRowW d [] (fun f vs => PySem.call f vs) :=
  L2.walk_of (n := 63) (k := 20) (x := "_law_script") (CX := fun _ => CX0) (sp := fun w => spLaw (K w.params)) hn (by decide) hdf ⟨rfl, by decide, by decide⟩ hY F (fun _ _ a ns hl _ hS => ⟨a, ns, rfl, hS, hl, fun _ => rfl⟩) fun _ _ _ _ _ z => z
end K25
open PySem PySem.W PyProof.Rows in
set_option maxRecDepth 100000 in
set_option maxHeartbeats 0 in
theorem PySem.Challenge.cw_granary_k25_whole_what_several_condition_holds : PySem.Challenge.rw_granary_k25_whole_what_several_condition.Holds := by
  w_on; o_law; k_head; (case hw => w_witness2)
  k_fill
  refine K25.walk (l := PySem.Challenge.rw_granary_k25_whole_what_several_condition) rfl rfl (fun w h Y => PySem.W.kIn_of Y) ?F
  case F =>
    intro w mg fa h KX G hmg
    refine' K25.all_mk KX G hmg ?a1 ?l1 ?c1 ?k1 ?a2 ?l2 ?c2 ?k2 ?a3 ?l3 ?c3 ?k3 ?a4 ?l4 ?c4 ?k4 ?a5 ?l5 ?c5 ?k5 ?a6 ?l6 ?c6 ?k6 ?a7 ?l7 ?c7 ?k7 ?a8 ?l8 ?c8 ?k8 ?a9 ?l9 ?c9 ?k9 ?a10 ?l10 ?c10 ?k10 ?a11 ?l11 ?c11 ?k11 ?a12 ?l12 ?c12 ?k12 ?a13 ?l13 ?c13 ?k13 ?a14 ?l14 ?c14 ?k14 ?a15 ?l15 ?c15 ?k15 ?a16 ?l16 ?c16 ?k16 ?a17 ?l17 ?c17 ?k17 ?a18 ?l18 ?c18 ?k18 ?z_len ?z_range ?z_list ?z_tuple ?z_max ?z_sorted ?z_min ?z_any ?z_set ?aC ?lC ?hC ?vC ?aT ?lT ?vT ?t1 ?t2 ?t3 ?t4 ?t5
    (case a1 => k_is)
    (case l1 => k_is)
    (case c1 => k_is)
    (case k1 => k_is)
    (case a2 => k_is)
    (case l2 => k_is)
    (case c2 => k_is)
    (case k2 => k_is)
    (case a3 => k_is)
    (case l3 => k_is)
    (case c3 => k_is)
    (case k3 => k_is)
    (case a4 => k_is)
    (case l4 => k_is)
    (case c4 => k_is)
    (case k4 => k_is)
    (case a5 => k_is)
    (case l5 => k_is)
    (case c5 => k_is)
    (case k5 => k_is)
    (case a6 => k_is)
    (case l6 => k_is)
    (case c6 => k_is)
    (case k6 => k_is)
    (case a7 => k_is)
    (case l7 => k_is)
    (case c7 => k_is)
    (case k7 => k_is)
    (case a8 => k_is)
    (case l8 => k_is)
    (case c8 => k_is)
    (case k8 => k_is)
    (case a9 => k_is)
    (case l9 => k_is)
    (case c9 => k_is)
    (case k9 => k_is)
    (case a10 => k_is)
    (case l10 => k_is)
    (case c10 => k_is)
    (case k10 => k_is)
    (case a11 => k_is)
    (case l11 => k_is)
    (case c11 => k_is)
    (case k11 => k_is)
    (case a12 => k_is)
    (case l12 => k_is)
    (case c12 => k_is)
    (case k12 => k_is)
    (case a13 => k_is)
    (case l13 => k_is)
    (case c13 => k_is)
    (case k13 => k_is)
    (case a14 => k_is)
    (case l14 => k_is)
    (case c14 => k_is)
    (case k14 => k_is)
    (case a15 => k_is)
    (case l15 => k_is)
    (case c15 => k_is)
    (case k15 => k_is)
    (case a16 => k_is)
    (case l16 => k_is)
    (case c16 => k_is)
    (case k16 => k_is)
    (case a17 => k_is)
    (case l17 => k_is)
    (case c17 => k_is)
    (case k17 => k_is)
    (case a18 => k_is)
    (case l18 => k_is)
    (case c18 => k_is)
    (case k18 => k_is)
    (case z_len => k_is)
    (case z_range => k_is)
    (case z_list => k_is)
    (case z_tuple => k_is)
    (case z_max => k_is)
    (case z_sorted => k_is)
    (case z_min => k_is)
    (case z_any => k_is)
    (case z_set => k_is)
    (case aC => k_is)
    (case lC => k_is)
    (case hC => decide)
    (case vC => exact .cons ⟨_, rfl⟩ (.cons ⟨_, rfl⟩ (.cons ⟨_, rfl⟩ (.cons ⟨_, rfl⟩ (.cons ⟨_, rfl⟩ .nil)))))
    (case aT => k_is)
    (case lT => k_is)
    (case vT => exact ⟨⟨_, _, rfl, rfl⟩, ⟨_, _, rfl, rfl⟩, ⟨_, _, rfl, rfl⟩, ⟨_, _, rfl, rfl⟩, ⟨_, _, rfl, rfl⟩, trivial⟩)
    (case t1 => k_is)
    (case t2 => k_is)
    (case t3 => k_is)
    (case t4 => k_is)
    (case t5 => k_is)

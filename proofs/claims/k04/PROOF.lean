import PyProof.Rows.All
import Wide.All
import OpenK.AllK
import Wide.FinOn
import HandS.ForMost
import HandS.IsInst
import HandS.TupAny
import HandS.Deep
import HandS.DeepEq
import KE.GoesEnum
import HandS.Walk
import HandS.Style
import PySem.Challenge.RW_granary_k04_what_conditions_say_of_field
set_option Elab.async false
namespace RK
open PySem L2
section
variable {X : Cx} {K : PySem.W.Frag}
theorem ixL (h : X.K = K := by rfl) : IxR X (rIxL K) := by subst h; exact ix_list
theorem ixT (h : X.K = K := by rfl) : IxR X (rIxT K) := by subst h; exact ix_tup
theorem ixQ (h : X.K = K := by rfl) : IxR X (rIx K) := by subst h; exact ix_seq
theorem eqD (hu : X.A.units + 64 < cLine) (h : X.K = K := by rfl) : OpR X (compareOp .Eq) (rEqD K) := by subst h; exact op_eqD hu
theorem neD (hu : X.A.units + 64 < cLine) (h : X.K = K := by rfl) : OpR X (compareOp .NotEq) (rNeD K) := by subst h; exact op_neD hu
theorem inQ (h : X.K = K := by rfl) : OpR X (compareOp .In) (rIn K false) := by subst h; exact op_in_seq
theorem notInQ (h : X.K = K := by rfl) : OpR X (compareOp .NotIn) (rIn K true) := by subst h; exact op_notIn_seq
def rLenQ (K : PySem.W.Frag) : List V → Hp → VK → Prop := fun xs H Q => ∃ p ys, xs = [.ref p] ∧ (SqL K H p ys ∨ SqT K H p ys) ∧ Q (.int ys.length) H
theorem lenQ (h : X.K = K := by rfl) : CallR X (.builtin "len") (rLenQ K) := by subst h; exact call_len_seq
def rListQ (K : PySem.W.Frag) : List V → Hp → VK → Prop := fun xs H Q => ∃ p ys, xs = [.ref p] ∧ (SqL K H p ys ∨ SqT K H p ys) ∧ ∀ l, H l = none → Q (.ref l) (upd H l (.lst ys))
theorem listQ (h : X.K = K := by rfl) : CallR X (.type "list") (rListQ K) := by subst h; exact call_list_of
def rTupQ (K : PySem.W.Frag) : List V → Hp → VK → Prop := fun xs H Q => ∃ p ys, xs = [.ref p] ∧ ((SqL K H p ys ∧ ∀ l, H l = none → Q (.ref l) (upd H l (.tup ys))) ∨ (SqT K H p ys ∧ Q (.ref p) H))
theorem tupQ (h : X.K = K := by rfl) : CallR X (.type "tuple") (rTupQ K) := by subst h; exact call_tuple_of
theorem slL (h : X.K = K := by rfl) : SlR X (rSlL K) := by subst h; exact sl_list
theorem slT (h : X.K = K := by rfl) : SlR X (rSlA K) := by subst h; exact sl_tupA
theorem catT (h : X.K = K := by rfl) : OpR X (binaryOp .Add) (rCatA K) := by subst h; exact op_catA
theorem isi (h : X.K = K := by rfl) : CallR X (.builtin "isinstance") (rIsi K) := by subst h; exact call_isi
theorem isiT (h : X.K = K := by rfl) : CallR X (.builtin "isinstance") (rIsiT K) := by subst h; exact call_isiT
theorem piL {tg l : Expr} {tl : TE} (hl : PE X l tl) (h : X.K = K := by rfl) : PI X tg l (iList K tl) := by subst h; exact pi_list hl
theorem piT {tg l : Expr} {tl : TE} (hl : PE X l tl) (h : X.K = K := by rfl) : PI X tg l (iTup K tl) := by subst h; exact pi_tup hl
def rAllQ (K : PySem.W.Frag) : List V → Hp → VK → Prop := fun xs H Q => ∃ (a : Addr) (bs : List Bool), xs = [.ref a] ∧ SqL K H a (bs.map V.bl) ∧ Q (.bl (bs.all id)) H
def rAnyQ (K : PySem.W.Frag) : List V → Hp → VK → Prop := fun xs H Q => ∃ (a : Addr) (bs : List Bool), xs = [.ref a] ∧ SqL K H a (bs.map V.bl) ∧ Q (.bl (bs.any id)) H
theorem allQ (hc : X.calm = true) (h : X.K = K := by rfl) : CallR X (.builtin "all") (rAllQ K) := by subst h; exact cr_all hc
theorem anyQ (hc : X.calm = true) (h : X.K = K := by rfl) : CallR X (.builtin "any") (rAnyQ K) := by subst h; exact cr_any hc
theorem pgTup {es : List Expr} {kk n : Nat} {pos : Pos} {t : TGs} (hc : X.calm = true) (ht : PGs X es t) (h : X.K = K := by rfl) (hn : (assignEach es X.env).length = n := by rfl) (hst : (assignEach es X.env).findIdx? (·.1) = none := by rfl) :
    PG X (.Tuple es kk pos) (gTup K n t) := by subst h; exact pg_tup hc ht hn hst
end
end RK

set_option Elab.async false
namespace RK
open PySem L2
section
variable {X : Cx} {K : PySem.W.Frag} {o e : Expr} {es : List Expr} {to : TE} {t : TA} {name : Str} {apos cpos : Pos} {T id : String} {r : V → List V → Hp → VK → Prop}
/-- a method of a list, in a comprehension too -/
theorem bm (pa : PlainAttrs T) (slot : Slot T name id) (ty : typeOf (.builtin id) = pure (.type "method_descriptor")) (mt : MtR X id r) (ho : PE X o to) (ha : PA X (e :: es) t) (hK : X.K = K := by rfl)
    (h1 : attributeBase o name X.env (eval o X.env) = eval o X.env := by rfl)
    (h2 : ((backTo cpos (starEach (e :: es) X.env)).all (fun y => !y.1) && (backToKw cpos (keywordEach [] X.env)).all (fun y => y.1.isSome)
      && decide ((e :: es).length + ([] : List Keyword).length + (if ([] : List Keyword).isEmpty then 0 else 1) < 30)) = true := by rfl)
    (h3 : (apos.endLine == cpos.line) = true := by rfl) (h4 : starEach (e :: es) X.env = (false, eval e X.env) :: starEach es X.env := by rfl) (h5 : (backTo cpos (starEach es X.env)).any (·.1) = false := by rfl) :
    PE X (.Call (.Attribute o name apos) (e :: es) [] cpos) (tBM K T r to t) := by subst hK; exact pe_bm pa slot ty mt ho ha h1 h2 h3 h4 h5
theorem bm0 (pa : PlainAttrs T) (slot : Slot T name id) (ty : typeOf (.builtin id) = pure (.type "method_descriptor")) (mt : MtR X id r) (ho : PE X o to) (hK : X.K = K := by rfl)
    (h1 : attributeBase o name X.env (eval o X.env) = eval o X.env := by rfl) (h2 : (apos.endLine == cpos.line) = true := by rfl) : PE X (.Call (.Attribute o name apos) [] [] cpos) (tBM0 K T r to) := by subst hK; exact pe_bm0 pa slot ty mt ho h1 h2
def rDictQ (K : PySem.W.Frag) : List V → Hp → VK → Prop := fun xs H Q => ∃ (a : Addr) (ps : List Addr) (kvs : List (Key × V)), xs = [.ref a] ∧ SqL K H a (ps.map V.ref) ∧ Paired (fun q kv => SqT K H q [kV kv.1, kv.2]) ps kvs ∧ ∀ q, H q = none → Q (.ref q) (upd H q (.dK (mergeK [] kvs)))
theorem dictQ (hc : X.calm = true) (h : X.K = K := by rfl) : CallR X (.type "dict") (rDictQ K) := by subst h; exact call_dictP hc
theorem minQ (hc : X.calm = true) (h : X.K = K := by rfl) : CallR X (.builtin "min") (rMin K) := by subst h; exact cr_min hc
theorem indexQ (h : X.K = K := by rfl) : MtR X "list.index" (rIndex K) := by subst h; exact mt_index
theorem inD (hu : X.A.units + 65 < cLine) (h : X.K = K := by rfl) : OpR X (compareOp .In) (rInD K) := by subst h; exact op_inD hu
end
end RK

set_option Elab.async false
set_option maxRecDepth 100000
set_option maxHeartbeats 4000000
/-! a pair the other way about: t[::-1] -/
namespace RV
open PySem PySem.Spec PyProof.Rows L2
section
variable {prog : Program} {w : World} {A : Around} {E : Value → Shared → Prop} {s : Shared}
theorem back2 {sl : Addr} {vl vu vs : Value} {Q : Int × Int × Nat → Shared → Prop} (hs : s.heap.IsSliceOf sl vl vu vs) (pl : IsPart vl none) (pu : IsPart vu none) (ps : IsPart vs (some (-1)))
    (q : Q (1, -1, 2) s) : wpAny (model prog w) A (Builtin.Slice.sliceApplied (.ref sl) (pure 2)) Q E s := by
  obtain ⟨o, e1, e2, e3⟩ := id hs
  (unfold Builtin.Slice.sliceApplied; unfold Builtin.Slice.sliceFields)
  refine wpAny_bind (wpAny_bind (wpAny_field e1 e3 (x := vl) rfl (wpAny_bind (wpAny_field e1 e3 (x := vu) rfl (wpAny_bind (wpAny_field e1 e3 (x := vs) rfl (wpAny_pure (wpAny_bind (HT.slicePart_ ps ?_)))))))))
  show wpAny _ _ (if ((-1 : Int) == 0) = true then _ else _) _ _ s
  rw [if_neg (show ¬ ((-1 : Int) == 0) = true by decide)]
  refine wpAny_bind (HT.slicePart_ pl (wpAny_bind (HT.slicePart_ pu (wpAny_bind (wpAny_pure ?_)))))
  exact wpAny_pure q
theorem turned2 {t sl : Addr} {x y vl vu vs : Value} {Q : Value → Shared → Prop} (ht : IsTup s.heap t #[x, y]) (hs : s.heap.IsSliceOf sl vl vu vs) (pl : IsPart vl none) (pu : IsPart vu none) (ps : IsPart vs (some (-1)))
    (q : Q (.ref s.heap.objs.size) { s with heap := s.heap.push { cls := .type "tuple", data := .seq #[y, x] } }) : wpAny (model prog w) A (getItem (.ref t) (.ref sl)) Q E s := by
  have two : sizeOk (.seq #[y, x]) := by
    show (#[y, x] : Array Value).size ≤ sizeLine
    exact (by decide : 2 ≤ sizeLine)
  obtain ⟨o, e1, e2, e3⟩ := id hs
  have isSl : s.TypeIs (.ref sl) "slice" := ⟨o, e1, e2⟩
  (unfold getItem; try (with_reducible refine wpAny_holding ?_)); (first | refine wpAny_bind (wpAny_pure ?_) | skip)
  refine wpAny_bind (wpAny_sequenceKey ht.typeIs (by decide) (wpAny_bind (wpAny_callSpecial?_slot (name := Str.ofString "__getitem__") ht.typeIs PyProof.Rows.slot_tuple_getitem (wpAny_call_entry PyProof.Rows.slot_tuple_getitem ht.typeIs entry_tuple_getitem ?_ (args_tuple_getitem _ _)))))
  refine wpAny_bind (m := Builtin.Tuple.tupleItemsOf (.ref t)) (tupleItemsOf_ ht (wpAny_bind (wpAny_typeOf isSl ?_)))
  rw [if_pos (show (Value.type "slice" == Value.type "slice") = true by decide)]
  refine wpAny_bind (back2 hs pl pu ps ?_)
  show wpAny _ _ (if ((1 : Int) == 0 && (-1 : Int) == 1 && (2 : Nat) == 2) = true then _ else _) _ _ s
  rw [if_neg (show ¬ ((1 : Int) == 0 && (-1 : Int) == 1 && (2 : Nat) == 2) = true by decide)]
  show wpAny _ _ (Builtin.Tuple.tupleExact #[y, x] >>= _) _ _ s
  first
    | exact wpAny_bind (wpAny_newObj_type (wpAny_pure ⟨_, rfl, wpAny_pure q⟩) two)
    | exact wpAny_bind (wpAny_newObj_type (wpAny_bind (wpAny_pure (wpAny_pure ⟨_, rfl, wpAny_pure q⟩))) two)
end
end RV
namespace L2
open PySem PySem.Spec PyProof.Rows
section
variable {X : Cx}
/-- t[::-1], t a pair -/
def tRevP (K : PySem.W.Frag) (te : TE) : TE := fun σ H Q => te σ H fun x H1 => ∃ a u v, x = .ref a ∧ SqT K H1 a [u, v] ∧ ∀ p, H1 p = none → Q (.ref p) (upd H1 p (.tup [v, u]))
theorem pe_revP {K : PySem.W.Frag} {e : Expr} {te : TE} {k : Nat} {p1 p2 p3 pos : Pos} (he : PE X e te) (hK : X.K = K := by rfl) :
    PE X (.Subscript e (.Slice none none (some (.UnaryOp .USub (.Constant (.int 1) k p1) p2)) p3) pos) (tRevP K te) := by
  subst hK
  refine ⟨fun pins s σ H Q I h => Subscript_ (thn (he.run pins s σ H _ I h) fun v0 s1 ⟨x, H1, I1, r1, z⟩ => ?_)⟩
  obtain ⟨a, u, v, ex, hx, q⟩ := z
  subst ex
  cases r1
  have hm : PO X (some (.UnaryOp .USub (.Constant (.int 1) k p1) p2)) (tPart (tUn (rU fun i => .int (-i)) (tC (.int 1)))) := po_some (pe_un un_neg pe_int)
  refine wpAny_Slice (thn (po_none.run pins s1 σ H1 (fun o H2 => o = none ∧ H2 = H1) I1 ⟨rfl, rfl⟩) fun vl s2 ⟨l, H2, I2, pl, ea, eb⟩ => ?_)
  subst ea eb
  refine thn (po_none.run pins s2 σ H2 (fun o H3 => o = none ∧ H3 = H2) I2 ⟨rfl, rfl⟩) fun vu s3 ⟨o3, H3, I3, pu, ea, eb⟩ => ?_
  subst ea eb
  refine thn (hm.run pins s3 σ H3 (fun o H4 => o = some (-1) ∧ H4 = H3) I3 ⟨1, rfl, -1, rfl, rfl, rfl⟩) fun vs s4 ⟨o, H4, I4, ps, ea, eb⟩ => ?_
  subst ea eb
  have J : Inv X pins σ H4 { s4 with heap := s4.heap.push { cls := .type "slice", data := .fields #[vl, vu, vs] } } := I4.kept (t' := s4.toks) fun b ob c => Heap.get?_push_of_some _ c
  obtain ⟨its, r, ht, hz⟩ := J.tuple hx
  obtain ⟨u1, v1, rfl, ru, rv⟩ := vals2 r
  show wpAny _ X.A (subscriptTail e (.Slice none none (some (.UnaryOp .USub (.Constant (.int 1) k p1) p2)) p3) (.ref a) (.ref s4.heap.objs.size)) _ X.xe _
  refine tail_any (ops := [.ref a, .ref s4.heap.objs.size]) ht.typeIs PyProof.Rows.slot_tuple_getitem.lookup ?_ (by with_unfolding_all rfl)
  refine RV.turned2 ht (Heap.IsSliceOf.new _ vl vu vs) pl pu ps ?_
  exact ⟨.ref _, _, J.laid (t' := s4.toks) (o := .tup [v, u]) (fun b ob c => Heap.get?_push_of_some _ c) (Nat.le_refl _) ⟨(by decide : 2 ≤ sizeLine), [v1, u1], .cons rv (.cons ru .nil), IsTup.new _ _⟩, rfl, q _ (J.hok.fresh (Nat.le_refl _))⟩
end
end L2

set_option Elab.async false
set_option maxRecDepth 100000
set_option maxHeartbeats 4000000
/-! a != b, two dicts that are equal, or None twice -/
namespace L2
open PySem PySem.Spec PyProof.Rows
def AlikeV (K : PySem.W.Frag) (H : Hp) (x u : V) : Prop := ∃ d e, Dp K H x d ∧ Dp K H u e ∧ SeqAt.shaped d = true ∧ SeqAt.shaped e = true ∧ PyData.eqv d e = true
def rNeSame (K : PySem.W.Frag) : R2 := fun x y H Q => (x = .non ∧ y = .non ∧ Q (.bl false) H) ∨
  ∃ a b ks ls, x = .ref a ∧ y = .ref b ∧ H a = some (.dK ks) ∧ H b = some (.dK ls) ∧ ks.length = ls.length ∧ (∀ p ∈ ks, ∃ u, valV ls p.1 = some u ∧ AlikeV K H p.2 u) ∧ Q (.bl false) H
section
variable {X : Cx} {pins : List (Addr × Obj)} {σ : St} {H : Hp} {s : Shared}
theorem same_hits (I : Inv X pins σ H s) {A : Around} (hu : A.in1.units + 64 < cLine) {ls : List (Key × V)} {vb : List (Key × Value)} (rb : KV ls vb) {ks : List (Key × V)} {va : List (Key × Value)} (ra : KV ks va) :
    (∀ p ∈ ks, ∃ u, valV ls p.1 = some u ∧ AlikeV X.K H p.2 u) → PySem.W.KeqHits A.in1 s vb va true := by
  unfold KV at ra
  induction ra with
  | nil => exact fun _ => .nil
  | @cons p q ps qs h t ih =>
    intro all
    obtain ⟨u, e1, d, e, d1, d2, sd, se, ev⟩ := all p List.mem_cons_self
    have rr : RelO (some u) (valueAt vb p.1) := by rw [← e1]; exact rb.val p.1
    obtain ⟨y, hy, ry⟩ := rr.some_of
    obtain ⟨key, v⟩ := q
    obtain ⟨k1, k2⟩ := h
    have k1 : p.1 = key := k1
    rw [k1] at hy
    obtain ⟨as, r1⟩ := Dp.reads I d _ _ d1 k2
    obtain ⟨bs, r2⟩ := Dp.reads I e _ _ d2 ry
    have at1 := PySem.W.keq_at (A := A) r1 r2 sd se hu
    rw [ev] at at1
    exact .hit (b := true) hy at1 (ih fun p' m => all p' (List.mem_cons_of_mem _ m))
theorem op_neSame {K : PySem.W.Frag} (hu : X.A.units + 66 < cLine) (hK : X.K = K := by rfl) : OpR X (compareOp .NotEq) (rNeSame K) := by
  subst hK
  intro pins s σ H x y v u Q I rx ry h
  rcases h with ⟨rfl, rfl, q⟩ | ⟨a, b, ks, ls, rfl, rfl, ha, hb, hl, all, q⟩
  · exact op_ne pins s σ H .non .non v u Q I rx ry ⟨rfl, q⟩
  · obtain rfl : v = Value.ref a := rx
    obtain rfl : u = Value.ref b := ry
    obtain ⟨_, ya, va, ra, da⟩ := (show ObjOk X.prog X.w H s.heap a (.dK ks) from I.hok a _ ha)
    obtain ⟨_, yb, vb, rb, db⟩ := (show ObjOk X.prog X.w H s.heap b (.dK ls) from I.hok b _ hb)
    refine PySem.W.keq_ne (knd := mixKind X.prog X.w) (r := true) ya yb da db (by omega) (fun _ => same_hits I (A := X.A) (by show X.A.units + 1 + 64 < cLine; omega) rb ra all) ?_
    have e : va.length = vb.length := by rw [← ra.length, ← rb.length]; exact hl
    rw [show (!(va.length == vb.length && true)) = false by rw [e]; simp]
    exact ⟨.bl false, H, I, rfl, q⟩
end
end L2

set_option Elab.async false
set_option maxRecDepth 100000
set_option maxHeartbeats 4000000
namespace EN
open PySem PySem.Spec PyProof.Rows L2
open Sem (wp)
/-- enumerate(v) of anything whose iter is told -/
theorem enum_new1 {v : Value} {ob : Obj} {G : Heap → Prop} (B : Begins v ob G) :
    Meets (Builtin.«enumerate.__new__» ⟨[.type "enumerate", v], []⟩) (fun _ R s => G s.heap ∧
      R (.ok (.ret (.ref (s.heap.push ob).objs.size))) { s with heap := (s.heap.push ob).push ⟨.type "enumerate", none, .fields #[.none, .bool false, .ref s.heap.objs.size, rawInt 0, .none, .none], #[]⟩ }) :=
  .of_wp fun prog w A R sh hh => by
    obtain ⟨hp, gg, dd, tt, oo⟩ := sh; obtain ⟨g1, hh⟩ := hh
    have hsub := sub_enumerate
    have qi : ∀ {A' : Around} {E Q : Value → Shared → Prop}, Q (.ref hp.objs.size) ⟨hp.push ob, gg, dd, tt, oo⟩ → wpAny (model prog w) A' (pyIter v) Q E ⟨hp, gg, dd, tt, oo⟩ :=
      fun q => B.iter prog w _ _ ⟨hp, gg, dd, tt, oo⟩ _ g1 q
    wp_walk using qi
    refine wpAny_stack_any fun stk => wpAny_pure ?_
    split
    · rename_i cc _ _ _ _ _
      cases (cc == Value.type "enumerate")
      · wp_walk using qi
        exact ⟨_, rfl, hh⟩
      · wp_walk using qi
        exact ⟨_, rfl, hh⟩
    · wp_walk using qi
      exact ⟨_, rfl, hh⟩
theorem enum_call1 {prog : Program} {w : World} {A : Around} {E Q : Value → Shared → Prop} {s : Shared} {v : Value} {ob : Obj} {G : Heap → Prop} (B : Begins v ob G) (g1 : G s.heap)
    (k : ∀ h2, IsEnum h2 (s.heap.objs.size + 1) s.heap.objs.size 0 .none → h2.get? s.heap.objs.size = some ob → h2.objs.size = s.heap.objs.size + 2 →
      (∀ b o, s.heap.get? b = some o → h2.get? b = some o) → Q (.ref (s.heap.objs.size + 1)) { s with heap := h2 }) :
    wpAny (model prog w) A (call (.type "enumerate") [v]) Q E s := by
  refine callType_new F.called_enumerate (by decide) (F.typeCall_enumerate_1 _) (F.newCall_enumerate_1 _) (fun oj => F.args_object_init_2 oj _) F.entry_enumerate_new (enum_new1 B) ⟨g1, ?_⟩
  have hz : (s.heap.push ob).objs.size = s.heap.objs.size + 1 := Heap.size_push ..
  show _ ∧ _
  rw [hz]
  have he : IsEnum ((s.heap.push ob).push ⟨.type "enumerate", none, .fields #[.none, .bool false, .ref s.heap.objs.size, rawInt 0, .none, .none], #[]⟩) (s.heap.objs.size + 1) s.heap.objs.size 0 .none := by
    have q := Heap.get?_push_size (s.heap.push ob) (o := ⟨.type "enumerate", none, .fields #[.none, .bool false, .ref s.heap.objs.size, rawInt 0, .none, .none], #[]⟩) rfl
    rw [hz] at q
    exact q
  exact ⟨⟨_, he, rfl⟩, k _ he (Heap.get?_push_of_some _ (Heap.get?_push_size _ B.free)) (by rw [Heap.size_push, hz]) fun b o x => Heap.get?_push_of_some _ (Heap.get?_push_of_some _ x)⟩
/-- a tuple at a, each item in a new pair -/
def IteT (K : PySem.W.Frag) (a : Addr) : It :=
  ⟨fun i H => ∃ (xs : List V) (x : V), SqT K H a xs ∧ xs[i]? = some x, fun i H v H' => ∃ T x, v = .ref T ∧ H T = none ∧ H' = upd H T (.tup [.int (i : Nat), x]) ∧ ∀ xs, SqT K H a xs → xs[i]? = some x,
    fun i H => ∃ xs : List V, SqT K H a xs ∧ xs.length ≤ i⟩
theorem turn_enumT {P : Program} {w : World} {K : PySem.W.Frag} {elts : List Expr} {kk : Nat} {tpos : Pos} (a e it : Addr) :
    Turn P w K (.Tuple elts kk tpos) (IteT K a) [e, it] e (fun i h => (∃ old, IsEnum h e it ((i : Nat) : Int) old) ∧ h.IsTupleIter it a i ∧ e ≠ it ∧ e ≠ a ∧ a ≠ it) where
  mem := by simp
  obj := fun i h st b hb => by
    obtain ⟨⟨old, he⟩, ⟨o, ho, hc, hd⟩, _⟩ := st
    have e' : b = e ∨ b = it := by simpa using hb
    rcases e' with z | z
    · rw [z]; exact ⟨_, he, fun v q => nomatch q⟩
    · rw [z]; exact ⟨o, ho, fun v q => by rw [hd] at q; cases q⟩
  keep := fun i h h' st k => let ⟨⟨old, he⟩, hi, hne⟩ := st; ⟨⟨old, k e (by simp) _ he⟩, hi.at fun o q => k it (by simp) o q, hne⟩
  item := by
    intro X hP hw hK hc i pins s σ H E I hf st hg
    subst hP hw hK
    obtain ⟨⟨old, he⟩, hit, hne, hea, hai⟩ := st
    obtain ⟨xs, x, hq, hx⟩ := hg
    obtain ⟨its, rv, p, hz⟩ := I.tuple hq
    obtain ⟨u, hu, ru⟩ := rv.get hx
    have hel : e < s.heap.objs.size := Heap.lt_size he
    have hil : it < s.heap.objs.size := by obtain ⟨_, q, _⟩ := hit; exact Heap.lt_size q
    have pt : s.heap.IsTuple a its.toArray := p
    have hlt : i < its.toArray.size := by
      have q := (List.getElem?_eq_some_iff.mp hu).1
      simpa using q
    refine wpAny_pyNext_enum_itemD (Draws.tuple (A := X.A.in1) (show X.A.in1.handled = none from I.ok.hd hc) it a hai its.toArray) he ⟨hit, pt⟩ hlt hne (by simp [hne, hea]) fun y h' tk hy ho hit' hT hsz hk => ?_
    obtain rfl : y = u := by
      have q : its.toArray[i]? = some u := by simpa using hu
      rw [hy] at q
      exact Option.some.inj q
    refine ⟨_, rfl, wpAny_letOwnedTupleGo_enum (s := { s with heap := h', toks := tk + 1 }) ho fun h'' he' sb => ?_⟩
    have hT2 : h''.get? s.heap.objs.size = some { cls := .type "tuple", data := .seq #[.int i tk, y] } := (sb.2 _ (Nat.ne_of_gt hel)).trans hT
    have new : ObjOk X.prog X.w (upd H s.heap.objs.size (.tup [.int (i : Nat), x])) h'' s.heap.objs.size (.tup [.int (i : Nat), x]) :=
      ⟨by show 2 ≤ sizeLine; decide, [.int i tk, y], .cons ⟨_, rfl⟩ (.cons ru .nil), ⟨_, hT2, rfl, _, rfl⟩⟩
    have I1 : Inv X pins σ (upd H s.heap.objs.size (.tup [.int (i : Nat), x])) { s with heap := h'', toks := tk + 1 } :=
      I.turnedNew (ch := [e, it]) (fun b ob hb q => (sb.2 b (fun z => hb (by simp [z]))).trans (hk b ob (fun z => hb (by simp [z])) (fun z => hb (by simp [z])) q)) hf (Nat.le_refl _) new
    refine ⟨.ref s.heap.objs.size, _, I1, rfl, ⟨_, x, rfl, I.hok.fresh (Nat.le_refl _), rfl, fun ys hy => by rw [I.tuple_inj hy hq]; exact hx⟩, ⟨⟨y, ?_⟩, hit'.1.at fun o q => (sb.2 it (Ne.symm hne)).trans q, hne, hea, hai⟩, fun b hb => ?_⟩
    · have e1 : ((i + 1 : Nat) : Int) = (i : Int) + 1 := by omega
      rw [e1]; exact he'
    · have hb' : b < s.heap.objs.size := by
        have e' : b = e ∨ b = it := by simpa using hb
        rcases e' with z | z
        · rw [z]; exact hel
        · rw [z]; exact hil
      rw [upd_ne (Nat.ne_of_lt hb')]
      exact (hf b hb).1
  done := by
    intro X hP hw hK hc i pins s σ H E I hf st hg
    subst hP hw hK
    obtain ⟨⟨old, he⟩, hit, hne, hea, hai⟩ := st
    obtain ⟨xs, hq, hx⟩ := hg
    obtain ⟨its, rv, p, hz⟩ := I.tuple hq
    obtain ⟨f0, f1, f2, f3, f4, f5⟩ := hf it (by simp)
    have hl := rv.length
    have pt : s.heap.IsTuple a its.toArray := p
    have hh : X.A.handled = none := I.ok.hd hc
    unfold pyNext
    refine wpAny_bind (wpAny_attempt (wpAny_callSpecial?_slot (name := Str.ofString "__next__") ⟨_, he, rfl⟩ F.slot_enumerate_next (wpAny_call_entry F.slot_enumerate_next ⟨_, he, rfl⟩ F.entry_enumerate_next ?_ (F.args_enumerate_next_1 _))))
    show wpAny _ _ (field (.ref e) 2 >>= _) _ _ _
    refine wpAny_bind (wpAny_field he rfl (x := .ref it) rfl ?_)
    refine wpAny_bind (wpAny_nextOf_tuple_end hh hit pt (by simp; omega) fun h' x he' hx' => ?_)
    obtain ⟨o, ho, hc⟩ := hx'
    exact wpAny_bind (wpAny_isInstance (T := "StopIteration") (b := true) ⟨o, ho, hc⟩ isSubtype_stop (wpAny_pure ⟨rfl, I.turned (t' := s.toks) (fun b o hb q => he' b o hb q) f0 f1 f3 f4 f5⟩))
  self := fun A i s Q E st h => let ⟨⟨_, he⟩, _⟩ := st; wpAny_pyIter_enum he h
def iEnumT (K : PySem.W.Frag) (ta : TA) : TI := fun σ H R => ta σ H fun vs H1 => ∃ a xs, vs = [.ref a] ∧ SqT K H1 a xs ∧ R (IteT K a) H1
theorem pi_enumT {X : Cx} {K : PySem.W.Frag} {e : Expr} {ta : TA} {p pos tpos : Pos} {elts : List Expr} {kk : Nat} (hg : Gl X "enumerate") (hm : X.mg "enumerate" = none) (ha : PA X [e] ta) (hK : X.K = K := by rfl) (hs : starEach [e] X.env = [(false, eval e X.env)] := by rfl) :
    PI X (.Tuple elts kk tpos) (.Call (.Name "enumerate" p) [e] [] pos) (iEnumT K ta) := by
  subst hK
  refine ⟨fun pins s σ H R I h => ?_⟩
  refine Call_ (ld_blt I hg hm boot_enumerate (PyProof.Rows.callWith_type1 (thn (ha.run pos pins s σ H _ I h) fun us s1 ⟨vs, H1, I1, r1, q1⟩ => ?_) hs rfl))
  obtain ⟨a, xs, ex, hq, q⟩ := q1
  subst ex
  cases r1 with
  | cons r rr =>
    cases rr
    cases r
    obtain ⟨its, rv, p', hz⟩ := I1.tuple hq
    have pt : s1.heap.IsTuple a its.toArray := p'
    have hal : a < s1.heap.objs.size := by obtain ⟨_, q, _⟩ := id pt; exact Heap.lt_size q
    refine enum_call1 (begins_tuple a its.toArray) pt fun h' he hit hsz hk => wpAny_pyIter_enum he ?_
    have I2 : Inv X pins σ H1 { s1 with heap := h' } := I1.kept (t' := s1.toks) hk
    refine ⟨s1.heap.objs.size + 1, [s1.heap.objs.size + 1, s1.heap.objs.size], _, _, H1, rfl, I2, turn_enumT a (s1.heap.objs.size + 1) s1.heap.objs.size,
      ⟨⟨.none, he⟩, ⟨_, hit, rfl, rfl⟩, Nat.succ_ne_self _, Nat.ne_of_gt (Nat.lt_succ_of_lt hal), Nat.ne_of_lt hal⟩, fun b hb => ?_, q⟩
    have e' : b = s1.heap.objs.size + 1 ∨ b = s1.heap.objs.size := by simpa using hb
    have hle : s1.heap.objs.size ≤ b := by
      rcases e' with z | z
      · rw [z]; exact Nat.le_add_right _ _
      · rw [z]; exact Nat.le_refl _
    exact I1.fpOk hle (I1.hok.fresh hle)
theorem walk_enumT {K : PySem.W.Frag} {a : Addr} {xs : List V} : Walk (IteT K a) xs.length (fun H => SqT K H a xs) (YPair (fun i => some (.int (i : Nat))) (fun i => xs[i]?)) where
  goes := fun i H hi q => ⟨xs, xs[i], q, List.getElem?_eq_getElem hi⟩
  stops := fun H q => ⟨xs, q, Nat.le_refl _⟩
  yields := fun i H x H' hi q y => let ⟨T, z, e1, e2, e3, e4⟩ := y; ⟨T, _, z, e1, e2, e3, rfl, e4 xs q⟩
end EN

set_option Elab.async false
set_option maxRecDepth 100000
set_option maxHeartbeats 4000000
namespace K04
open PySem L2
def top (i : Nat) : Stmt := PySem.Challenge.pw_granary_k04_what_conditions_say_of_field.main.body.getD i (.Pass ⟨0, 0, 0, 0⟩)
abbrev sisso : Stmt := top 2
abbrev sbounds : Stmt := top 5
abbrev smusts : Stmt := top 6
abbrev sisof : Stmt := top 7
abbrev sends : Stmt := top 8
abbrev snarrow : Stmt := top 9
abbrev sgreater : Stmt := top 10
abbrev slesser : Stmt := top 11
abbrev siscrossed : Stmt := top 12
abbrev sLmix : Stmt := top 14
abbrev sLnext : Stmt := top 15
abbrev sLalike : Stmt := top 16
abbrev sLshapes : Stmt := top 17
abbrev sLnumber : Stmt := top 18
abbrev sLterm : Stmt := top 19
abbrev sLcond : Stmt := top 20
abbrev sLsome : Stmt := top 21
abbrev sLask : Stmt := top 22
abbrev sLstatement : Stmt := top 23
abbrev sLparts : Stmt := top 24
abbrev sLfits : Stmt := top 25
abbrev sLdue : Stmt := top 26
abbrev slaw : Stmt := top 27

/-- what is drawn from: a number, the cells, a place -/
def HAt (H : Hp) (a b : Addr) : Prop := ∃ (z p : Int) (cs : List Int), H a = some (.lst [.int z, .ref b, .int p]) ∧ H b = some (.lst (cs.map V.int)) ∧ cs.length ≤ 63
def Keep (a b : Addr) (H H' : Hp) : Prop := ∀ x o, x ≠ a → x ≠ b → H x = some o → H' x = some o
theorem Keep.refl (a b : Addr) (H : Hp) : Keep a b H H := fun _ _ _ _ h => h
theorem Keep.trans {a b : Addr} {H H1 H2 : Hp} (p : Keep a b H H1) (q : Keep a b H1 H2) : Keep a b H H2 := fun x o h1 h2 h => q x o h1 h2 (p x o h1 h2 h)
theorem Keep.at1 {a b : Addr} {H : Hp} {o : HO} : Keep a b H (upd H a o) := fun x u h1 _ h => by rw [upd_ne h1]; exact h
theorem Keep.at2 {a b : Addr} {H : Hp} {o : HO} : Keep a b H (upd H b o) := fun x u _ h2 h => by rw [upd_ne h2]; exact h
theorem Keep.same {a b : Addr} {H H' : Hp} (s : Same H H') : Keep a b H H' := fun x o _ _ h => s x o h
theorem Same.new {H : Hp} {p : Addr} {o : HO} (hp : H p = none) : Same H (upd H p o) := fun b u e => by rw [upd_ne (ne_of_none e hp)]; exact e
theorem HAt.same {H H' : Hp} {a b : Addr} (B : HAt H a b) (s : Same H H') : HAt H' a b := by
  obtain ⟨z, p, cs, h1, h2, h3⟩ := B
  exact ⟨z, p, cs, s _ _ h1, s _ _ h2, h3⟩
theorem HAt.ne {H : Hp} {a b : Addr} (B : HAt H a b) {D : Addr} (hD : H D = none) : D ≠ a ∧ D ≠ b := by
  obtain ⟨z, p, cs, ha, hb, _⟩ := B
  exact ⟨fun e => (by rw [e, ha] at hD; cases hD), fun e => (by rw [e, hb] at hD; cases hD)⟩
theorem HAt.upd {H : Hp} {a b D : Addr} {o : HO} (B : HAt H a b) (n : D ≠ a ∧ D ≠ b) : HAt (upd H D o) a b := by
  obtain ⟨z, p, cs, ha, hb, hc⟩ := B
  exact ⟨z, p, cs, by rw [upd_ne n.1.symm]; exact ha, by rw [upd_ne n.2.symm]; exact hb, hc⟩
/-- all that is no list stays -/
def KeepN (H H' : Hp) : Prop := ∀ x o, (∀ ys, o ≠ .lst ys) → H x = some o → H' x = some o
theorem Keep.n {a b : Addr} {H H' : Hp} (B : HAt H a b) (k : Keep a b H H') : KeepN H H' := fun x o no h => by
  obtain ⟨z, p, cs, ha, hb, _⟩ := B
  exact k x o (fun e => by rw [e, ha] at h; cases h; exact no _ rfl) (fun e => by rw [e, hb] at h; cases h; exact no _ rfl) h
theorem KeepN.of {H H' : Hp} (s : Same H H') : KeepN H H' := fun x o _ h => s x o h
theorem KeepN.trans {H H1 H2 : Hp} (p : KeepN H H1) (q : KeepN H1 H2) : KeepN H H2 := fun x o no h => q x o no (p x o no h)
/-- what is no list stays where a list is changed -/
theorem KeepN.lst {H : Hp} {D : Addr} {xs ys : List V} (h : H D = some (.lst xs)) : KeepN H (upd H D (.lst ys)) := fun x o no e => by
  rw [upd_ne (ne_of e h (no _))]
  exact e
theorem sqT_mono {K : PySem.W.Frag} {H H' : Hp} {a : Addr} {xs : List V} (k : ∀ o, (∀ ys, o ≠ .lst ys) → H a = some o → H' a = some o) (h : SqT K H a xs) : SqT K H' a xs := by
  rcases h with (h | ⟨o, h⟩) | h
  · exact .inl (.inl (k _ (fun _ e => nomatch e) h))
  · exact .inl (.inr ⟨o, k _ (fun _ e => nomatch e) h⟩)
  · exact .inr h
theorem KeepN.t {K : PySem.W.Frag} {H H' : Hp} (k : KeepN H H') {a : Addr} {xs : List V} (h : SqT K H a xs) : SqT K H' a xs := sqT_mono (k a) h
theorem getI {ns : List Int} {i : Nat} {y : V} (h : (ns.map V.int)[i]? = some y) : ∃ z, ns[i]? = some z ∧ y = V.int z := by
  rw [List.getElem?_map] at h
  cases e : ns[i]? with
  | none => rw [e] at h; cases h
  | some u => rw [e] at h; exact ⟨u, rfl, (Option.some.inj h).symm⟩
theorem fmod_lt {x n : Int} (h : 0 < n) : 0 ≤ x.fmod n ∧ x.fmod n < n := ⟨Int.fmod_nonneg_of_pos x h, Int.fmod_lt_of_pos x h⟩
theorem ixN_of {n : Nat} {i : Int} (h0 : 0 ≤ i) (h1 : i < n) : ixN n i = some i.toNat := by
  unfold ixN
  rw [if_pos h0, if_pos h1]
theorem atI_of {α : Type} {xs : List α} {i : Int} {v : α} (h0 : 0 ≤ i) (h : xs[i.toNat]? = some v) : atI xs i = some v := by
  have e : ((i.toNat : Nat) : Int) = i := Int.toNat_of_nonneg h0
  rw [← e]
  exact atI_nat h
structure Txt (mg : Str → Option Value) : Prop where
  len : mg "len" = none
  range : mg "range" = none
  list : mg "list" = none
  tuple : mg "tuple" = none
  max : mg "max" = none
structure Cal (P : Program) (w : World) (K : PySem.W.Frag) (mg : Str → Option Value) (base : Heap) (k : Nat) (x : Str) (ps : List Str) (sp : Sp) (f : Addr) (fd : FuncData) : Prop where
  g : mg x = some (.ref f)
  kp : PySem.W.keepIn K (.ref f) = true
  b : Binds K fd ps []
  G : FnOk P w K mg base CX0 k f fd ps sp
def spMix (K : PySem.W.Frag) : Sp := fun vs H Q _ => ∃ (l : Addr) (ns : List Int) (sd : Int), vs = [.ref l, .int sd] ∧ SqL K H l (ns.map V.int) ∧ ns.length ≤ 63 ∧ ∀ (a b : Addr) (H' : Hp), H a = none → H b = none → HAt H' a b → Same H H' → Q (.ref a) H'
def spNext : Sp := fun vs H Q _ => ∃ (a b : Addr) (n : Int), vs = [.ref a, .int n] ∧ 0 < n ∧ n < 1000000 ∧ HAt H a b ∧ ∀ (r : Int) (H' : Hp), 0 ≤ r → r < n → HAt H' a b → Keep a b H H' → Q (.int r) H'
section
variable {P : Program} {w : World} {K : PySem.W.Frag} {mg : Str → Option Value} {base : Heap}
theorem scMix : FnScope ["_law_script", "_law_seed", "_law_mixed", "_law_cell"] ["_law_script", "_law_seed"] (defScope sLmix) := ⟨rfl, rfl, rfl, by decide +kernel, rfl, by decide +kernel, by decide +kernel⟩
theorem ok_mix {f : Addr} {fd : FuncData} (F : Fun K "_law_mix" "_law_mix" sLmix f fd) (T : Txt mg) : FnOk P w K mg base CX0 1 f fd ["_law_script", "_law_seed"] (spMix K) := by
  refine F.ok scMix (fun vs H Q E h => ?_) (fun cdv A outer s H vs Q E hr h => ?_)
  · obtain ⟨l, ns, sd, rfl, _⟩ := h
    rfl
  · obtain ⟨l, ns, sd, rfl, hS, hl, k⟩ := h
    refine ⟨_, (pss_cons (ps_set (i := 2) scMix.nd rfl (Or.inl rfl) (pv 1))
      (pss_cons (ps_for PassesOwn.never rfl (RK.piL (K := K) (pv 0)) (pg_name (i := 3) scMix.nd rfl (Or.inl rfl))
        (pss_one (ps_set (i := 2) scMix.nd rfl (Or.inl rfl) (pe_op op_mod (pe_op op_add (pe_op op_add (pe_op op_mul (pv 2) pe_int) (pe_op op_mod (pv 3) pe_int)) pe_int) pe_int))))
      (pss_one (ps_ret (pe_lst (pa_cons (pv 2) (pa_cons (pe_callTy (RK.listQ (K := K)) (by rfl) T.list (by decide +kernel) (pa_cons (pv 0) pa_nil)) (pa_cons pe_int pa_nil)))))))), ?_⟩
    refine ⟨_, rfl, _, rfl, l, rfl, ⟨_, hS⟩, for_list (K := K) (a := l) (xs := ns.map V.int) (fun i σ H' => ∃ (z : Int) (v : Option V), σ = [some (.ref l), some (.int sd), some (.int z), v] ∧ H' = H) ⟨sd, none, rfl, rfl⟩ (fun i σ H' _ ⟨_, _, _, e⟩ => by rw [e]; exact hS) ?_ ?_⟩
    · rintro i y σ H' hi ⟨z, v, rfl, rfl⟩
      obtain ⟨u, _, rfl⟩ := getI hi
      refine ⟨_, rfl, _, _, rfl, rfl, .inr ⟨by decide, by decide⟩, _, rfl, _, _, rfl, rfl, (by show (0 : Int) < 2147483629; decide), _, _, rfl, rfl, _, _, rfl, rfl, _, _, rfl, rfl, (by show (0 : Int) < 2147483647; decide), _, _, rfl, rfl⟩
    · rintro σ H' ⟨z, v, rfl, rfl⟩
      refine ⟨_, rfl, _, rfl, l, _, rfl, .inl hS, fun p hp => ⟨(by show 3 ≤ sizeLine; decide), fun q hq => ?_⟩⟩
      have npq : p ≠ q := fun e => by rw [← e, upd_same] at hq; cases hq
      have hq0 : H' q = none := by rw [upd_ne npq.symm] at hq; exact hq
      refine k q p _ hq0 hp ⟨_, 0, ns, upd_same, (by rw [upd_ne npq, upd_same]), hl⟩ ((Same.new hp).trans (Same.new hq))
theorem scNext : FnScope ["_law_h", "_law_many", "_law_cell"] ["_law_h", "_law_many"] (defScope sLnext) := ⟨rfl, rfl, rfl, by decide +kernel, rfl, by decide +kernel, by decide +kernel⟩
theorem ok_next {f : Addr} {fd : FuncData} (F : Fun K "_law_next" "_law_next" sLnext f fd) (T : Txt mg) : FnOk P w K mg base CX0 1 f fd ["_law_h", "_law_many"] spNext := by
  refine F.ok scNext (fun vs H Q E h => ?_) (fun cdv A outer s H vs Q E hr h => ?_)
  · obtain ⟨a, b, n, rfl, _⟩ := h
    rfl
  · obtain ⟨a, b, n, rfl, n0, n1, ⟨z, p, cs, ha, hb, hc⟩, k⟩ := h
    refine ⟨_, (pss_cons (ps_set (i := 2) scNext.nd rfl (Or.inl rfl) (pe_ix (RK.ixL (K := K)) (pe_op op_cat (pe_ix (RK.ixL (K := K)) (pv 0) pe_int (fun _ _ => rfl)) (pe_lst (pa_cons pe_int pa_nil))) (pe_op op_modN (pe_ix (RK.ixL (K := K)) (pv 0) pe_int (fun _ _ => rfl)) (pe_callB (call_max2 rfl) (by rfl) T.max (by decide +kernel) (pa_cons pe_int (pa_cons (pe_callB (RK.lenQ (K := K)) (by rfl) T.len PySem.boot_len (pa_cons (pe_ix (RK.ixL (K := K)) (pv 0) pe_int (fun _ _ => rfl)) pa_nil)) pa_nil)))) (fun _ _ => rfl)))
      (pss_cons (ps_if (pt_cmpR op_ge (pv 2) (pe_op op_pow pe_int pe_int) (nomark _)) (pss_cons (ps_asg (pe_op op_fdivN (pv 2) (pv 1)) (pg_sub (pe_ix (RK.ixL (K := K)) (pv 0) pe_int (fun _ _ => rfl)) (pe_op op_modN (pe_ix (RK.ixL (K := K)) (pv 0) pe_int (fun _ _ => rfl)) (pe_callB (RK.lenQ (K := K)) (by rfl) T.len PySem.boot_len (pa_cons (pe_ix (RK.ixL (K := K)) (pv 0) pe_int (fun _ _ => rfl)) pa_nil))) set_list))
        (pss_one (ps_ret (pe_op op_modN (pv 2) (pv 1))))) pss_nil)
      (pss_cons (ps_asg (pe_op op_mod (pe_op op_add (pe_op op_add (pe_op op_mul (pe_ix (RK.ixL (K := K)) (pv 0) pe_int (fun _ _ => rfl)) pe_int) (pe_op op_mul (pv 2) pe_int)) pe_int) pe_int) (pg_sub (pv 0) pe_int set_list))
      (pss_cons (ps_asg (pe_op op_add (pe_ix (RK.ixL (K := K)) (pv 0) pe_int (fun _ _ => rfl)) pe_int) (pg_sub (pv 0) pe_int set_list))
      (pss_one (ps_ret (pe_op op_modN (pe_op op_fdiv (pe_ix (RK.ixL (K := K)) (pv 0) pe_int (fun _ _ => rfl)) pe_int) (pv 1)))))))), ?_⟩
    have nab : a ≠ b := ne_of ha hb (by
      intro e
      injection e with e
      cases cs with
      | nil => cases e
      | cons c r =>
        cases r with
        | nil => cases e
        | cons d r => rw [List.map_cons, List.map_cons] at e; injection e with _ e; injection e with e1 _; cases e1)
    -- cell = (h[1] + [0])[h[2] % max(1, len(h[1]))]
    refine ⟨_, rfl, a, _, 1, _, rfl, rfl, SqL.of ha, rfl, (by show 1 ≤ sizeLine; decide), fun e he => ?_⟩
    have s1 := Same.new (o := .lst [.int 0]) he
    refine ⟨b, e, _, _, rfl, rfl, s1 _ _ hb, upd_same, ?_, fun c hcc => ?_⟩
    · rw [List.length_map]
      exact Nat.le_trans (show cs.length + 1 ≤ 64 by omega) (by decide)
    have s2 := Same.new (o := .lst (cs.map V.int ++ [.int 0])) hcc
    have s12 := s1.trans s2
    have ha2 := s12 _ _ ha
    have hb2 := s12 _ _ hb
    refine ⟨_, rfl, a, _, 2, _, rfl, rfl, SqL.of ha2, rfl, _, rfl, a, _, 1, _, rfl, rfl, SqL.of ha2, rfl, b, _, rfl, .inl (SqL.of hb2), 1, _, rfl, ?_⟩
    have lm : (cs.map V.int).length = cs.length := List.length_map ..
    generalize hM : (if (((cs.map V.int).length : Nat) : Int) > 1 then (((cs.map V.int).length : Nat) : Int) else 1) = M
    have hM1 : 0 < M ∧ M ≤ (cs.length : Int) + 1 ∧ (cs.length = 0 → M = 1) := by
      rw [lm] at hM
      subst hM
      split <;> omega
    have ix := fmod_lt (x := p) hM1.1
    have hj : (p.fmod M).toNat < (cs ++ [0]).length := by
      rw [List.length_append]
      show _ < cs.length + 1
      omega
    have em : cs.map V.int ++ [V.int 0] = (cs ++ [0]).map V.int := by rw [List.map_append]; rfl
    have hit : atI (cs.map V.int ++ [V.int 0]) (p.fmod M) = some (.int ((cs ++ [0])[(p.fmod M).toNat])) := atI_of ix.1 (by rw [em, List.getElem?_map, List.getElem?_eq_getElem hj]; rfl)
    refine ⟨_, _, rfl, rfl, (by show M ≠ 0; omega), c, _, _, _, rfl, rfl, SqL.of upd_same, hit, ?_⟩
    generalize hcell : (cs ++ [0])[(p.fmod M).toNat] = cell
    have kp2 : Keep a b H (upd (upd H e (.lst [.int 0])) c (.lst (cs.map V.int ++ [.int 0]))) := Keep.same s12
    refine ⟨_, rfl, _, _, rfl, rfl, ⟨by decide, by decide, by decide⟩, _, _, rfl, rfl, _, rfl, ite2 (fun big => ?_) (fun _ => ?_)⟩
    · have big2 : (10 : Int) ^ (18 : Int).toNat ≤ cell := of_decide_eq_true big
      have ne : 0 < cs.length := by
        rcases Nat.eq_zero_or_pos cs.length with h0 | h0
        · exfalso
          have e0 := List.eq_nil_of_length_eq_zero h0
          have m1 := hM1.2.2 h0
          have i0 : (p.fmod M).toNat = 0 := by have := ix.2; omega
          have z0 : cell = 0 := by
            rw [← hcell]
            have : (cs ++ [0])[(p.fmod M).toNat]? = some 0 := by rw [i0, e0]; rfl
            rw [List.getElem?_eq_getElem hj] at this
            exact Option.some.inj this
          rw [z0] at big2
          exact absurd big2 (by decide)
        · exact h0
      have l0 : (((cs.map V.int).length : Nat) : Int) ≠ 0 := by rw [lm]; omega
      have ix2 := fmod_lt (x := p) (n := (((cs.map V.int).length : Nat) : Int)) (by rw [lm]; omega)
      refine ⟨_, rfl, _, rfl, _, _, rfl, rfl, ⟨by omega, by omega⟩, _, rfl, a, _, 1, _, rfl, rfl, SqL.of ha2, rfl, _, rfl, a, _, 2, _, rfl, rfl, SqL.of ha2, rfl, _, rfl, a, _, 1, _, rfl, rfl, SqL.of ha2, rfl, b, _, rfl, .inl (SqL.of hb2), _, _, rfl, rfl, l0, ?_⟩
      refine ⟨b, _, _, _, rfl, rfl, hb2, ixN_of ix2.1 ix2.2, ?_⟩
      refine ⟨_, rfl, _, rfl, _, _, rfl, rfl, (by show n ≠ 0; omega), ?_⟩
      refine k _ _ (fmod_lt n0).1 (fmod_lt n0).2 ⟨z, p, cs.set (p.fmod (((cs.map V.int).length : Nat) : Int)).toNat (cell.fdiv n), by rw [upd_ne nab]; exact ha2, ?_, by rw [List.length_set]; exact hc⟩ (kp2.trans Keep.at2)
      rw [upd_same, List.map_set]
    · refine ⟨_, rfl, a, _, 0, _, rfl, rfl, SqL.of ha2, rfl, _, _, rfl, rfl, .inr ⟨by decide, by decide⟩, _, rfl, _, _, rfl, rfl, .inr ⟨by decide, by decide⟩, _, _, rfl, rfl, _, _, rfl, rfl, _, _, rfl, rfl, (by show (0 : Int) < 2147483647; decide), ?_⟩
      refine ⟨_, rfl, a, _, _, 0, rfl, rfl, ha2, rfl, ?_⟩
      refine ⟨_, rfl, a, _, 2, _, rfl, rfl, SqL.of upd_same, rfl, _, _, rfl, rfl, _, rfl, a, _, _, 2, rfl, rfl, upd_same, rfl, ?_⟩
      refine ⟨_, rfl, a, _, 0, _, rfl, rfl, SqL.of upd_same, rfl, _, _, rfl, rfl, ⟨by decide, by decide⟩, _, rfl, _, _, rfl, rfl, (by show n ≠ 0; omega), ?_⟩
      refine k _ _ (fmod_lt n0).1 (fmod_lt n0).2 ⟨_, _, cs, upd_same, by rw [upd_ne nab.symm, upd_ne nab.symm]; exact hb2, hc⟩ (kp2.trans (Keep.at1.trans Keep.at1))
end
end K04

namespace K04
open PySem L2

/-! ### dicts with text keys -/
section
variable {β : Type} {R S : Hp → V → β → Prop} {H H' : Hp}
def PR (R : Hp → V → β → Prop) (H : Hp) (kv : Key × V) (p : Str × β) : Prop := kv.1 = .inr p.1 ∧ R H kv.2 p.2
def DictAt (R : Hp → V → β → Prop) (H : Hp) (d : Addr) (ps : List (Str × β)) : Prop := ∃ kvs, Rd H d (.dK kvs) ∧ Paired (PR R H) kvs ps
theorem pr_mono (m : ∀ v x, R H v x → R H' v x) : ∀ {kvs : List (Key × V)} {ps : List (Str × β)}, Paired (PR R H) kvs ps → Paired (PR R H') kvs ps
  | _, _, .nil => .nil
  | _, _, .cons ⟨e, h⟩ r => .cons ⟨e, m _ _ h⟩ (pr_mono m r)
theorem pr_look (f : Str) : ∀ {kvs : List (Key × V)} {ps : List (Str × β)}, Paired (PR R H) kvs ps → (ps.lookup f = none ∧ valV kvs (.inr f) = none) ∨ ∃ x v, ps.lookup f = some x ∧ valV kvs (.inr f) = some v ∧ R H v x
  | _, _, .nil => .inl ⟨rfl, rfl⟩
  | (k, v) :: kvs, (g, x) :: ps, .cons ⟨e, h⟩ r => by
    have e : k = .inr g := e
    subst e
    by_cases q : f = g
    · subst q
      exact .inr ⟨x, v, by simp [List.lookup], valV_pos rfl, h⟩
    · have n1 : ((f == g) : Bool) = false := by simpa using q
      have n2 : ¬ ((Sum.inr g : Key) = .inr f) := fun z => q (Sum.inr.inj z).symm
      rw [show valV ((Sum.inr g, v) :: kvs) (.inr f) = valV kvs (.inr f) from valV_neg n2]
      rw [show List.lookup f ((g, x) :: ps) = List.lookup f ps by simp [List.lookup, n1]]
      exact pr_look f r
theorem pr_has (f : Str) : ∀ {kvs : List (Key × V)} {ps : List (Str × β)}, Paired (PR R H) kvs ps → f ∉ ps.map (·.1) → (kvs.any fun kv => decide (kv.1 = (Sum.inr f : Key))) = false
  | _, _, .nil, _ => rfl
  | (k, v) :: kvs, (g, x) :: ps, .cons ⟨e, _⟩ r, hn => by
    have e : k = .inr g := e
    subst e
    rw [List.map_cons, List.mem_cons, not_or] at hn
    rw [List.any_cons, pr_has f r hn.2, Bool.or_false]
    exact decide_eq_false fun z => hn.1 (Sum.inr.inj z).symm
theorem pr_keys : ∀ {kvs : List (Key × V)} {ps : List (Str × β)}, Paired (PR R H) kvs ps → kvs.map (·.1) = (ps.map (·.1)).map Sum.inr
  | _, _, .nil => rfl
  | (k, v) :: kvs, (g, x) :: ps, .cons ⟨e, _⟩ r => by
    have e : k = .inr g := e
    subst e
    rw [List.map_cons, List.map_cons, List.map_cons, pr_keys r]
theorem pr_len {kvs : List (Key × V)} {ps : List (Str × β)} (h : Paired (PR R H) kvs ps) : kvs.length = ps.length := Paired.length h
theorem pr_snoc {kvs : List (Key × V)} {ps : List (Str × β)} {k : Str} {v : V} {x : β} (h : Paired (PR R H) kvs ps) (r : R H v x) : Paired (PR R H) (kvs ++ [(.inr k, v)]) (ps ++ [(k, x)]) := Paired.snoc h ⟨rfl, r⟩
theorem pr_put {kvs : List (Key × V)} {ps : List (Str × β)} {k : Str} {v : V} (h : Paired (PR R H) kvs ps) (n : k ∉ ps.map (·.1)) : putK kvs (.inr k) v = kvs ++ [(.inr k, v)] := by
  unfold putK
  rw [pr_has _ h n]
  rfl
end
theorem rd_mono {H H' : Hp} {d : Addr} {kvs : List (Key × V)} (k : KeepN H H') (h : Rd H d (.dK kvs)) : Rd H' d (.dK kvs) := by
  rcases h with h | ⟨o, h⟩
  · exact .inl (k d _ (fun _ e => nomatch e) h)
  · exact .inr ⟨o, k d _ (fun _ e => nomatch e) h⟩
/-- the dict at d is changed: tuples stay -/
theorem t_upd {K : PySem.W.Frag} {H : Hp} {d : Addr} {kvs : List (Key × V)} {o : HO} (hd : H d = some (.dK kvs)) {t : Addr} {xs : List V} (h : SqT K H t xs) : SqT K (upd H d o) t xs := by
  rcases h with (h | ⟨o, h⟩) | h
  · exact .inl (.inl (by rw [upd_ne (ne_of h hd (fun e => nomatch e))]; exact h))
  · exact .inl (.inr ⟨o, by rw [upd_ne (ne_of h hd (fun e => nomatch e))]; exact h⟩)
  · exact .inr h

/-! ### shapes -/
def ShR (K : PySem.W.Frag) (H : Hp) (v : V) (fs : List Str) : Prop := ∃ t, v = .ref t ∧ SqT K H t (fs.map V.str)
def ShapesAt (K : PySem.W.Frag) (H : Hp) (d : Addr) (sh : List (Str × List Str)) : Prop := ∃ kvs, H d = some (.dK kvs) ∧ Paired (PR (ShR K) H) kvs sh
abbrev tabs : List Str := [Str.ofString "ta", Str.ofString "tb", Str.ofString "tc"]
abbrev flds : List Str := [Str.ofString "k", Str.ofString "x", Str.ofString "y", Str.ofString "z"]
structure IsShapes (sh : List (Str × List Str)) : Prop where
  names : sh.map (·.1) = tabs.take sh.length
  few : sh.length ≤ 3
  fs : ∀ p ∈ sh, ∃ m, 1 ≤ m ∧ m ≤ 4 ∧ p.2 = flds.take m
theorem ShapesAt.keep {K : PySem.W.Frag} {H H' : Hp} (k : KeepN H H') {d : Addr} {sh : List (Str × List Str)} (h : ShapesAt K H d sh) : ShapesAt K H' d sh := by
  obtain ⟨kvs, hd, p⟩ := h
  exact ⟨kvs, k d _ (fun _ e => nomatch e) hd, pr_mono (fun v x ⟨t, e, q⟩ => ⟨t, e, k.t q⟩) p⟩
def spShapes (K : PySem.W.Frag) : Sp := fun vs H Q _ => ∃ (a b : Addr), vs = [.ref a, .int 3] ∧ HAt H a b ∧ ∀ (d : Addr) (H' : Hp) (sh : List (Str × List Str)), HAt H' a b → Keep a b H H' → H d = none → ShapesAt K H' d sh → IsShapes sh → 1 ≤ sh.length → Q (.ref d) H'
def spNumber : Sp := fun vs H Q _ => ∃ (a b : Addr), vs = [.ref a] ∧ HAt H a b ∧ ∀ (r : Int) (H' : Hp), -1000 ≤ r → r ≤ 1000 → HAt H' a b → Keep a b H H' → Q (.int r) H'

/-! ### trees -/
inductive Tr where
  | num (n : Int)
  | field (t f : Str)
  | bin (op : Str) (l r : Tr)
  | not (x : Tr)
def Tr.depth : Tr → Nat
  | .num _ => 0
  | .field _ _ => 0
  | .bin _ l r => max l.depth r.depth + 1
  | .not x => x.depth + 1
def TrAt (K : PySem.W.Frag) (H : Hp) : V → Tr → Prop
  | v, .num n => ∃ p, v = .ref p ∧ SqT K H p [.str (Str.ofString "num"), .int n]
  | v, .field t f => ∃ p, v = .ref p ∧ SqT K H p [.str (Str.ofString "field"), .str t, .str f]
  | v, .bin op l r => ∃ p x y, v = .ref p ∧ SqT K H p [.str op, x, y] ∧ TrAt K H x l ∧ TrAt K H y r
  | v, .not z => ∃ p x, v = .ref p ∧ SqT K H p [.str (Str.ofString "not"), x] ∧ TrAt K H x z
theorem TrAt.mono {K : PySem.W.Frag} {H H' : Hp} (m : ∀ t xs, SqT K H t xs → SqT K H' t xs) : ∀ {v : V} {t : Tr}, TrAt K H v t → TrAt K H' v t
  | _, .num _, ⟨p, e, h⟩ => ⟨p, e, m _ _ h⟩
  | _, .field _ _, ⟨p, e, h⟩ => ⟨p, e, m _ _ h⟩
  | _, .bin _ _ _, ⟨p, x, y, e, h, h1, h2⟩ => ⟨p, x, y, e, m _ _ h, TrAt.mono m h1, TrAt.mono m h2⟩
  | _, .not _, ⟨p, x, e, h, h1⟩ => ⟨p, x, e, m _ _ h, TrAt.mono m h1⟩
theorem TrAt.keep {K : PySem.W.Frag} {H H' : Hp} (k : KeepN H H') {v : V} {t : Tr} (h : TrAt K H v t) : TrAt K H' v t := TrAt.mono (fun _ _ q => k.t q) h
abbrev signs : List Str := [Str.ofString "=", Str.ofString "<", Str.ofString ">", Str.ofString "<=", Str.ofString ">="]
inductive IsTm (fl : List (Str × Str)) : Tr → Prop where
  | num {n : Int} : -1000 ≤ n → n ≤ 1000 → IsTm fl (.num n)
  | field {t f : Str} : (t, f) ∈ fl → IsTm fl (.field t f)
  | bin {op : Str} {l r : Tr} : op ∈ [Str.ofString "+", Str.ofString "-", Str.ofString "*"] → IsTm fl l → IsTm fl r → IsTm fl (.bin op l r)
inductive IsCd (fl : List (Str × Str)) : Tr → Prop where
  | cmp {op : Str} {l r : Tr} : op ∈ signs → IsTm fl l → IsTm fl r → IsCd fl (.bin op l r)
  | join {op : Str} {l r : Tr} : op ∈ [Str.ofString "and", Str.ofString "or"] → IsCd fl l → IsCd fl r → IsCd fl (.bin op l r)
  | not {x : Tr} : IsCd fl x → IsCd fl (.not x)

/-! ### the fields that there are: a list of pairs of texts -/
def FlR (K : PySem.W.Frag) (H : Hp) (v : V) (q : Str × Str) : Prop := ∃ p, v = .ref p ∧ SqT K H p [.str q.1, .str q.2]
def FlOk (fl : List (Str × Str)) : Prop := ∀ q ∈ fl, PyData.strOk q.1 = true ∧ PyData.strOk q.2 = true
def FlAt (K : PySem.W.Frag) (H : Hp) (l : Addr) (fl : List (Str × Str)) : Prop := ∃ vs, H l = some (.lst vs) ∧ Paired (FlR K H) vs fl ∧ FlOk fl
theorem fl_mono {K : PySem.W.Frag} {H H' : Hp} (m : ∀ t xs, SqT K H t xs → SqT K H' t xs) : ∀ {vs : List V} {fl : List (Str × Str)}, Paired (FlR K H) vs fl → Paired (FlR K H') vs fl
  | _, _, .nil => .nil
  | _, _, .cons ⟨p, e, h⟩ r => .cons ⟨p, e, m _ _ h⟩ (fl_mono m r)
theorem FlAt.keep {K : PySem.W.Frag} {H H' : Hp} {a b l : Addr} {fl : List (Str × Str)} (B : HAt H a b) (k : Keep a b H H') (na : l ≠ a) (nb : l ≠ b) (h : FlAt K H l fl) : FlAt K H' l fl := by
  obtain ⟨vs, hl, p, ok⟩ := h
  exact ⟨vs, k l _ na nb hl, fl_mono (fun _ _ q => (k.n B).t q) p, ok⟩
theorem FlAt.same {K : PySem.W.Frag} {H H' : Hp} {l : Addr} {fl : List (Str × Str)} (s : Same H H') (h : FlAt K H l fl) : FlAt K H' l fl := by
  obtain ⟨vs, hl, p, ok⟩ := h
  exact ⟨vs, s _ _ hl, fl_mono (fun _ _ q => (KeepN.of s).t q) p, ok⟩
def flD (q : Str × Str) : PyData := .tuple [.str q.1, .str q.2]
theorem fl_dp {K : PySem.W.Frag} {H : Hp} : ∀ {vs : List V} {fl : List (Str × Str)}, Paired (FlR K H) vs fl → DpAll K H vs (fl.map flD)
  | _, _, .nil => .nil
  | _, _, .cons ⟨p, e, h⟩ r => .cons (e ▸ .tup h (.cons (.str _) (.cons (.str _) .nil))) (fl_dp r)
theorem fl_lay : ∀ fl : List (Str × Str), FlOk fl → PyData.canLayAll0 (fl.map flD) = true ∧ PyData.depthAll (fl.map flD) ≤ 2
  | [], _ => by simp [PyData.canLayAll0, PyData.depthAll]
  | q :: r, ok => by
    obtain ⟨h1, h2⟩ := fl_lay r fun x m => ok x (List.mem_cons_of_mem _ m)
    obtain ⟨o1, o2⟩ := ok q List.mem_cons_self
    refine ⟨by simp [PyData.canLayAll0, PyData.canLay0, flD, h1, o1, o2], ?_⟩
    simp only [List.map_cons, PyData.depthAll, PyData.depth, flD]
    omega
theorem fl_shaped {fl : List (Str × Str)} (ok : FlOk fl) : SeqAt.shaped (.list (fl.map flD)) = true := by
  obtain ⟨h1, h2⟩ := fl_lay fl ok
  show (PyData.canLay0 (.list (fl.map flD)) && decide (PyData.depth (.list (fl.map flD)) ≤ 64)) = true
  rw [Bool.and_eq_true]
  refine ⟨by simp only [PyData.canLay0]; exact h1, decide_eq_true ?_⟩
  simp only [PyData.depth]
  omega
theorem eqv_nil (ds : List PyData) : PyData.eqv (.list ds) (.list []) = ds.isEmpty := by
  cases ds <;> simp [PyData.eqv, PyData.eqvAll]
theorem eqv_fl (fl : List (Str × Str)) : PyData.eqv (.list (fl.map flD)) (.list []) = fl.isEmpty := by
  rw [eqv_nil]
  cases fl <;> rfl
theorem fl_at {K : PySem.W.Frag} {H : Hp} : ∀ {vs : List V} {fl : List (Str × Str)} {i : Nat}, Paired (FlR K H) vs fl → i < fl.length → ∃ p q, vs[i]? = some (.ref p) ∧ q ∈ fl ∧ SqT K H p [.str q.1, .str q.2]
  | _, _, i, .nil, h => absurd h (Nat.not_lt_zero i)
  | _, q :: _, 0, .cons ⟨p, e, h⟩ _, _ => ⟨p, q, by rw [e]; rfl, List.mem_cons_self, h⟩
  | _, _, i + 1, .cons _ r, h => by
    obtain ⟨p, q, h1, h2, h3⟩ := fl_at (i := i) r (Nat.lt_of_succ_lt_succ h)
    exact ⟨p, q, h1, List.mem_cons_of_mem _ h2, h3⟩
def spTerm (K : PySem.W.Frag) (n : Nat) : Sp := fun vs H Q _ => ∃ (a b l : Addr) (fl : List (Str × Str)) (dp : Int), vs = [.ref a, .ref l, .int dp] ∧ 0 ≤ dp ∧ dp < n ∧ HAt H a b ∧ FlAt K H l fl ∧ l ≠ a ∧ l ≠ b ∧ fl.length ≤ 100 ∧
  ∀ (v : V) (t : Tr) (H' : Hp), HAt H' a b → Keep a b H H' → TrAt K H' v t → IsTm fl t → t.depth ≤ dp.toNat → Q v H'
def spCond (K : PySem.W.Frag) (n : Nat) : Sp := fun vs H Q _ => ∃ (a b l : Addr) (fl : List (Str × Str)) (dp : Int), vs = [.ref a, .ref l, .int dp] ∧ 0 ≤ dp ∧ dp < n ∧ HAt H a b ∧ FlAt K H l fl ∧ l ≠ a ∧ l ≠ b ∧ fl.length ≤ 100 ∧
  ∀ (v : V) (t : Tr) (H' : Hp), HAt H' a b → Keep a b H H' → TrAt K H' v t → IsCd fl t → t.depth ≤ dp.toNat + 2 → Q v H'
section
variable {P : Program} {w : World} {K : PySem.W.Frag} {mg : Str → Option Value} {base : Heap}
/-- a promise of nothing -/
theorem none_left {f : Addr} {fd : FuncData} {k : Nat} {ps : List Str} {sp : Sp} (no : ∀ vs H Q E, ¬ sp vs H Q E) : FnOk P w K mg base CX0 k f fd ps sp :=
  ⟨fun vs H Q E h => absurd h (no vs H Q E), fun A outer s H args us vs Q E _ _ _ _ h => absurd h (no vs H Q E)⟩
theorem Cal.mono {j k : Nat} {x : Str} {ps : List Str} {sp : Sp} {f : Addr} {fd : FuncData} (c : Cal P w K mg base j x ps sp f fd) (h : j ≤ k) : Cal P w K mg base k x ps sp f fd := ⟨c.g, c.kp, c.b, c.G.mono h⟩
theorem scShapes : FnScope ["_law_h", "_law_many", "_law_found", "_law_k"] ["_law_h", "_law_many"] (defScope sLshapes) := ⟨rfl, rfl, rfl, by decide +kernel, rfl, by decide +kernel, by decide +kernel⟩
theorem ok_shapes {f fn : Addr} {fd fdn : FuncData} (F : Fun K "_law_shapes" "_law_shapes" sLshapes f fd) (T : Txt mg) (Cnext : Cal P w K mg base 1 "_law_next" ["_law_h", "_law_many"] spNext fn fdn) : FnOk P w K mg base CX0 2 f fd ["_law_h", "_law_many"] (spShapes K) := by
  refine F.ok scShapes (fun vs H Q E h => ?_) (fun cdv A outer s H vs Q E hr h => ?_)
  · obtain ⟨a, b, rfl, _⟩ := h
    rfl
  · obtain ⟨a, b, rfl, B, k⟩ := h
    have hr1 : Room 1 _ := hr.mono (by decide)
    refine ⟨_, (pss_cons (ps_set (i := 2) scShapes.nd rfl (Or.inl rfl) pe_dnewK)
      (pss_cons (ps_for PassesOwn.never rfl (pi_range1 rfl T.range (pa_cons (pe_op op_add pe_int (pe_call Cnext.G hr1 rfl Cnext.g Cnext.kp Cnext.b .nil pass0 (pa_cons (pv 0) (pa_cons (pv 1) pa_nil)))) pa_nil)) (pg_name (i := 3) scShapes.nd rfl (Or.inl rfl))
        (pss_one (ps_dput (hu_of hr) (pv 2) (pe_op op_add_str pe_str (pe_ix ix_str pe_str (pv 3) (fun _ _ => rfl))) (pe_slice (RK.slT (K := K)) (pe_tup (pa_cons pe_str (pa_cons pe_str (pa_cons pe_str (pa_cons pe_str pa_nil))))) po_none (po_some (pe_op op_add pe_int (pe_call Cnext.G hr1 rfl Cnext.g Cnext.kp Cnext.b .nil pass0 (pa_cons (pv 0) (pa_cons pe_int pa_nil)))))) rfl)))
      (pss_one (ps_ret (pv 2))))), ?_⟩
    intro d hd
    have nd := B.ne hd
    have s0 := Same.new (o := .dK []) hd
    refine ⟨_, rfl, _, rfl, a, b, 3, rfl, by decide, by decide, B.same s0, fun m H1 m0 m3 B1 kp1 => ?_⟩
    refine ⟨_, _, rfl, rfl, _, rfl, by omega, by omega, ?_⟩
    have hd1 : H1 d = some (.dK []) := kp1 d _ nd.1 nd.2 upd_same
    refine for_range (lo := 0) (n := (1 + m).toNat) (fun i σ H' => ∃ v3 sh, σ = [some (.ref a), some (.int 3), some (.ref d), v3] ∧ HAt H' a b ∧ Keep a b H H' ∧ ShapesAt K H' d sh ∧ IsShapes sh ∧ sh.length = i)
      ⟨none, [], rfl, B1, (Keep.same s0).trans kp1, ⟨[], hd1, .nil⟩, ⟨rfl, Nat.zero_le _, fun p z => by cases z⟩, rfl⟩ ?_ ?_
    · rintro i σ H2 hi ⟨v3, sh, rfl, B2, kp2, S2, I2, li⟩
      have hi3 : i < 3 := by omega
      -- ("k", "x", "y", "z")[:1 + next(h, 4)]
      refine ⟨(by show 4 ≤ sizeLine; decide), fun p hp => ?_⟩
      have s3 := Same.new (o := .tup (flds.map V.str)) hp
      refine ⟨_, rfl, a, b, 4, rfl, by decide, by decide, B2.same s3, fun r H4 r0 r4 B4 kp4 => ⟨_, _, rfl, rfl, _, rfl, ?_⟩⟩
      have kn4 := kp4.n (B2.same s3)
      have hp4 : SqT K H4 p (flds.map V.str) := kn4.t (SqT.of upd_same)
      have S4 : ShapesAt K H4 d sh := (S2.keep (KeepN.of s3)).keep kn4
      have kp24 : Keep a b H H4 := kp2.trans ((Keep.same s3).trans kp4)
      have fin : ∀ (t : Addr) (H5 : Hp), Same H4 H5 → SqT K H5 t ((flds.take (1 + r).toNat).map V.str) → ∃ a_1 H6, V.ref d = V.ref a_1 ∧ DPut H5 a_1 (.str (tabs.getD i Str.empty)) (.ref t) H6 ∧
          ∃ v3 sh, [some (.ref a), some (.int 3), some (.ref d), some (V.int (0 + ((i : Nat) : Int)))] = [some (.ref a), some (.int 3), some (.ref d), v3] ∧ HAt H6 a b ∧ Keep a b H H6 ∧ ShapesAt K H6 d sh ∧ IsShapes sh ∧ sh.length = i + 1 := fun t H5 s5 ht => by
        obtain ⟨kvs, hd5, pr⟩ := S4.keep (KeepN.of s5)
        have lk : kvs.length ≤ 3 := by rw [pr_len pr, li]; omega
        have nin : tabs.getD i Str.empty ∉ sh.map (·.1) := by
          rw [I2.names, li]
          have h : i = 0 ∨ i = 1 ∨ i = 2 := by omega
          rcases h with rfl | rfl | rfl <;> decide +kernel
        refine ⟨d, _, rfl, DPut.k (k := .inr (tabs.getD i Str.empty)) hd5 (Nat.lt_of_le_of_lt lk (by decide)), _, sh ++ [(tabs.getD i Str.empty, flds.take (1 + r).toNat)], rfl, (B4.same s5).upd nd, ?_, ⟨_, upd_same, ?_⟩, ⟨?_, ?_, ?_⟩, ?_⟩
        · intro x o h1 h2 h
          rw [upd_ne (ne_of_none h hd)]
          exact s5 _ _ (kp24 x o h1 h2 h)
        · rw [pr_put pr nin]
          exact pr_snoc (pr_mono (fun v x ⟨t, e, q⟩ => ⟨t, e, t_upd hd5 q⟩) pr) ⟨t, rfl, t_upd hd5 ht⟩
        · rw [List.map_append, I2.names, li, List.length_append, li]
          have h : i = 0 ∨ i = 1 ∨ i = 2 := by omega
          rcases h with rfl | rfl | rfl <;> rfl
        · rw [List.length_append, li]
          show i + 1 ≤ 3
          omega
        · intro q m
          rcases List.mem_append.mp m with m | m
          · exact I2.fs q m
          · obtain rfl := List.mem_singleton.mp m
            exact ⟨(1 + r).toNat, by omega, by omega, rfl⟩
        · rw [List.length_append, li]
          rfl
      have key : ∀ (t : Addr) (H5 : Hp), Same H4 H5 → SqT K H5 t ((flds.take (1 + r).toNat).map V.str) → tVar 2 [some (.ref a), some (.int 3), some (.ref d), some (V.int (0 + ((i : Nat) : Int)))] H5 fun x H2 =>
          tOp (fun x y H Q => ∃ i j, x = .str i ∧ y = .str j ∧ i.length + j.length ≤ sizeLine ∧ Q (.str (i ++ j)) H) (tC (.str (Str.ofString "t"))) (tOp rIxS (tC (.str (Str.ofString "abc"))) (tVar 3)) [some (.ref a), some (.int 3), some (.ref d), some (V.int (0 + ((i : Nat) : Int)))] H2 fun y H3 =>
            ∃ a_1 H6, x = .ref a_1 ∧ DPut H3 a_1 y (.ref t) H6 ∧ ∃ v3 sh, [some (.ref a), some (.int 3), some (.ref d), some (V.int (0 + ((i : Nat) : Int)))] = [some (.ref a), some (.int 3), some (.ref d), v3] ∧ HAt H6 a b ∧ Keep a b H H6 ∧ ShapesAt K H6 d sh ∧ IsShapes sh ∧ sh.length = i + 1 := fun t H5 s5 ht => by
        have f5 := fin t H5 s5 ht
        have h : i = 0 ∨ i = 1 ∨ i = 2 := by omega
        rcases h with rfl | rfl | rfl
        · exact ⟨_, rfl, _, rfl, Str.ofString "abc", _, 97, rfl, rfl, by decide, by decide +kernel, _, _, rfl, rfl, by decide, f5⟩
        · exact ⟨_, rfl, _, rfl, Str.ofString "abc", _, 98, rfl, rfl, by decide, by decide +kernel, _, _, rfl, rfl, by decide, f5⟩
        · exact ⟨_, rfl, _, rfl, Str.ofString "abc", _, 99, rfl, rfl, by decide, by decide +kernel, _, _, rfl, rfl, by decide, f5⟩
      have hr4 : r = 0 ∨ r = 1 ∨ r = 2 ∨ r = 3 := by omega
      refine ⟨p, _, rfl, hp4, fun hw => ?_, fun hw q hq => ?_⟩
      · rcases hr4 with rfl | rfl | rfl | rfl
        · exact absurd hw.2 (by decide)
        · exact absurd hw.2 (by decide)
        · exact absurd hw.2 (by decide)
        · exact key p H4 (Same.refl _) hp4
      · have e : cutV (flds.map V.str) none (some (1 + r)) = (flds.take (1 + r).toNat).map V.str := by rcases hr4 with rfl | rfl | rfl | rfl <;> rfl
        show tVar 2 _ (upd H4 q (.tup (cutV (flds.map V.str) none (some (1 + r))))) _
        rw [e]
        exact key q _ (Same.new hq) (SqT.of upd_same)
    · rintro σ H' ⟨v3, sh, rfl, B', kp, S, I, li⟩
      exact ⟨_, rfl, k d H' sh B' kp hd S I (by omega)⟩
theorem scNumber : FnScope ["_law_h"] ["_law_h"] (defScope sLnumber) := ⟨rfl, rfl, rfl, by decide +kernel, rfl, by decide +kernel, by decide +kernel⟩
theorem ok_number {f fn : Addr} {fd fdn : FuncData} (F : Fun K "_law_number" "_law_number" sLnumber f fd) (Cnext : Cal P w K mg base 1 "_law_next" ["_law_h", "_law_many"] spNext fn fdn) : FnOk P w K mg base CX0 2 f fd ["_law_h"] spNumber := by
  refine F.ok scNumber (fun vs H Q E h => ?_) (fun cdv A outer s H vs Q E hr h => ?_)
  · obtain ⟨a, b, rfl, _⟩ := h
    rfl
  · obtain ⟨a, b, rfl, B, k⟩ := h
    have hr1 : Room 1 _ := hr.mono (by decide)
    refine ⟨_, (pss_one (ps_ret (pe_ix (RK.ixL (K := K)) (pe_lst (pa_cons (pe_call Cnext.G hr1 rfl Cnext.g Cnext.kp Cnext.b .nil pass0 (pa_cons (pv 0) (pa_cons pe_int pa_nil))) (pa_cons (pe_op op_sub (pe_call Cnext.G hr1 rfl Cnext.g Cnext.kp Cnext.b .nil pass0 (pa_cons (pv 0) (pa_cons pe_int pa_nil))) pe_int) (pa_cons (pe_op op_sub (pe_call Cnext.G hr1 rfl Cnext.g Cnext.kp Cnext.b .nil pass0 (pa_cons (pv 0) (pa_cons pe_int pa_nil))) pe_int) pa_nil)))) (pe_op op_fdiv (pe_call Cnext.G hr1 rfl Cnext.g Cnext.kp Cnext.b .nil pass0 (pa_cons (pv 0) (pa_cons pe_int pa_nil))) pe_int) (fun _ _ => rfl)))), ?_⟩
    refine ⟨_, rfl, a, b, 6, rfl, by decide, by decide, B, fun x H1 x0 x6 B1 kp1 => ⟨_, rfl, a, b, 13, rfl, by decide, by decide, B1, fun y H2 y0 y13 B2 kp2 => ⟨_, _, rfl, rfl, _, rfl, a, b, 2000, rfl, by decide, by decide, B2, fun z H3 z0 z2 B3 kp3 => ⟨_, _, rfl, rfl, (by show 3 ≤ sizeLine; decide), fun l hl => ?_⟩⟩⟩⟩
    have s4 := Same.new (o := .lst [.int x, .int (y - 4), .int (z - 999)]) hl
    have nl := B3.ne hl
    refine ⟨_, rfl, a, b, 7, rfl, by decide, by decide, B3.same s4, fun r H5 r0 r7 B5 kp5 => ⟨_, _, rfl, rfl, ⟨by decide, by decide⟩, ?_⟩⟩
    have kp : Keep a b H H5 := kp1.trans (kp2.trans (kp3.trans ((Keep.same s4).trans kp5)))
    have hl5 : H5 l = some (.lst [.int x, .int (y - 4), .int (z - 999)]) := kp5 l _ nl.1 nl.2 upd_same
    have h : r / 7 = 0 ∨ r / 7 = 1 ∨ r / 7 = 2 ∨ r / 3 = 0 ∨ r / 3 = 1 ∨ r / 3 = 2 := by omega
    have h3 : r / 3 = 0 ∨ r / 3 = 1 ∨ r / 3 = 2 := by omega
    rcases h3 with e | e | e
    · exact ⟨l, _, _, .int x, rfl, rfl, SqL.of hl5, by rw [e]; rfl, k _ _ (by omega) (by omega) B5 kp⟩
    · exact ⟨l, _, _, .int (y - 4), rfl, rfl, SqL.of hl5, by rw [e]; rfl, k _ _ (by omega) (by omega) B5 kp⟩
    · exact ⟨l, _, _, .int (z - 999), rfl, rfl, SqL.of hl5, by rw [e]; rfl, k _ _ (by omega) (by omega) B5 kp⟩
end
end K04

namespace K04
open PySem L2

theorem gn {i : Nat} {x : V} {σ : L2.St} {H : Hp} {Q : L2.St → Hp → Prop} (h : Q (σ.set i (some x)) H) : gName i x σ H Q := h
theorem cb1 {r : List V → Hp → VK → Prop} {ta : TE} {σ : L2.St} {H : Hp} {Q : VK} (h : ta σ H fun x H1 => r [x] H1 Q) : tCB r (tCons ta tNil) σ H Q := h
theorem sa1 {te : TE} {g : TG} {u : TS} {D : Ends} {σ : L2.St} {H : Hp} (h : te σ H fun x H1 => g x σ H1 (u D)) : tSeq (tAsg te g) u D σ H := h
theorem sif {c : TT} {t e u : TS} {D : Ends} {σ : L2.St} {H : Hp} (h : c σ H fun b H1 => if b = true then t { D with nx := u D } σ H1 else e { D with nx := u D } σ H1) : tSeq (tIfS c t e) u D σ H := h
theorem and2 {t u : TT} {σ : L2.St} {H : Hp} {Qb : Bool → Hp → Prop} {b c : Bool} (h1 : ∀ Q : Bool → Hp → Prop, Q b H → t σ H Q) (h2 : b = true → ∀ Q : Bool → Hp → Prop, Q c H → u σ H Q) (q : Qb (b && c) H) : tAnd t u σ H Qb := by
  refine h1 _ ?_
  cases b with
  | true => exact iteT (h2 rfl _ q)
  | false => exact iteF q
theorem or2 {t u : TT} {σ : L2.St} {H : Hp} {Qb : Bool → Hp → Prop} {b c : Bool} (h1 : ∀ Q : Bool → Hp → Prop, Q b H → t σ H Q) (h2 : b = false → ∀ Q : Bool → Hp → Prop, Q c H → u σ H Q) (q : Qb (b || c) H) : tOr t u σ H Qb := by
  refine h1 _ ?_
  cases b with
  | true => exact iteT q
  | false => exact iteF (h2 rfl _ q)
section
variable {P : Program} {w : World} {K : PySem.W.Frag} {mg : Str → Option Value} {base : Heap}
/-- ("field",) + fields[next(h, len(fields))] -/
theorem te_field {σ : L2.St} {H : Hp} {Q : VK} {a b l : Addr} {fl : List (Str × Str)} (h0 : σ[0]? = some (some (.ref a))) (h1 : σ[1]? = some (some (.ref l))) (B : HAt H a b) (Fl : FlAt K H l fl) (na : l ≠ a) (nb : l ≠ b) (h100 : fl.length ≤ 100) (ne : fl ≠ [])
    (k : ∀ (v : V) (q : Str × Str) (H' : Hp), q ∈ fl → HAt H' a b → Keep a b H H' → TrAt K H' v (.field q.1 q.2) → Q v H') :
    tOp (rCatA K) (tTup (tCons (tC (V.str (Str.ofString "field"))) tNil)) (tOp (rIxL K) (tVar 1) (tCall spNext [] E0 (tCons (tVar 0) (tCons (tCB (RK.rLenQ K) (tCons (tVar 1) tNil)) tNil)))) σ H Q := by
  refine ⟨(by show 1 ≤ sizeLine; decide), fun p hp => ?_⟩
  have s1 := Same.new (o := .tup [.str (Str.ofString "field")]) hp
  obtain ⟨vs, hl, pr, ok⟩ := Fl.same s1
  have len : vs.length = fl.length := Paired.length pr
  have pos : 0 < fl.length := List.length_pos_iff.mpr ne
  refine ⟨_, h1, _, h0, _, h1, l, _, rfl, .inl (SqL.of hl), a, b, (vs.length : Int), rfl, by omega, by omega, B.same s1, fun r H2 r0 r1 B2 kp2 => ?_⟩
  have hr : r.toNat < fl.length := by omega
  obtain ⟨p2, q, e, m, ht⟩ := fl_at pr hr
  have kn := kp2.n (B.same s1)
  refine ⟨l, vs, r, .ref p2, rfl, rfl, SqL.of (kp2 l _ na nb hl), atI_of r0 e, p, p2, _, _, rfl, rfl, kn.t (SqT.of upd_same), kn.t ht, (by show 1 + 2 ≤ sizeLine; decide), (fun z => by cases z), (fun _ z => by cases z), fun _ _ q' hq' => ?_⟩
  have s3 := Same.new (o := .tup ([V.str (Str.ofString "field")] ++ [V.str q.1, V.str q.2])) hq'
  exact k _ q _ m (B2.same s3) ((Keep.same s1).trans (kp2.trans (Keep.same s3))) ⟨q', rfl, SqT.of upd_same⟩
theorem scTerm : FnScope ["_law_h", "_law_fields", "_law_deep", "_law_way"] ["_law_h", "_law_fields", "_law_deep"] (defScope sLterm) := ⟨rfl, rfl, rfl, by decide +kernel, rfl, by decide +kernel, by decide +kernel⟩
theorem ok_term {n : Nat} {f fn fu : Addr} {fd fdn fdu : FuncData} (F : Fun K "_law_term" "_law_term" sLterm f fd) (T : Txt mg) (Cnext : Cal P w K mg base (n + 2) "_law_next" ["_law_h", "_law_many"] spNext fn fdn) (Cnumber : Cal P w K mg base (n + 2) "_law_number" ["_law_h"] spNumber fu fdu)
    (Cterm : Cal P w K mg base (n + 2) "_law_term" ["_law_h", "_law_fields", "_law_deep"] (spTerm K n) f fd) : FnOk P w K mg base CX0 (n + 3) f fd ["_law_h", "_law_fields", "_law_deep"] (spTerm K (n + 1)) := by
  refine F.ok scTerm (fun vs H Q E h => ?_) (fun cdv A outer s H vs Q E hr h => ?_)
  · obtain ⟨a, b, l, fl, dp, rfl, _⟩ := h
    rfl
  · obtain ⟨a, b, l, fl, dp, rfl, d0, dn, B, Fl, na, nb, h100, k⟩ := h
    have hr1 : Room (n + 2) _ := hr
    refine ⟨_, (pss_cons (ps_set (i := 3) scTerm.nd rfl (Or.inl rfl) (pe_call Cnext.G hr1 rfl Cnext.g Cnext.kp Cnext.b .nil pass0 (pa_cons (pv 0) (pa_cons pe_int pa_nil))))
      (pss_cons (ps_if (PW.pt (pw_and (pt_cmpR op_lt (pv 3) pe_int (nomark _)) (pw_and1 (pt_cmpR op_gt (pv 2) pe_int (nomark _))))) (pss_one (ps_ret (pe_tup (pa_cons (pe_ix ix_str pe_str (pv 3) (fun _ _ => rfl)) (pa_cons (pe_call Cterm.G hr1 rfl Cterm.g Cterm.kp Cterm.b .nil pass0 (pa_cons (pv 0) (pa_cons (pv 1) (pa_cons (pe_op op_sub (pv 2) pe_int) pa_nil)))) (pa_cons (pe_call Cterm.G hr1 rfl Cterm.g Cterm.kp Cterm.b .nil pass0 (pa_cons (pv 0) (pa_cons (pv 1) (pa_cons (pe_op op_sub (pv 2) pe_int) pa_nil)))) pa_nil)))))) pss_nil)
      (pss_cons (ps_if (PW.pt (pw_or (pt_cmpR op_lt (pv 3) pe_int (nomark _)) (pw_or1 (pt_cmpR (RK.eqD (K := K) hr.units) (pv 1) (pe_lst pa_nil) (nomark _))))) (pss_one (ps_ret (pe_tup (pa_cons pe_str (pa_cons (pe_call Cnumber.G hr1 rfl Cnumber.g Cnumber.kp Cnumber.b .nil pass0 (pa_cons (pv 0) pa_nil)) pa_nil))))) pss_nil)
      (pss_one (ps_ret (pe_op (RK.catT (K := K)) (pe_tup (pa_cons pe_str pa_nil)) (pe_ix (RK.ixL (K := K)) (pv 1) (pe_call Cnext.G hr1 rfl Cnext.g Cnext.kp Cnext.b .nil pass0 (pa_cons (pv 0) (pa_cons (pe_callB (RK.lenQ (K := K)) (by rfl) T.len PySem.boot_len (pa_cons (pv 1) pa_nil)) pa_nil))) (fun _ _ => rfl)))))))), ?_⟩
    refine ⟨_, rfl, a, b, 8, rfl, by decide, by decide, B, fun r H1 r0 r8 B1 kp1 => ?_⟩
    have Fl1 := Fl.keep B kp1 na nb
    refine gn ?_
    dsimp only
    refine sif ?_
    refine and2 (b := decide (r < 3)) (c := decide (0 < dp)) (fun Q q => ⟨_, rfl, _, _, rfl, rfl, _, rfl, q⟩) (fun _ Q q => ⟨_, rfl, _, _, rfl, rfl, _, rfl, q⟩) ?_
    cases hb : (decide (r < 3) && decide (0 < dp)) with
    | true =>
      rw [Bool.and_eq_true, decide_eq_true_eq, decide_eq_true_eq] at hb
      refine iteT ?_
      obtain ⟨c, hc, hop⟩ : ∃ c, atI (Str.ofString "+-*").cps.toList r = some c ∧ (⟨#[c]⟩ : Str) ∈ [Str.ofString "+", Str.ofString "-", Str.ofString "*"] := by
        have h : r = 0 ∨ r = 1 ∨ r = 2 := by omega
        rcases h with rfl | rfl | rfl
        · exact ⟨43, by decide +kernel, by decide +kernel⟩
        · exact ⟨45, by decide +kernel, by decide +kernel⟩
        · exact ⟨42, by decide +kernel, by decide +kernel⟩
      refine ⟨_, rfl, Str.ofString "+-*", r, c, rfl, rfl, by decide, hc, _, rfl, _, rfl, _, rfl, _, _, rfl, rfl, a, b, l, fl, dp - 1, rfl, by omega, by omega, B1, Fl1, na, nb, h100, fun v1 t1 H2 B2 kp2 T2 I2 e2 => ?_⟩
      refine ⟨_, rfl, _, rfl, _, rfl, _, _, rfl, rfl, a, b, l, fl, dp - 1, rfl, by omega, by omega, B2, Fl1.keep B1 kp2 na nb, na, nb, h100, fun v2 t2 H3 B3 kp3 T3 I3 e3 => ⟨(by show 3 ≤ sizeLine; decide), fun p hp => ?_⟩⟩
      have s4 := Same.new (o := .tup [.str ⟨#[c]⟩, v1, v2]) hp
      refine k _ (.bin ⟨#[c]⟩ t1 t2) _ (B3.same s4) (kp1.trans (kp2.trans (kp3.trans (Keep.same s4)))) ⟨p, v1, v2, rfl, SqT.of upd_same, (T2.keep (kp3.n B2)).keep (KeepN.of s4), T3.keep (KeepN.of s4)⟩ (.bin hop I2 I3) ?_
      show max t1.depth t2.depth + 1 ≤ dp.toNat
      omega
    | false =>
      refine iteF ?_
      have num : ∀ Hc, HAt Hc a b → Keep a b H Hc → tTup (tCons (tC (V.str (Str.ofString "num"))) (tCons (tCall spNumber [] E0 (tCons (tVar 0) tNil)) tNil)) [some (.ref a), some (.ref l), some (.int dp), some (.int r)] Hc Q := fun Hc Bc kpc =>
        ⟨_, rfl, a, b, rfl, Bc, fun x H2 x0 x1 B2 kp2 => ⟨(by show 2 ≤ sizeLine; decide), fun p hp => k _ (.num x) _ (B2.same (Same.new hp)) (kpc.trans (kp2.trans (Keep.same (Same.new hp)))) ⟨p, rfl, SqT.of upd_same⟩ (.num x0 x1) (Nat.zero_le _)⟩⟩
      by_cases c5 : r < 5
      · refine ⟨_, rfl, _, _, rfl, rfl, _, rfl, ?_⟩
        rw [show decide (r < 5) = true from decide_eq_true c5]
        exact iteT (iteT (num H1 B1 kp1))
      · refine ⟨_, rfl, _, _, rfl, rfl, _, rfl, ?_⟩
        rw [show decide (r < 5) = false from decide_eq_false c5]
        refine iteF ⟨_, rfl, (by show 0 ≤ sizeLine; decide), fun e he => ?_⟩
        have s2 := Same.new (o := .lst []) he
        have Fl2 := Fl1.same s2
        obtain ⟨vs, hl, pr, ok⟩ := id Fl2
        refine ⟨_, _, .lst (SqL.of hl) (fl_dp pr), .lst (SqL.of upd_same) .nil, fl_shaped ok, rfl, _, rfl, ?_⟩
        rw [eqv_fl]
        cases hfl : fl.isEmpty with
        | true => exact iteT (num _ (B1.same s2) (kp1.trans (Keep.same s2)))
        | false =>
          refine iteF (te_field (K := K) (a := a) (b := b) (l := l) (fl := fl) rfl rfl (B1.same s2) Fl2 na nb h100 (fun z => by rw [z] at hfl; cases hfl) fun v q H' m B' kp' T' => ?_)
          exact k v _ H' B' (kp1.trans ((Keep.same s2).trans kp')) T' (.field m) (Nat.zero_le _)
theorem all_term {f fn fu : Addr} {fd fdn fdu : FuncData} (F : Fun K "_law_term" "_law_term" sLterm f fd) (T : Txt mg) (Cnext : Cal P w K mg base 1 "_law_next" ["_law_h", "_law_many"] spNext fn fdn) (Cnumber : Cal P w K mg base 2 "_law_number" ["_law_h"] spNumber fu fdu)
    (g : mg "_law_term" = some (.ref f)) (b : Binds K fd ["_law_h", "_law_fields", "_law_deep"] []) : ∀ n : Nat, FnOk P w K mg base CX0 (n + 2) f fd ["_law_h", "_law_fields", "_law_deep"] (spTerm K n)
  | 0 => none_left fun vs H Q E h => by
    obtain ⟨_, _, _, _, _, _, h0, h1, _⟩ := h
    omega
  | n + 1 => ok_term F T (Cnext.mono (by omega)) (Cnumber.mono (by omega)) ⟨g, F.kp, b, all_term F T Cnext Cnumber g b n⟩
theorem scCond : FnScope ["_law_h", "_law_fields", "_law_deep", "_law_way", "_law_word", "_law_some_here", "_law_k", "_law_field", "_law_pair"] ["_law_h", "_law_fields", "_law_deep"] (defScope sLcond) := ⟨rfl, rfl, rfl, by decide +kernel, rfl, by decide +kernel, by decide +kernel⟩
theorem ok_cond {n : Nat} {f fn ft : Addr} {fd fdn fdt : FuncData} (F : Fun K "_law_cond" "_law_cond" sLcond f fd) (T : Txt mg) (Cnext : Cal P w K mg base (n + 4) "_law_next" ["_law_h", "_law_many"] spNext fn fdn) (Cterm : Cal P w K mg base (n + 4) "_law_term" ["_law_h", "_law_fields", "_law_deep"] (spTerm K 2) ft fdt)
    (Ccond : Cal P w K mg base (n + 4) "_law_cond" ["_law_h", "_law_fields", "_law_deep"] (spCond K n) f fd) : FnOk P w K mg base CX0 (n + 5) f fd ["_law_h", "_law_fields", "_law_deep"] (spCond K (n + 1)) := by
  refine F.ok scCond (fun vs H Q E h => ?_) (fun cdv A outer s H vs Q E hr h => ?_)
  · obtain ⟨a, b, l, fl, dp, rfl, _⟩ := h
    rfl
  · obtain ⟨a, b, l, fl, dp, rfl, d0, dn, B, Fl, na, nb, h100, k⟩ := h
    have hr1 : Room (n + 4) _ := hr
    refine ⟨_, (pss_cons (ps_set (i := 3) scCond.nd rfl (Or.inl rfl) (pe_call Cnext.G hr1 rfl Cnext.g Cnext.kp Cnext.b .nil pass0 (pa_cons (pv 0) (pa_cons pe_int pa_nil))))
      (pss_cons (ps_if (PW.pt (pw_and (pt_cmpR op_lt (pv 3) pe_int (nomark _)) (pw_and1 (pt_cmpR op_gt (pv 2) pe_int (nomark _))))) (pss_cons (ps_set (i := 4) scCond.nd rfl (Or.inl rfl) (pe_ix (RK.ixL (K := K)) (pe_lst (pa_cons pe_str (pa_cons pe_str (pa_cons pe_str (pa_cons pe_str pa_nil))))) (pv 3) (fun _ _ => rfl)))
        (pss_cons (ps_set (i := 5) scCond.nd rfl (Or.inl rfl) (pe_callTy (RK.tupQ (K := K)) (by rfl) T.tuple (by decide +kernel) (pa_cons (pe_lc (own := [("_law_k", 6)]) rfl scCond.nd (pi_range1 rfl T.range (pa_cons (pe_ifExp (pt_cmpR op_eq (pv 4) pe_str (nomark _)) pe_int pe_int) pa_nil)) (blkOk_by (N := ["_law_h", "_law_fields", "_law_deep", "_law_way", "_law_word", "_law_some_here", "_law_k", "_law_field", "_law_pair"]) (sc := defScope sLcond) (by decide +kernel)) (fun _ _ _ _ _ => (pg_name (i := 6) scCond.nd rfl (Or.inl rfl))) (fun _ _ _ _ _ => pts_nil) (fun _ _ _ _ _ => (pe_call Ccond.G hr1 rfl Ccond.g Ccond.kp Ccond.b .nil pass0 (pa_cons (pv 0) (pa_cons (pv 1) (pa_cons (pe_op op_sub (pv 2) pe_int) pa_nil)))))) pa_nil)))
        (pss_one (ps_ret (pe_op (RK.catT (K := K)) (pe_tup (pa_cons (pv 4) pa_nil)) (pv 5)))))) pss_nil)
      (pss_cons (ps_set (i := 4) scCond.nd rfl (Or.inl rfl) (pe_ix (RK.ixL (K := K)) (pe_lst (pa_cons pe_str (pa_cons pe_str (pa_cons pe_str (pa_cons pe_str (pa_cons pe_str pa_nil)))))) (pe_call Cnext.G hr1 rfl Cnext.g Cnext.kp Cnext.b .nil pass0 (pa_cons (pv 0) (pa_cons pe_int pa_nil))) (fun _ _ => rfl)))
      (pss_cons (ps_if (PW.pt (pw_and (pt_cmpR op_gt (pe_call Cnext.G hr1 rfl Cnext.g Cnext.kp Cnext.b .nil pass0 (pa_cons (pv 0) (pa_cons pe_int pa_nil))) pe_int (nomark _)) (pw_and1 (pt_cmpR (RK.neD (K := K) hr.units) (pv 1) (pe_lst pa_nil) (nomark _))))) (pss_cons (ps_set (i := 7) scCond.nd rfl (Or.inl rfl) (pe_op (RK.catT (K := K)) (pe_tup (pa_cons pe_str pa_nil)) (pe_ix (RK.ixL (K := K)) (pv 1) (pe_call Cnext.G hr1 rfl Cnext.g Cnext.kp Cnext.b .nil pass0 (pa_cons (pv 0) (pa_cons (pe_callB (RK.lenQ (K := K)) (by rfl) T.len PySem.boot_len (pa_cons (pv 1) pa_nil)) pa_nil))) (fun _ _ => rfl))))
        (pss_cons (ps_set (i := 8) scCond.nd rfl (Or.inl rfl) (pe_tup (pa_cons (pv 7) (pa_cons (pe_tup (pa_cons pe_str (pa_cons (pe_call Cnext.G hr1 rfl Cnext.g Cnext.kp Cnext.b .nil pass0 (pa_cons (pv 0) (pa_cons pe_int pa_nil))) pa_nil))) pa_nil))))
        (pss_one (ps_ret (pe_op (RK.catT (K := K)) (pe_tup (pa_cons (pv 4) pa_nil)) (pe_ifExp (pt_cmpR op_eq (pe_call Cnext.G hr1 rfl Cnext.g Cnext.kp Cnext.b .nil pass0 (pa_cons (pv 0) (pa_cons pe_int pa_nil))) pe_int (nomark _)) (pv 8) (L2.pe_revP (K := K) (pv 8)))))))) pss_nil)
      (pss_one (ps_ret (pe_tup (pa_cons (pv 4) (pa_cons (pe_call Cterm.G hr1 rfl Cterm.g Cterm.kp Cterm.b .nil pass0 (pa_cons (pv 0) (pa_cons (pv 1) (pa_cons pe_int pa_nil)))) (pa_cons (pe_call Cterm.G hr1 rfl Cterm.g Cterm.kp Cterm.b .nil pass0 (pa_cons (pv 0) (pa_cons (pv 1) (pa_cons pe_int pa_nil)))) pa_nil)))))))))), ?_⟩
    refine ⟨_, rfl, a, b, 8, rfl, by decide, by decide, B, fun r H1 r0 r8 B1 kp1 => ?_⟩
    have Fl1 := Fl.keep B kp1 na nb
    refine gn ?_
    dsimp only
    refine sif ?_
    refine and2 (b := decide (r < 4)) (c := decide (0 < dp)) (fun Q q => ⟨_, rfl, _, _, rfl, rfl, _, rfl, q⟩) (fun _ Q q => ⟨_, rfl, _, _, rfl, rfl, _, rfl, q⟩) ?_
    cases hb : (decide (r < 4) && decide (0 < dp)) with
    | true =>
      rw [Bool.and_eq_true, decide_eq_true_eq, decide_eq_true_eq] at hb
      refine iteT ?_
      -- word = [..][way]
      refine ⟨(by show 4 ≤ sizeLine; decide), fun p hp => ?_⟩
      have s2 := Same.new (o := .lst [.str (Str.ofString "and"), .str (Str.ofString "and"), .str (Str.ofString "or"), .str (Str.ofString "not")]) hp
      obtain ⟨word, cnt, hw, hc2, hdec, hkind⟩ : ∃ (word : Str) (cnt : Nat), atI [V.str (Str.ofString "and"), .str (Str.ofString "and"), .str (Str.ofString "or"), .str (Str.ofString "not")] r = some (.str word) ∧ cnt ≤ 2 ∧
          decide (V.str word = V.str (Str.ofString "not")) = decide (cnt = 1) ∧ ((cnt = 1 ∧ word = Str.ofString "not") ∨ (cnt = 2 ∧ word ∈ [Str.ofString "and", Str.ofString "or"])) := by
        have h : r = 0 ∨ r = 1 ∨ r = 2 ∨ r = 3 := by omega
        rcases h with rfl | rfl | rfl | rfl
        · exact ⟨_, 2, rfl, by decide, by decide +kernel, .inr ⟨rfl, by decide +kernel⟩⟩
        · exact ⟨_, 2, rfl, by decide, by decide +kernel, .inr ⟨rfl, by decide +kernel⟩⟩
        · exact ⟨_, 2, rfl, by decide, by decide +kernel, .inr ⟨rfl, by decide +kernel⟩⟩
        · exact ⟨_, 1, rfl, by decide, by decide +kernel, .inl ⟨rfl, rfl⟩⟩
      refine ⟨_, rfl, p, _, r, .str word, rfl, rfl, SqL.of upd_same, hw, ?_⟩
      have B2 := B1.same s2
      have Fl2 := Fl1.same s2
      refine ⟨_, rfl, rfl, _, rfl, ?_⟩
      rw [hdec]
      have cases1 : ∀ {σ : L2.St} {H : Hp} {Qx : VK}, Qx (.int (cnt : Int)) H → (if decide (cnt = 1) = true then tC (.int 1) σ H Qx else tC (.int 2) σ H Qx) := fun {σ H Qx} q => by
        rcases hkind with ⟨e, _⟩ | ⟨e, _⟩ <;> subst e <;> exact q
      refine cases1 ⟨(cnt : Int), rfl, by omega, by omega, fun D hD => ?_⟩
      have nD := B2.ne hD
      refine lc_range (lo := 0) (n := cnt) (fun i H' => ∃ (vs : List V) (ts : List Tr), HAt H' a b ∧ Keep a b (upd H1 p (.lst [.str (Str.ofString "and"), .str (Str.ofString "and"), .str (Str.ofString "or"), .str (Str.ofString "not")])) H' ∧ H' D = some (.lst vs) ∧ Paired (TrAt K H') vs ts ∧ (∀ t ∈ ts, IsCd fl t ∧ t.depth ≤ dp.toNat + 1) ∧ ts.length = i)
        ⟨[], [], B2.same (Same.new hD), Keep.same (Same.new hD), upd_same, .nil, (fun t z => by cases z), rfl⟩ ?_ ?_
      · rintro i H3 hi ⟨vs, ts, B3, kp3, hD3, pr, hts, li⟩
        have Fl3 := Fl2.keep B2 kp3 na nb
        refine ⟨rfl, _, rfl, _, rfl, _, rfl, _, _, rfl, rfl, a, b, l, fl, dp - 1, rfl, by omega, by omega, B3, Fl3, na, nb, h100, fun v t H4 B4 kp4 T4 I4 e4 => ?_⟩
        have hD4 := kp4 D _ nD.1 nD.2 hD3
        have lv : vs.length = i := (Paired.length pr).trans li
        refine ⟨vs, hD4, Nat.lt_of_le_of_lt (show vs.length ≤ 2 by omega) (by decide), vs ++ [v], ts ++ [t], B4.upd nD, ?_, upd_same, ?_, ?_, ?_⟩
        · intro x o h1 h2 h
          rw [upd_ne (ne_of_none h hD)]
          exact kp4 x o h1 h2 (kp3 x o h1 h2 h)
        · exact Paired.snoc (Paired.mapP pr fun _ _ q => (q.keep (kp4.n B3)).keep (KeepN.lst hD4)) (T4.keep (KeepN.lst hD4))
        · intro t' m
          rcases List.mem_append.mp m with m | m
          · exact hts t' m
          · obtain rfl := List.mem_singleton.mp m
            exact ⟨I4, by omega⟩
        · rw [List.length_append, li]
          rfl
      · rintro H3 ⟨vs, ts, B3, kp3, hD3, pr, hts, li⟩
        refine ⟨D, vs, rfl, .inl ⟨SqL.of hD3, fun q hq => ?_⟩⟩
        have s4 := Same.new (o := .tup vs) hq
        refine ⟨_, rfl, (by show 1 ≤ sizeLine; decide), fun p5 hp5 => ?_⟩
        have s5 := Same.new (o := .tup [.str word]) hp5
        have lv : vs.length = cnt := (Paired.length pr).trans li
        refine ⟨_, rfl, p5, q, _, _, rfl, rfl, SqT.of upd_same, SqT.of (s5 _ _ upd_same), (by show 1 + vs.length ≤ sizeLine; exact Nat.le_trans (show 1 + vs.length ≤ 3 by omega) (by decide)), (fun z => by cases z), (fun _ z => ?_), fun _ _ p6 hp6 => ?_⟩
        · rw [z] at lv
          rcases hkind with ⟨e, _⟩ | ⟨e, _⟩ <;> subst e <;> cases lv
        · have s6 := Same.new (o := .tup ([V.str word] ++ vs)) hp6
          have s46 := s4.trans (s5.trans s6)
          have kp : Keep a b H _ := kp1.trans ((Keep.same s2).trans (kp3.trans (Keep.same s46)))
          rcases hkind with ⟨e, rfl⟩ | ⟨e, hword⟩
          · subst e
            cases pr with
            | nil => cases li
            | @cons v t vs2 ts2 h1 h2 =>
              cases h2 with
              | cons _ _ => exact absurd lv (by simp)
              | nil =>
                obtain ⟨i1, e1⟩ := hts t List.mem_cons_self
                exact k _ (.not t) _ (B3.same s46) kp ⟨p6, v, rfl, SqT.of upd_same, h1.keep (KeepN.of s46)⟩ (.not i1) (by show t.depth + 1 ≤ _; omega)
          · subst e
            cases pr with
            | nil => cases li
            | @cons v t vs2 ts2 h1 h2 =>
              cases h2 with
              | nil => cases li
              | @cons v' t' vs3 ts3 h3 h4 =>
                cases h4 with
                | cons _ _ => exact absurd lv (by simp)
                | nil =>
                  obtain ⟨i1, e1⟩ := hts t List.mem_cons_self
                  obtain ⟨i2, e2⟩ := hts t' (List.mem_cons_of_mem _ List.mem_cons_self)
                  exact k _ (.bin word t t') _ (B3.same s46) kp ⟨p6, v, v', rfl, SqT.of upd_same, h1.keep (KeepN.of s46), h3.keep (KeepN.of s46)⟩ (.join hword i1 i2) (by show max t.depth t'.depth + 1 ≤ _; omega)
    | false =>
      refine iteF ?_
      refine ⟨(by show 5 ≤ sizeLine; decide), fun p hp => ?_⟩
      have s2 := Same.new (o := .lst (signs.map V.str)) hp
      have np := B1.ne hp
      refine ⟨_, rfl, a, b, 5, rfl, by decide, by decide, B1.same s2, fun x H3 x0 x5 B3 kp3 => ?_⟩
      have hp3 : H3 p = some (.lst (signs.map V.str)) := kp3 p _ np.1 np.2 upd_same
      obtain ⟨word, hw, hword⟩ : ∃ word : Str, atI (signs.map V.str) x = some (.str word) ∧ word ∈ signs := by
        have h : x = 0 ∨ x = 1 ∨ x = 2 ∨ x = 3 ∨ x = 4 := by omega
        rcases h with rfl | rfl | rfl | rfl | rfl
        · exact ⟨_, rfl, by decide +kernel⟩
        · exact ⟨_, rfl, by decide +kernel⟩
        · exact ⟨_, rfl, by decide +kernel⟩
        · exact ⟨_, rfl, by decide +kernel⟩
        · exact ⟨_, rfl, by decide +kernel⟩
      have kp03 : Keep a b H H3 := kp1.trans ((Keep.same s2).trans kp3)
      have Fl3 := Fl.keep B kp03 na nb
      refine ⟨p, _, x, .str word, rfl, rfl, SqL.of hp3, hw, ?_⟩
      have terms : ∀ Hc, HAt Hc a b → Keep a b H Hc → tTup (tCons (tVar 4) (tCons (tCall (spTerm K 2) [] E0 (tCons (tVar 0) (tCons (tVar 1) (tCons (tC (.int 1)) tNil)))) (tCons (tCall (spTerm K 2) [] E0 (tCons (tVar 0) (tCons (tVar 1) (tCons (tC (.int 1)) tNil)))) tNil)))
          [some (.ref a), some (.ref l), some (.int dp), some (.int r), some (.str word), none, none, none, none] Hc Q := fun Hc Bc kpc => by
        have Flc := Fl.keep B kpc na nb
        refine ⟨_, rfl, _, rfl, _, rfl, a, b, l, fl, 1, rfl, by decide, by decide, Bc, Flc, na, nb, h100, fun v1 t1 H4 B4 kp4 T4 I4 e4 => ?_⟩
        refine ⟨_, rfl, _, rfl, a, b, l, fl, 1, rfl, by decide, by decide, B4, Flc.keep Bc kp4 na nb, na, nb, h100, fun v2 t2 H5 B5 kp5 T5 I5 e5 => ⟨(by show 3 ≤ sizeLine; decide), fun p6 hp6 => ?_⟩⟩
        have s6 := Same.new (o := .tup [.str word, v1, v2]) hp6
        refine k _ (.bin word t1 t2) _ (B5.same s6) (kpc.trans (kp4.trans (kp5.trans (Keep.same s6)))) ⟨p6, v1, v2, rfl, SqT.of upd_same, (T4.keep (kp5.n B4)).keep (KeepN.of s6), T5.keep (KeepN.of s6)⟩ (.cmp hword I4 I5) ?_
        have e4' : t1.depth ≤ 1 := e4
        have e5' : t2.depth ≤ 1 := e5
        show max t1.depth t2.depth + 1 ≤ _
        omega
      refine ⟨_, rfl, a, b, 3, rfl, by decide, by decide, B3, fun y H4 y0 y3 B4 kp4 => ⟨_, _, rfl, rfl, _, rfl, ?_⟩⟩
      have kp04 := kp03.trans kp4
      have Fl4 := Fl.keep B kp04 na nb
      refine ite2 (fun _ => ?_) (fun _ => iteF (terms H4 B4 kp04))
      refine ⟨_, rfl, (by show 0 ≤ sizeLine; decide), fun e he => ?_⟩
      have s5 := Same.new (o := .lst []) he
      have Fl5 := Fl4.same s5
      obtain ⟨vs, hl, pr, ok⟩ := id Fl5
      refine ⟨_, _, .lst (SqL.of hl) (fl_dp pr), .lst (SqL.of upd_same) .nil, fl_shaped ok, rfl, _, rfl, ?_⟩
      rw [eqv_fl]
      have kp05 := kp04.trans (Keep.same s5)
      cases hfl : fl.isEmpty with
      | true => exact iteF (terms _ (B4.same s5) kp05)
      | false =>
        refine iteT (te_field (K := K) (a := a) (b := b) (l := l) (fl := fl) rfl rfl (B4.same s5) Fl5 na nb h100 (fun z => by rw [z] at hfl; cases hfl) fun v q H6 m B6 kp6 T6 => ?_)
        refine ⟨_, rfl, _, rfl, a, b, 8, rfl, by decide, by decide, B6, fun z H7 z0 z8 B7 kp7 => ⟨(by show 2 ≤ sizeLine; decide), fun p8 hp8 => ⟨(by show 2 ≤ sizeLine; decide), fun p9 hp9 => ?_⟩⟩⟩
        have s8 := Same.new (o := .tup [.str (Str.ofString "num"), .int z]) hp8
        have s9 := Same.new (o := .tup [v, .ref p8]) hp9
        have s89 := s8.trans s9
        have T9 := (T6.keep (kp7.n B6)).keep (KeepN.of s89)
        have N9 : TrAt K _ (.ref p8) (.num z) := ⟨p8, rfl, SqT.of (s9 _ _ upd_same)⟩
        refine ⟨_, rfl, (by show 1 ≤ sizeLine; decide), fun pa hpa => ?_⟩
        have sa := Same.new (o := .tup [.str word]) hpa
        have B10 := (B7.same s89).same sa
        have kp10 : Keep a b H _ := kp05.trans (kp6.trans (kp7.trans (Keep.same (s89.trans sa))))
        refine ⟨_, rfl, a, b, 2, rfl, by decide, by decide, B10, fun u H11 u0 u2 B11 kp11 => ⟨rfl, _, rfl, ?_⟩⟩
        have kn11 := (KeepN.of sa).trans (kp11.n B10)
        have T11 := T9.keep kn11
        have N11 := N9.keep kn11
        have hpair : SqT K H11 p9 [v, .ref p8] := kn11.t (SqT.of upd_same)
        have hword1 : SqT K H11 pa [.str word] := (kp11.n B10).t (SqT.of upd_same)
        have kp011 : Keep a b H H11 := kp10.trans kp11
        have fin : ∀ (pc : Addr) (v1 v2 : V) (t1 t2 : Tr) (H12 : Hp), Same H11 H12 → SqT K H12 pc [v1, v2] → TrAt K H12 v1 t1 → TrAt K H12 v2 t2 → IsTm fl t1 → IsTm fl t2 → t1.depth = 0 → t2.depth = 0 → rCatA K (.ref pa) (.ref pc) H12 Q := fun pc v1 v2 t1 t2 H12 s12 hpc a1 a2 i1 i2 e1 e2 =>
          ⟨pa, pc, _, _, rfl, rfl, (KeepN.of s12).t hword1, hpc, (by show 1 + 2 ≤ sizeLine; decide), (fun z => by cases z), (fun _ z => by cases z), fun _ _ pd hpd => by
            have sd := Same.new (o := .tup ([V.str word] ++ [v1, v2])) hpd
            refine k _ (.bin word t1 t2) _ ((B11.same s12).same sd) (kp011.trans (Keep.same (s12.trans sd))) ⟨pd, v1, v2, rfl, SqT.of upd_same, a1.keep (KeepN.of sd), a2.keep (KeepN.of sd)⟩ (.cmp hword i1 i2) ?_
            show max t1.depth t2.depth + 1 ≤ _
            rw [e1, e2]
            omega⟩
        refine ite2 (fun _ => ?_) (fun _ => ?_)
        · exact ⟨_, rfl, fin p9 _ _ _ _ H11 (Same.refl _) hpair T11 N11 (.field m) (.num (by omega) (by omega)) rfl rfl⟩
        · refine ⟨_, rfl, p9, _, _, rfl, hpair, fun pe hpe => ?_⟩
          have se := Same.new (o := .tup [.ref p8, v]) hpe
          exact fin pe _ _ _ _ _ se (SqT.of upd_same) (N11.keep (KeepN.of se)) (T11.keep (KeepN.of se)) (.num (by omega) (by omega)) (.field m) rfl rfl
end
end K04

namespace K04
open PySem L2

theorem pair_app {α β : Type} {R : α → β → Prop} : ∀ {a c : List α} {b d : List β}, Paired R a b → Paired R c d → Paired R (a ++ c) (b ++ d)
  | _, _, _, _, .nil, q => q
  | _, _, _, _, .cons h t, q => .cons h (pair_app t q)
def flOf (sh : List (Str × List Str)) (ts : List Str) : List (Str × Str) := ts.flatMap fun t => ((sh.lookup t).getD []).map fun f => (t, f)
def spSome (K : PySem.W.Frag) : Sp := fun vs H Q _ => ∃ (v0 : V) (d l : Addr) (sh : List (Str × List Str)) (ts : List Str), vs = [v0, .ref d, .ref l] ∧ ShapesAt K H d sh ∧ SqL K H l (ts.map V.str) ∧ (∀ t ∈ ts, ∃ fs, sh.lookup t = some fs ∧ fs.length ≤ 4) ∧ ts.length ≤ 3 ∧ FlOk (flOf sh ts) ∧
  ∀ (r : Addr) (H' : Hp), Same H H' → H r = none → FlAt K H' r (flOf sh ts) → (flOf sh ts).length ≤ 12 → Q (.ref r) H'
section
variable {P : Program} {w : World} {K : PySem.W.Frag} {mg : Str → Option Value} {base : Heap}
theorem scSome : FnScope ["_law_h", "_law_shapes_here", "_law_tables", "_law_found", "_law_table", "_law_field"] ["_law_h", "_law_shapes_here", "_law_tables"] (defScope sLsome) := ⟨rfl, rfl, rfl, by decide +kernel, rfl, by decide +kernel, by decide +kernel⟩
theorem ok_some {f : Addr} {fd : FuncData} (F : Fun K "_law_some" "_law_some" sLsome f fd) : FnOk P w K mg base CX0 1 f fd ["_law_h", "_law_shapes_here", "_law_tables"] (spSome K) := by
  refine F.ok scSome (fun vs H Q E h => ?_) (fun cdv A outer s H vs Q E hr h => ?_)
  · obtain ⟨v0, d, l, sh, ts, rfl, _⟩ := h
    rfl
  · obtain ⟨v0, d, l, sh, ts, rfl, S, hl, hts, t3, ok, k⟩ := h
    refine ⟨_, (pss_cons (ps_set (i := 3) scSome.nd rfl (Or.inl rfl) (pe_lst pa_nil))
      (pss_cons (ps_for PassesOwn.never rfl (RK.piL (K := K) (pv 2)) (pg_name (i := 4) scSome.nd rfl (Or.inr rfl))
        (pss_one (ps_set (i := 3) scSome.nd rfl (Or.inl rfl) (pe_op op_cat (pv 3) (pe_lc (own := [("_law_field", 5)]) rfl scSome.nd (RK.piT (K := K) (pe_dget (hu_of hr) (pv 1) (pv 4) (fun _ _ => rfl))) (blkOk_by (N := ["_law_h", "_law_shapes_here", "_law_tables", "_law_found", "_law_table", "_law_field"]) (sc := defScope sLsome) (by decide +kernel)) (fun _ _ _ _ _ => (pg_name (i := 5) scSome.nd rfl (Or.inl rfl))) (fun _ _ _ _ _ => pts_nil) (fun _ _ _ _ _ => (pe_tup (pa_cons (pv 4) (pa_cons (pv 5) pa_nil)))))))))
      (pss_one (ps_ret (pv 3))))), ?_⟩
    have lt : (ts.map V.str).length = ts.length := List.length_map ..
    refine ⟨(by show 0 ≤ sizeLine; decide), fun p hp => ?_⟩
    have s0 := Same.new (o := .lst []) hp
    refine ⟨_, rfl, l, rfl, ⟨_, s0.seq hl⟩, for_list (K := K) (a := l) (xs := ts.map V.str) (fun i σ H' => ∃ (r : Addr) (v4 v5 : Option V) (vs : List V), σ = [some v0, some (.ref d), some (.ref l), some (.ref r), v4, v5] ∧ Same H H' ∧ H r = none ∧ H' r = some (.lst vs) ∧ Paired (FlR K H') vs (flOf sh (ts.take i)) ∧ vs.length ≤ 4 * i)
      ⟨p, none, none, [], rfl, s0, hp, upd_same, .nil, Nat.le_refl _⟩ (fun i σ H' _ ⟨_, _, _, _, _, sm, _⟩ => sm.seq hl) ?_ ?_⟩
    · rintro i y σ H1 hi ⟨r, v4, v5, vs, rfl, sm, r0, hr1, pr, lv⟩
      have hi1 : i < ts.length := by have q := (List.getElem?_eq_some_iff.mp hi).1; omega
      obtain rfl : y = .str ts[i] := by rw [List.getElem?_map, List.getElem?_eq_getElem hi1] at hi; exact (Option.some.inj hi).symm
      obtain ⟨fs, hfs, f4⟩ := hts ts[i] (List.getElem_mem hi1)
      obtain ⟨kvs, hd, prs⟩ := S.keep (KeepN.of sm)
      have tk : flOf sh (ts.take (i + 1)) = flOf sh (ts.take i) ++ fs.map fun f => (ts[i], f) := by
        rw [List.take_add_one, List.getElem?_eq_getElem hi1]
        unfold flOf
        rw [List.flatMap_append]
        simp [hfs]
      rcases pr_look ts[i] prs with ⟨e1, _⟩ | ⟨x, v, e1, e2, t, rfl, ht⟩
      · rw [hfs] at e1
        cases e1
      obtain rfl : fs = x := by rw [hfs] at e1; exact Option.some.inj e1
      refine ⟨_, rfl, _, rfl, _, rfl, d, _, rfl, .inl ⟨kvs, .inr ts[i], .inl hd, rfl, e2.symm⟩, t, rfl, ⟨_, ht⟩, fun D hD => ?_⟩
      have nrD : r ≠ D := ne_of_none hr1 hD
      refine lc_tup (K := K) (a := t) (xs := fs.map V.str) (fun j H2 => Same H1 H2 ∧ ∃ ws, H2 D = some (.lst ws) ∧ Paired (FlR K H2) ws ((fs.take j).map fun f => (ts[i], f)) ∧ ws.length = j)
        ⟨Same.new hD, [], upd_same, .nil, rfl⟩ (fun j H2 _ ⟨s2, _⟩ => (KeepN.of s2).t ht) ?_ ?_
      · rintro j x H2 hx ⟨s2, ws, hD2, pw, lw⟩
        have hj : j < fs.length := by have q := (List.getElem?_eq_some_iff.mp hx).1; rw [List.length_map] at q; exact q
        obtain rfl : x = .str fs[j] := by rw [List.getElem?_map, List.getElem?_eq_getElem hj] at hx; exact (Option.some.inj hx).symm
        refine ⟨rfl, _, rfl, _, rfl, (by show 2 ≤ sizeLine; decide), fun q hq => ?_⟩
        have s3 := Same.new (o := .tup [.str ts[i], .str fs[j]]) hq
        have hD3 := s3 _ _ hD2
        refine ⟨ws, hD3, Nat.lt_of_le_of_lt (show ws.length ≤ 4 by omega) (by decide), fun b o e => ?_, ws ++ [.ref q], upd_same, ?_, by rw [List.length_append, lw]; rfl⟩
        · rw [upd_ne (ne_of_none e hD)]
          exact s3 _ _ (s2 _ _ e)
        · have tk2 : fs.take (j + 1) = fs.take j ++ [fs[j]] := by rw [List.take_add_one, List.getElem?_eq_getElem hj]; rfl
          rw [tk2, List.map_append]
          exact Paired.snoc (fl_mono (fun _ _ z => (KeepN.lst hD3).t ((KeepN.of s3).t z)) pw) ⟨q, rfl, (KeepN.lst hD3).t (SqT.of upd_same)⟩
      · rintro H2 ⟨s2, ws, hD2, pw, lw⟩
        rw [List.length_map] at lw
        rw [List.length_map, List.take_length] at pw
        refine ⟨r, D, vs, ws, rfl, rfl, s2 _ _ hr1, hD2, Nat.le_trans (show vs.length + ws.length ≤ 16 by omega) (by decide), fun q hq => ?_⟩
        have s3 := Same.new (o := .lst (vs ++ ws)) hq
        have s13 := s2.trans s3
        have q0 : H q = none := by
          cases e : H q with
          | none => rfl
          | some o => rw [s2 _ _ (sm _ _ e)] at hq; cases hq
        refine ⟨q, _, _, vs ++ ws, rfl, sm.trans s13, q0, upd_same, ?_, by rw [List.length_append]; omega⟩
        rw [tk]
        exact pair_app (fl_mono (fun _ _ z => (KeepN.of s13).t z) pr) (fl_mono (fun _ _ z => (KeepN.of s3).t z) pw)
    · rintro σ H' ⟨r, v4, v5, vs, rfl, sm, r0, hr1, pr, lv⟩
      rw [lt, List.take_length] at pr
      have le : (flOf sh ts).length ≤ 12 := by rw [← (Paired.length pr)]; omega
      exact ⟨_, rfl, k r H' sm r0 ⟨vs, hr1, pr, ok⟩ le⟩
end
end K04

namespace K04
open PySem L2

abbrev sAnd : Str := Str.ofString "and"
abbrev sOr : Str := Str.ofString "or"
/-- the comparisons that must be true -/
def parts : Tr → List Tr
  | .bin op l r => if op = sAnd then parts l ++ parts r else if op = sOr then [] else [.bin op l r]
  | _ => []
def partsO : Option Tr → List Tr
  | none => []
  | some t => parts t
theorem parts_len : ∀ t : Tr, (parts t).length ≤ 2 ^ t.depth
  | .num _ => Nat.zero_le _
  | .field _ _ => Nat.zero_le _
  | .not _ => Nat.zero_le _
  | .bin op l r => by
    have h1 := parts_len l
    have h2 := parts_len r
    have e1 : 2 ^ l.depth ≤ 2 ^ (max l.depth r.depth) := Nat.pow_le_pow_right (by decide) (Nat.le_max_left ..)
    have e2 : 2 ^ r.depth ≤ 2 ^ (max l.depth r.depth) := Nat.pow_le_pow_right (by decide) (Nat.le_max_right ..)
    have e3 : 2 ^ (max l.depth r.depth + 1) = 2 ^ (max l.depth r.depth) + 2 ^ (max l.depth r.depth) := by rw [Nat.pow_succ]; omega
    have e4 : 1 ≤ 2 ^ (max l.depth r.depth) := Nat.one_le_two_pow
    show (if op = sAnd then parts l ++ parts r else if op = sOr then [] else [.bin op l r]).length ≤ 2 ^ (max l.depth r.depth + 1)
    split
    · rw [List.length_append]; omega
    · split
      · exact Nat.zero_le _
      · show 1 ≤ _
        omega
def CondAt (K : PySem.W.Frag) (H : Hp) (v : V) : Option Tr → Prop
  | none => v = .non
  | some t => TrAt K H v t
theorem CondAt.keep {K : PySem.W.Frag} {H H' : Hp} (k : KeepN H H') {v : V} {c : Option Tr} (h : CondAt K H v c) : CondAt K H' v c := by
  cases c with
  | none => exact h
  | some t => exact TrAt.keep k h
/-- what a condition's tree is made of, whatever fields -/
inductive Cd : Tr → Prop where
  | cmp {op : Str} {l r : Tr} : op ∈ signs → (∃ fl, FlOk fl ∧ IsTm fl l) → (∃ fl, FlOk fl ∧ IsTm fl r) → Cd (.bin op l r)
  | join {op : Str} {l r : Tr} : op ∈ [sAnd, sOr] → Cd l → Cd r → Cd (.bin op l r)
  | not {x : Tr} : Cd x → Cd (.not x)
theorem Cd.of {fl : List (Str × Str)} {t : Tr} (ok : FlOk fl) (h : IsCd fl t) : Cd t := by
  induction h with
  | cmp h l r => exact .cmp h ⟨_, ok, l⟩ ⟨_, ok, r⟩
  | join h _ _ l r => exact .join h l r
  | not _ x => exact .not x
def CdO : Option Tr → Prop
  | none => True
  | some t => Cd t
def depO : Option Tr → Nat
  | none => 0
  | some t => t.depth
def spParts (K : PySem.W.Frag) (n : Nat) : Sp := fun vs H Q _ => ∃ (v : V) (c : Option Tr), vs = [v] ∧ CondAt K H v c ∧ CdO c ∧ depO c < n ∧ n ≤ 16 ∧
  ∀ (r : Addr) (H' : Hp) (us : List V), Same H H' → H r = none → H' r = some (.lst us) → Paired (TrAt K H') us (partsO c) → Q (.ref r) H'
def fits (op : Str) (x y : Int) : Bool := if op = Str.ofString "=" then decide (x = y) else if op = Str.ofString "<" then decide (x < y) else if op = Str.ofString ">" then decide (y < x) else if op = Str.ofString "<=" then decide (x ≤ y) else decide (y ≤ x)
def spFits : Sp := fun vs H Q _ => ∃ (op : Str) (x y : Int), vs = [.str op, .int x, .int y] ∧ op ∈ signs ∧ ∀ H', Same H H' → Q (.bl (fits op x y)) H'
section
variable {P : Program} {w : World} {K : PySem.W.Frag} {mg : Str → Option Value} {base : Heap}
theorem scParts : FnScope ["_law_cond_here"] ["_law_cond_here"] (defScope sLparts) := ⟨rfl, rfl, rfl, by decide +kernel, rfl, by decide +kernel, by decide +kernel⟩
theorem ok_parts {n : Nat} {f : Addr} {fd : FuncData} (F : Fun K "_law_parts" "_law_parts" sLparts f fd) (Cparts : Cal P w K mg base n "_law_parts" ["_law_cond_here"] (spParts K n) f fd) : FnOk P w K mg base CX0 (n + 1) f fd ["_law_cond_here"] (spParts K (n + 1)) := by
  refine F.ok scParts (fun vs H Q E h => ?_) (fun cdv A outer s H vs Q E hr h => ?_)
  · obtain ⟨v, c, rfl, _⟩ := h
    rfl
  · obtain ⟨v, c, rfl, C, cd, dn, n16, k⟩ := h
    have hr1 : Room n _ := hr
    refine ⟨_, (pss_cons (ps_if (PW.pt (pw_or (pt_cmpR op_isN (pv 0) pe_non (nomark _)) (pw_or1 (pt_cmpR (RK.inQ (K := K)) (pe_ix (RK.ixT (K := K)) (pv 0) pe_int (fun _ _ => rfl)) (pe_tup (pa_cons pe_str (pa_cons pe_str pa_nil))) (by rfl))))) (pss_one (ps_ret (pe_lst pa_nil))) pss_nil)
      (pss_one (ps_ret (pe_ifExp (pt_cmpR op_eq (pe_ix (RK.ixT (K := K)) (pv 0) pe_int (fun _ _ => rfl)) pe_str (nomark _)) (pe_op op_cat (pe_call Cparts.G hr1 rfl Cparts.g Cparts.kp Cparts.b .nil pass0 (pa_cons (pe_ix (RK.ixT (K := K)) (pv 0) pe_int (fun _ _ => rfl)) pa_nil)) (pe_call Cparts.G hr1 rfl Cparts.g Cparts.kp Cparts.b .nil pass0 (pa_cons (pe_ix (RK.ixT (K := K)) (pv 0) pe_int (fun _ _ => rfl)) pa_nil))) (pe_lst (pa_cons (pv 0) pa_nil)))))), ?_⟩
    cases c with
    | none =>
      obtain rfl : v = .non := C
      refine ⟨_, rfl, rfl, _, rfl, iteT (iteT ⟨(by show 0 ≤ sizeLine; decide), fun p hp => k p _ [] (Same.new hp) hp upd_same .nil⟩)⟩
    | some t =>
      have notNone : ∀ p : Addr, decide (V.ref p = V.non) = false := fun p => rfl
      have inN : ∀ {p : Addr} {H2 : Hp} {op : Str}, H2 p = some (.tup [.str sOr, .str (Str.ofString "not")]) → True := fun _ => trivial
      cases cd with
      | @not x cx =>
        obtain ⟨p, x0, rfl, hp, hx⟩ := C
        refine ⟨_, rfl, rfl, _, rfl, iteF ⟨_, rfl, p, _, 0, _, rfl, rfl, hp, rfl, (by show 2 ≤ sizeLine; decide), fun q hq => ⟨q, _, rfl, .inr (SqT.of upd_same), rfl, rfl, _, rfl, ?_⟩⟩⟩
        have s1 := Same.new (o := .tup [.str sOr, .str (Str.ofString "not")]) hq
        rw [show (if false = true then !inV (V.str (Str.ofString "not")) [V.str sOr, V.str (Str.ofString "not")] else inV (V.str (Str.ofString "not")) [V.str sOr, V.str (Str.ofString "not")]) = true by decide +kernel]
        refine iteT ⟨(by show 0 ≤ sizeLine; decide), fun e he => ?_⟩
        have s2 := Same.new (o := .lst []) he
        have e0 : H e = none := by rw [upd_ne (fun z => by rw [z, upd_same] at he; cases he)] at he; exact he
        exact k e _ [] (s1.trans s2) e0 upd_same .nil
      | @cmp op l r hop hl hr' =>
        obtain ⟨p, x, y, rfl, hp, hx, hy⟩ := C
        refine ⟨_, rfl, rfl, _, rfl, iteF ⟨_, rfl, p, _, 0, _, rfl, rfl, hp, rfl, (by show 2 ≤ sizeLine; decide), fun q hq => ⟨q, _, rfl, .inr (SqT.of upd_same), rfl, rfl, _, rfl, ?_⟩⟩⟩
        have s1 := Same.new (o := .tup [.str sOr, .str (Str.ofString "not")]) hq
        have no : (if false = true then !inV (V.str op) [V.str sOr, V.str (Str.ofString "not")] else inV (V.str op) [V.str sOr, V.str (Str.ofString "not")]) = false ∧ decide (V.str op = V.str sAnd) = false ∧ op ≠ sAnd ∧ op ≠ sOr := by
          simp only [signs, List.mem_cons, List.mem_nil_iff, or_false] at hop
          rcases hop with rfl | rfl | rfl | rfl | rfl <;> exact ⟨by decide +kernel, by decide +kernel, by decide +kernel, by decide +kernel⟩
        rw [no.1]
        refine iteF ⟨_, rfl, p, _, 0, _, rfl, rfl, (KeepN.of s1).t hp, rfl, rfl, _, rfl, ?_⟩
        rw [no.2.1]
        refine iteF ⟨_, rfl, (by show 1 ≤ sizeLine; decide), fun e he => ?_⟩
        have s2 := Same.new (o := .lst [.ref p]) he
        have e0 : H e = none := by rw [upd_ne (fun z => by rw [z, upd_same] at he; cases he)] at he; exact he
        refine k e _ [.ref p] (s1.trans s2) e0 upd_same ?_
        have pe : partsO (some (.bin op l r)) = [.bin op l r] := by
          show (if op = sAnd then parts l ++ parts r else if op = sOr then [] else [.bin op l r]) = _
          rw [if_neg no.2.2.1, if_neg no.2.2.2]
        rw [pe]
        exact .cons (TrAt.keep (KeepN.of (s1.trans s2)) (show TrAt K H (.ref p) (.bin op l r) from ⟨p, x, y, rfl, hp, hx, hy⟩)) .nil
      | @join op l r hop cl cr =>
        obtain ⟨p, x, y, rfl, hp, hx, hy⟩ := C
        have dl : l.depth < n ∧ r.depth < n := by
          have : max l.depth r.depth + 1 < n + 1 := dn
          omega
        refine ⟨_, rfl, rfl, _, rfl, iteF ⟨_, rfl, p, _, 0, _, rfl, rfl, hp, rfl, (by show 2 ≤ sizeLine; decide), fun q hq => ⟨q, _, rfl, .inr (SqT.of upd_same), rfl, rfl, _, rfl, ?_⟩⟩⟩
        have s1 := Same.new (o := .tup [.str sOr, .str (Str.ofString "not")]) hq
        simp only [List.mem_cons, List.mem_nil_iff, or_false] at hop
        rcases hop with rfl | rfl
        · rw [show (if false = true then !inV (V.str sAnd) [V.str sOr, V.str (Str.ofString "not")] else inV (V.str sAnd) [V.str sOr, V.str (Str.ofString "not")]) = false by decide +kernel]
          refine iteF ⟨_, rfl, p, _, 0, _, rfl, rfl, (KeepN.of s1).t hp, rfl, rfl, _, rfl, ?_⟩
          rw [show decide (V.str sAnd = V.str sAnd) = true by decide +kernel]
          refine iteT ⟨_, rfl, p, _, 1, _, rfl, rfl, (KeepN.of s1).t hp, rfl, x, some l, rfl, hx.keep (KeepN.of s1), cl, dl.1, by omega, fun e1 H2 us s2 _ h1 p1 => ?_⟩
          have s12 := s1.trans s2
          refine ⟨_, rfl, p, _, 2, _, rfl, rfl, (KeepN.of s12).t hp, rfl, y, some r, rfl, hy.keep (KeepN.of s12), cr, dl.2, by omega, fun e2 H3 ws s3 _ h2 p2 => ?_⟩
          have l1 : us.length ≤ 2 ^ l.depth := by rw [Paired.length p1]; exact parts_len l
          have l2 : ws.length ≤ 2 ^ r.depth := by rw [Paired.length p2]; exact parts_len r
          have b1 : 2 ^ l.depth ≤ 2 ^ 16 := Nat.pow_le_pow_right (by decide) (by omega)
          have b2 : 2 ^ r.depth ≤ 2 ^ 16 := Nat.pow_le_pow_right (by decide) (by omega)
          refine ⟨e1, e2, us, ws, rfl, rfl, s3 _ _ h1, h2, Nat.le_trans (show us.length + ws.length ≤ 2 ^ 17 by omega) (by decide), fun e3 he3 => ?_⟩
          have s4 := Same.new (o := .lst (us ++ ws)) he3
          have e0 : H e3 = none := (s12.trans s3).free he3
          refine k e3 _ _ (s12.trans (s3.trans s4)) e0 upd_same ?_
          have pe : partsO (some (.bin sAnd l r)) = parts l ++ parts r := by
            show (if sAnd = sAnd then parts l ++ parts r else if sAnd = sOr then [] else [.bin sAnd l r]) = _
            rw [if_pos rfl]
          rw [pe]
          exact pair_app (Paired.mapP p1 fun _ _ z => z.keep (KeepN.of (s3.trans s4))) (Paired.mapP p2 fun _ _ z => z.keep (KeepN.of s4))
        · rw [show (if false = true then !inV (V.str sOr) [V.str sOr, V.str (Str.ofString "not")] else inV (V.str sOr) [V.str sOr, V.str (Str.ofString "not")]) = true by decide +kernel]
          refine iteT ⟨(by show 0 ≤ sizeLine; decide), fun e he => ?_⟩
          have s2 := Same.new (o := .lst []) he
          have e0 : H e = none := s1.free he
          refine k e _ [] (s1.trans s2) e0 upd_same ?_
          have pe : partsO (some (.bin sOr l r)) = [] := by
            show (if sOr = sAnd then parts l ++ parts r else if sOr = sOr then [] else [.bin sOr l r]) = _
            rw [if_neg (by decide +kernel), if_pos rfl]
          rw [pe]
          exact .nil
theorem all_parts {f : Addr} {fd : FuncData} (F : Fun K "_law_parts" "_law_parts" sLparts f fd) (g : mg "_law_parts" = some (.ref f)) (b : Binds K fd ["_law_cond_here"] []) : ∀ n : Nat, FnOk P w K mg base CX0 n f fd ["_law_cond_here"] (spParts K n)
  | 0 => none_left fun vs H Q E h => by
    obtain ⟨_, _, _, _, _, h1, _⟩ := h
    omega
  | n + 1 => ok_parts F ⟨g, F.kp, b, all_parts F g b n⟩
theorem scFits : FnScope ["_law_word", "_law_one", "_law_other"] ["_law_word", "_law_one", "_law_other"] (defScope sLfits) := ⟨rfl, rfl, rfl, by decide +kernel, rfl, by decide +kernel, by decide +kernel⟩
theorem ok_fits {f : Addr} {fd : FuncData} (F : Fun K "_law_fits" "_law_fits" sLfits f fd) : FnOk P w K mg base CX0 1 f fd ["_law_word", "_law_one", "_law_other"] spFits := by
  refine F.ok scFits (fun vs H Q E h => ?_) (fun cdv A outer s H vs Q E hr h => ?_)
  · obtain ⟨op, x, y, rfl, _⟩ := h
    rfl
  · obtain ⟨op, x, y, rfl, hop, k⟩ := h
    refine ⟨_, (pss_one (ps_ret (pe_dget (hu_of hr) (pe_disp (pps_cons pe_str (pe_cmpR op_eq (pv 1) (pv 2) (nomark _)) (pps_cons pe_str (pe_cmpR op_lt (pv 1) (pv 2) (nomark _)) (pps_cons pe_str (pe_cmpR op_gt (pv 1) (pv 2) (nomark _)) (pps_cons pe_str (pe_cmpR op_le (pv 1) (pv 2) (nomark _)) (pps_cons pe_str (pe_cmpR op_ge (pv 1) (pv 2) (nomark _)) pps_nil))))) (by rfl) (by rfl) (fun z => by cases z) (by decide)) (pv 0) (fun _ _ => rfl)))), ?_⟩
    intro p hp
    refine ⟨_, rfl, _, rfl, rfl, _, rfl, _, rfl, _, _, rfl, rfl, _, rfl, _, rfl, _, _, rfl, rfl, _, rfl, _, rfl, _, _, rfl, rfl, _, rfl, _, rfl, _, _, rfl, rfl, ?_⟩
    have kv : ∀ (a b c d e : Bool), ([(V.str (Str.ofString "="), V.bl a), (V.str (Str.ofString "<"), V.bl b), (V.str (Str.ofString ">"), V.bl c), (V.str (Str.ofString "<="), V.bl d), (V.str (Str.ofString ">="), V.bl e)] : List (V × V)) =
        ([(Sum.inr (Str.ofString "="), V.bl a), (Sum.inr (Str.ofString "<"), V.bl b), (Sum.inr (Str.ofString ">"), V.bl c), (Sum.inr (Str.ofString "<="), V.bl d), (Sum.inr (Str.ofString ">="), V.bl e)] : List (Key × V)).map (fun kv => (kV kv.1, kv.2)) := fun _ _ _ _ _ => rfl
    refine ⟨upd_same, _, kv _ _ _ _ _, (by show 5 ≤ 15; decide), ?_⟩
    rw [upd_upd]
    have s1 := Same.new (o := .dK (mergeK [] [(Sum.inr (Str.ofString "="), V.bl (decide (V.int x = V.int y))), (Sum.inr (Str.ofString "<"), V.bl (decide (x < y))), (Sum.inr (Str.ofString ">"), V.bl (decide (y < x))), (Sum.inr (Str.ofString "<="), V.bl (decide (x ≤ y))), (Sum.inr (Str.ofString ">="), V.bl (decide (y ≤ x)))])) hp
    have vx : decide (V.int x = V.int y) = decide (x = y) := decide_eq_decide.mpr ⟨fun e => V.int.inj e, fun e => congrArg V.int e⟩
    have q := k _ s1
    have key : ∀ (a b c d e : Bool), valV (mergeK [] [(Sum.inr (Str.ofString "="), V.bl a), (Sum.inr (Str.ofString "<"), V.bl b), (Sum.inr (Str.ofString ">"), V.bl c), (Sum.inr (Str.ofString "<="), V.bl d), (Sum.inr (Str.ofString ">="), V.bl e)]) (Sum.inr op : Key) =
        some (V.bl (if op = Str.ofString "=" then a else if op = Str.ofString "<" then b else if op = Str.ofString ">" then c else if op = Str.ofString "<=" then d else e)) := fun a b c d e => by
      simp only [signs, List.mem_cons, List.mem_nil_iff, or_false] at hop
      rcases hop with rfl | rfl | rfl | rfl | rfl <;> rfl
    have kk := key (decide (V.int x = V.int y)) (decide (x < y)) (decide (y < x)) (decide (x ≤ y)) (decide (y ≤ x))
    rw [vx] at kk s1 q ⊢
    exact ⟨_, rfl, p, _, rfl, .inl ⟨_, .inr op, .inl upd_same, rfl, kk.symm⟩, q⟩
end
end K04

namespace K04
open PySem L2

/-! ### what a comparison says -/
abbrev Span := Option Int × Option Int
abbrev gEq : Str := Str.ofString "="
abbrev gLt : Str := Str.ofString "<"
abbrev gGt : Str := Str.ofString ">"
abbrev gLe : Str := Str.ofString "<="
abbrev gGe : Str := Str.ofString ">="
abbrev sNum : Str := Str.ofString "num"
abbrev sField : Str := Str.ofString "field"
def flip (op : Str) : Str := if op = gLt then gGt else if op = gGt then gLt else if op = gLe then gGe else if op = gGe then gLe else op
def lowOf (op : Str) (n : Int) : Option Int := if op = gEq ∨ op = gGt ∨ op = gGe then some (n + if op = gGt then 1 else 0) else none
def highOf (op : Str) (n : Int) : Option Int := if op = gEq ∨ op = gLt ∨ op = gLe then some (n - if op = gLt then 1 else 0) else none
def maxO : Option Int → Option Int → Option Int
  | o, none => o
  | none, some b => some b
  | some a, some b => some (if b > a then b else a)
def minO : Option Int → Option Int → Option Int
  | o, none => o
  | none, some b => some b
  | some a, some b => some (if b < a then b else a)
def narrow (s : Span) (op : Str) (n : Int) : Span := (maxO s.1 (lowOf op n), minO s.2 (highOf op n))
/-- a field of the table on the left, a number on the right -/
def conW (tb w : Str) : Tr → Tr → Option (Str × Str × Int)
  | .field t f, .num n => if t = tb then some (f, w, n) else none
  | _, _ => none
def con (tb : Str) : Tr → Option (Str × Str × Int)
  | .bin op (.num a) r => conW tb (flip op) r (.num a)
  | .bin op l r => conW tb op l r
  | _ => none
def falseNum : Tr → Bool
  | .bin op (.num a) (.num b) => !fits op a b
  | _ => false
/-- put in its place, or at the end -/
def putL (fs : List (Str × Span)) (k : Str) (x : Span) : List (Str × Span) := if k ∈ fs.map (·.1) then fs.map (fun p => if p.1 = k then (p.1, x) else p) else fs ++ [(k, x)]
def stepC (fs : List (Str × Span)) : Option (Str × Str × Int) → List (Str × Span)
  | none => fs
  | some (g, op, n) => putL fs g (narrow ((fs.lookup g).getD (none, none)) op n)
def foundL (tb : Str) (ps : List Tr) : List (Str × Span) := ps.foldl (fun fs p => stepC fs (con tb p)) []
def specS (tb f : Str) (o : Option Span) (p : Tr) : Option Span := match con tb p with
  | none => o
  | some (g, op, n) => if f = g then some (narrow (o.getD (none, none)) op n) else o
def specF (tb : Str) (ps : List Tr) (f : Str) : Option Span := ps.foldl (specS tb f) none
theorem look_map (k : Str) (x : Span) (f : Str) : ∀ fs : List (Str × Span), (fs.map fun p => if p.1 = k then (p.1, x) else p).lookup f = if f = k ∧ k ∈ fs.map (·.1) then some x else fs.lookup f
  | [] => by simp
  | (g, y) :: r => by
    have ih := look_map k x f r
    by_cases e : g = k
    · subst e
      by_cases e2 : f = g
      · subst e2
        simp
      · have n : (f == g) = false := by simpa using e2
        simp [List.lookup, n, ih, e2]
    · by_cases e2 : f = g
      · subst e2
        simp [List.lookup, e]
      · have n : (f == g) = false := by simpa using e2
        have e' : ¬ k = g := fun z => e z.symm
        have mm : k ∈ List.map (fun p : Str × Span => p.1) r ↔ k ∈ List.map (fun p : Str × Span => p.1) ((g, y) :: r) := by simp [e']
        have lhs : (List.map (fun p => if p.1 = k then (p.1, x) else p) ((g, y) :: r)).lookup f = (List.map (fun p => if p.1 = k then (p.1, x) else p) r).lookup f := by simp [List.lookup, n, e]
        have rhs : List.lookup f ((g, y) :: r) = List.lookup f r := by simp [List.lookup, n]
        rw [lhs, rhs, ih]
        by_cases c : f = k ∧ k ∈ List.map (fun p : Str × Span => p.1) r
        · rw [if_pos c, if_pos ⟨c.1, mm.mp c.2⟩]
        · rw [if_neg c, if_neg fun z => c ⟨z.1, mm.mpr z.2⟩]
theorem look_app (k : Str) (x : Span) (f : Str) : ∀ fs : List (Str × Span), k ∉ fs.map (·.1) → (fs ++ [(k, x)]).lookup f = if f = k then some x else fs.lookup f
  | [], _ => by
    by_cases e : f = k
    · subst e; simp
    · have n : (f == k) = false := by simpa using e
      simp [List.lookup, n, e]
  | (g, y) :: r, h => by
    rw [List.map_cons, List.mem_cons, not_or] at h
    have ih := look_app k x f r h.2
    by_cases e2 : f = g
    · subst e2
      have e : ¬ f = k := fun z => h.1 z.symm
      simp [List.lookup, e]
    · have n : (f == g) = false := by simpa using e2
      simp [List.lookup, n, ih]
theorem look_put (fs : List (Str × Span)) (k : Str) (x : Span) (f : Str) : (putL fs k x).lookup f = if f = k then some x else fs.lookup f := by
  unfold putL
  by_cases h : k ∈ fs.map (·.1)
  · rw [if_pos h, look_map]
    by_cases e : f = k <;> simp [e, h]
  · rw [if_neg h, look_app k x f fs h]
theorem look_found (tb : Str) (ps : List Tr) (f : Str) : (foundL tb ps).lookup f = specF tb ps f := by
  unfold foundL specF
  have key : ∀ (ps : List Tr) (fs : List (Str × Span)) (o : Option Span), fs.lookup f = o → (ps.foldl (fun fs p => stepC fs (con tb p)) fs).lookup f = ps.foldl (specS tb f) o := by
    intro ps
    induction ps with
    | nil => intro fs o h; exact h
    | cons p r ih =>
      intro fs o h
      rw [List.foldl_cons, List.foldl_cons]
      refine ih _ _ ?_
      unfold specS
      cases e : con tb p with
      | none => exact h
      | some q =>
        obtain ⟨g, op, n⟩ := q
        show (putL fs g (narrow ((fs.lookup g).getD (none, none)) op n)).lookup f = _
        rw [look_put]
        by_cases e2 : f = g
        · subst e2
          simp [h]
        · simp [e2, h]
  exact key ps [] none rfl
theorem keys_put (fs : List (Str × Span)) (k : Str) (x : Span) : (putL fs k x).map (·.1) = if k ∈ fs.map (·.1) then fs.map (·.1) else fs.map (·.1) ++ [k] := by
  unfold putL
  split
  · rw [List.map_map]
    refine List.map_congr_left fun p _ => ?_
    show (if p.1 = k then (p.1, x) else p).1 = p.1
    split <;> rfl
  · rw [List.map_append]
    rfl
theorem nodup_put {fs : List (Str × Span)} {k : Str} {x : Span} (h : (fs.map (·.1)).Nodup) : ((putL fs k x).map (·.1)).Nodup := by
  rw [keys_put]
  split
  · exact h
  · rename_i n
    rw [List.nodup_append]
    refine ⟨h, by simp, fun a ha b hb => ?_⟩
    obtain rfl := List.mem_singleton.mp hb
    exact fun e => n (e ▸ ha)
theorem mem_put {fs : List (Str × Span)} {k : Str} {x : Span} {p : Str × Span} (h : p ∈ putL fs k x) : p ∈ fs ∨ p = (k, x) := by
  unfold putL at h
  split at h
  · obtain ⟨q, m, e⟩ := List.mem_map.mp h
    split at e
    · rename_i e2
      exact .inr (by rw [← e, e2])
    · exact .inl (e ▸ m)
  · rcases List.mem_append.mp h with h | h
    · exact .inl h
    · exact .inr (List.mem_singleton.mp h)
/-! ### sizes -/
def okO : Option Int → Prop
  | none => True
  | some v => -2000 ≤ v ∧ v ≤ 2000
def okS (s : Span) : Prop := okO s.1 ∧ okO s.2
theorem ok_max {a b : Option Int} (ha : okO a) (hb : okO b) : okO (maxO a b) := by
  cases b with
  | none => exact ha
  | some b =>
    cases a with
    | none => exact hb
    | some a =>
      show okO (some (if b > a then b else a))
      split
      · exact hb
      · exact ha
theorem ok_min {a b : Option Int} (ha : okO a) (hb : okO b) : okO (minO a b) := by
  cases b with
  | none => exact ha
  | some b =>
    cases a with
    | none => exact hb
    | some a =>
      show okO (some (if b < a then b else a))
      split
      · exact hb
      · exact ha
theorem ok_low {op : Str} {n : Int} (h1 : -1000 ≤ n) (h2 : n ≤ 1000) : okO (lowOf op n) := by
  unfold lowOf
  split
  · show -2000 ≤ _ ∧ _ ≤ 2000
    split <;> omega
  · trivial
theorem ok_high {op : Str} {n : Int} (h1 : -1000 ≤ n) (h2 : n ≤ 1000) : okO (highOf op n) := by
  unfold highOf
  split
  · show -2000 ≤ _ ∧ _ ≤ 2000
    split <;> omega
  · trivial
theorem ok_narrow {s : Span} {op : Str} {n : Int} (h : okS s) (h1 : -1000 ≤ n) (h2 : n ≤ 1000) : okS (narrow s op n) := ⟨ok_max h.1 (ok_low h1 h2), ok_min h.2 (ok_high h1 h2)⟩
/-! ### terms, whatever the fields -/
inductive Tm : Tr → Prop where
  | num {n : Int} : -1000 ≤ n → n ≤ 1000 → Tm (.num n)
  | field {t f : Str} : PyData.strOk t = true → PyData.strOk f = true → Tm (.field t f)
  | bin {op : Str} {l r : Tr} : op ∈ [Str.ofString "+", Str.ofString "-", Str.ofString "*"] → Tm l → Tm r → Tm (.bin op l r)
theorem Tm.of {fl : List (Str × Str)} (ok : FlOk fl) {t : Tr} (h : IsTm fl t) : Tm t := by
  induction h with
  | num h1 h2 => exact .num h1 h2
  | field h => exact .field (ok _ h).1 (ok _ h).2
  | bin h _ _ l r => exact .bin h l r
def encD : Tr → PyData
  | .num n => .tuple [.str sNum, .int n]
  | .field t f => .tuple [.str sField, .str t, .str f]
  | .bin op l r => .tuple [.str op, encD l, encD r]
  | .not x => .tuple [.str (Str.ofString "not"), encD x]
theorem dpTr {K : PySem.W.Frag} {H : Hp} : ∀ {v : V} {t : Tr}, TrAt K H v t → Dp K H v (encD t)
  | _, .num _, ⟨_, e, h⟩ => e ▸ .tup h (.cons (.str _) (.cons (.int _) .nil))
  | _, .field _ _, ⟨_, e, h⟩ => e ▸ .tup h (.cons (.str _) (.cons (.str _) (.cons (.str _) .nil)))
  | _, .bin _ _ _, ⟨_, _, _, e, h, h1, h2⟩ => e ▸ .tup h (.cons (.str _) (.cons (dpTr h1) (.cons (dpTr h2) .nil)))
  | _, .not _, ⟨_, _, e, h, h1⟩ => e ▸ .tup h (.cons (.str _) (.cons (dpTr h1) .nil))
theorem layTm {t : Tr} (h : Tm t) : PyData.canLay0 (encD t) = true ∧ PyData.depth (encD t) ≤ t.depth + 1 := by
  induction h with
  | num h1 h2 =>
    have s0 : PyData.strOk sNum = true := by decide +kernel
    exact ⟨by simp [encD, PyData.canLay0, PyData.canLayAll0, s0], by simp [encD, PyData.depth, PyData.depthAll]⟩
  | field h1 h2 =>
    refine ⟨?_, by simp [encD, PyData.depth, PyData.depthAll]⟩
    have s0 : PyData.strOk sField = true := by decide +kernel
    simp [encD, PyData.canLay0, PyData.canLayAll0, h1, h2, s0]
  | @bin op l r h _ _ hl hr =>
    have so : PyData.strOk op = true := by
      simp only [List.mem_cons, List.mem_nil_iff, or_false] at h
      rcases h with rfl | rfl | rfl <;> decide +kernel
    refine ⟨by simp [encD, PyData.canLay0, PyData.canLayAll0, so, hl.1, hr.1], ?_⟩
    have e1 := hl.2
    have e2 := hr.2
    simp only [encD, PyData.depth, PyData.depthAll, Tr.depth]
    omega
theorem shaped_of {d : PyData} (h1 : PyData.canLay0 d = true) (h2 : PyData.depth d ≤ 64) : SeqAt.shaped d = true := by
  show (PyData.canLay0 d && decide (PyData.depth d ≤ 64)) = true
  rw [Bool.and_eq_true]
  exact ⟨h1, decide_eq_true h2⟩
theorem shaped_pair {a : Str} {d : PyData} (h0 : PyData.strOk a = true) (h1 : PyData.canLay0 d = true) (h2 : PyData.depth d ≤ 60) : SeqAt.shaped (.tuple [.str a, d]) = true := by
  refine shaped_of (by simp [PyData.canLay0, PyData.canLayAll0, h0, h1]) ?_
  simp only [PyData.depth, PyData.depthAll]
  omega
theorem eqv_pair (a b : Str) (d e : PyData) : PyData.eqv (.tuple [.str a, d]) (.tuple [.str b, e]) = ((a == b) && PyData.eqv d e) := by
  simp [PyData.eqv, PyData.eqvAll]
theorem eqv_str (a b : Str) : PyData.eqv (.str a) (.str b) = (a == b) := by simp [PyData.eqv]
/-! ### the dict that is found -/
def BIG : Int := (10 : Int) ^ (9 : Int).toNat
theorem big_is : BIG = 1000000000 := by decide +kernel
def encS (s : Span) : Int × Int := (s.1.getD (-BIG), s.2.getD BIG)
def FnR (K : PySem.W.Frag) (H : Hp) (v : V) (s : Span) : Prop := ∃ t, v = .ref t ∧ SqT K H t [.int (encS s).1, .int (encS s).2]
theorem pr_putL {K : PySem.W.Frag} {H : Hp} {v : V} {x : Span} {k : Str} {kvs : List (Key × V)} {fs : List (Str × Span)} (h : Paired (PR (FnR K) H) kvs fs) (r : FnR K H v x) : Paired (PR (FnR K) H) (putK kvs (.inr k) v) (putL fs k x) := by
  by_cases m : k ∈ fs.map (·.1)
  · have any : (kvs.any fun kv => decide (kv.1 = (Sum.inr k : Key))) = true := by
      rw [List.any_eq_true]
      have e := pr_keys h
      have m2 : (Sum.inr k : Key) ∈ kvs.map (·.1) := by rw [e]; exact List.mem_map_of_mem m
      obtain ⟨kv, m3, e3⟩ := List.mem_map.mp m2
      exact ⟨kv, m3, decide_eq_true e3⟩
    unfold putK putL
    rw [if_pos any, if_pos m]
    clear any m
    induction h with
    | nil => exact .nil
    | @cons kv p l1 l2 h1 h2 ih =>
      rw [List.map_cons, List.map_cons]
      refine .cons ?_ ih
      obtain ⟨e, q⟩ := h1
      have e : kv.1 = .inr p.1 := e
      by_cases z : p.1 = k
      · rw [if_pos (by rw [e, z]), if_pos z]
        exact ⟨e, r⟩
      · rw [if_neg (fun y => z (Sum.inr.inj (e.symm.trans y))), if_neg z]
        exact ⟨e, q⟩
  · rw [pr_put h m]
    unfold putL
    rw [if_neg m]
    exact pr_snoc h r
end K04

namespace K04
open PySem L2

theorem at0 {x : V} {xs : List V} : atI (x :: xs) 0 = some x := atI_nat (j := 0) rfl
def tBig : TE := tOp (rI CPow fun i j => V.int (i ^ j.toNat)) (tC (.int 10)) (tC (.int 9))
def tNBig : TE := tUn (rU fun i => V.int (-i)) tBig
def rMx : List V → Hp → VK → Prop := fun xs H Q => ∃ i j, xs = [V.int i, V.int j] ∧ Q (V.int (if j > i then j else i)) H
def rMn : List V → Hp → VK → Prop := fun xs H Q => ∃ i j, xs = [V.int i, V.int j] ∧ Q (V.int (if j < i then j else i)) H
def rIn1 : List V → Hp → VK → Prop := fun xs H Q => (∃ i, xs = [V.int i] ∧ Q (V.int i) H) ∨ ∃ k, xs = [V.bl k] ∧ Q (V.int (if k = true then 1 else 0)) H
def tSigns (a b c : Str) : TE := tTup (tCons (tC (.str a)) (tCons (tC (.str b)) (tCons (tC (.str c)) tNil)))
def tLo (K : PySem.W.Frag) : TS := tIfS (tTest (tOp (rIn K false) (tVar 4) (tSigns gEq gGt gGe)))
  (tAsg (tCB rMx (tCons (tVar 7) (tCons (tOp (rI0 fun i j => V.int (i + j)) (tOp (rIxT K) (tVar 6) (tC (.int 1))) (tCB rIn1 (tCons (tOp rEq (tVar 4) (tC (.str gGt))) tNil))) tNil))) (gName 7)) tNext
def tHi (K : PySem.W.Frag) : TS := tIfS (tTest (tOp (rIn K false) (tVar 4) (tSigns gEq gLt gLe)))
  (tAsg (tCB rMn (tCons (tVar 8) (tCons (tOp (rI0 fun i j => V.int (i - j)) (tOp (rIxT K) (tVar 6) (tC (.int 1))) (tCB rIn1 (tCons (tOp rEq (tVar 4) (tC (.str gLt))) tNil))) tNil))) (gName 8)) tNext
def tUpd (K : PySem.W.Frag) : TS :=
  tIfS (tAnd (tTest (tOp (rEqD K) (tSl (rSlA K) (tVar 5) tNoPart (tPart (tC (.int 2)))) (tTup (tCons (tC (.str sField)) (tCons (tVar 1) tNil)))))
      (tTest (tOp rEq (tOp (rIxT K) (tVar 6) (tC (.int 0))) (tC (.str sNum)))))
    (tSeq (tAsg (tDGet2 (tVar 2) (tOp (rIxT K) (tVar 5) (tC (.int 2))) (tTup (tCons tNBig (tCons tBig tNil)))) (gTup K 2 (gCons (gName 7) (gCons (gName 8) gNil))))
      (tSeq (tLo K) (tSeq (tHi K) (sDPut (tVar 2) (tOp (rIxT K) (tVar 5) (tC (.int 2))) (tTup (tCons (tVar 7) (tCons (tVar 8) tNil))))))) tNext
def upTo (a : Int) : Option Int → Int
  | none => a
  | some b => if b > a then b else a
def downTo (a : Int) : Option Int → Int
  | none => a
  | some b => if b < a then b else a
theorem low_cases {w : Str} (hw : w ∈ signs) (n : Int) : (inV (V.str w) [V.str gEq, V.str gGt, V.str gGe] = true ∧ ∃ g : Bool, decide (V.str w = V.str gGt) = g ∧ lowOf w n = some (n + if g = true then 1 else 0)) ∨ (inV (V.str w) [V.str gEq, V.str gGt, V.str gGe] = false ∧ lowOf w n = none) := by
  have n1 : ¬ gEq = gGt := by decide +kernel
  have n2 : ¬ gGe = gGt := by decide +kernel
  simp only [signs, List.mem_cons, List.mem_nil_iff, or_false] at hw
  rcases hw with rfl | rfl | rfl | rfl | rfl
  · exact .inl ⟨by decide +kernel, false, by decide +kernel, by unfold lowOf; rw [if_pos (.inl rfl), if_neg n1]; rfl⟩
  · exact .inr ⟨by decide +kernel, by unfold lowOf; rw [if_neg (by decide +kernel)]⟩
  · exact .inl ⟨by decide +kernel, true, by decide +kernel, by unfold lowOf; rw [if_pos (.inr (.inl rfl)), if_pos rfl]; rfl⟩
  · exact .inr ⟨by decide +kernel, by unfold lowOf; rw [if_neg (by decide +kernel)]⟩
  · exact .inl ⟨by decide +kernel, false, by decide +kernel, by unfold lowOf; rw [if_pos (.inr (.inr rfl)), if_neg n2]; rfl⟩
theorem high_cases {w : Str} (hw : w ∈ signs) (n : Int) : (inV (V.str w) [V.str gEq, V.str gLt, V.str gLe] = true ∧ ∃ g : Bool, decide (V.str w = V.str gLt) = g ∧ highOf w n = some (n - if g = true then 1 else 0)) ∨ (inV (V.str w) [V.str gEq, V.str gLt, V.str gLe] = false ∧ highOf w n = none) := by
  have n1 : ¬ gEq = gLt := by decide +kernel
  have n2 : ¬ gLe = gLt := by decide +kernel
  simp only [signs, List.mem_cons, List.mem_nil_iff, or_false] at hw
  rcases hw with rfl | rfl | rfl | rfl | rfl
  · exact .inl ⟨by decide +kernel, false, by decide +kernel, by unfold highOf; rw [if_pos (.inl rfl), if_neg n1]; rfl⟩
  · exact .inl ⟨by decide +kernel, true, by decide +kernel, by unfold highOf; rw [if_pos (.inr (.inl rfl)), if_pos rfl]; rfl⟩
  · exact .inr ⟨by decide +kernel, by unfold highOf; rw [if_neg (by decide +kernel)]⟩
  · exact .inl ⟨by decide +kernel, false, by decide +kernel, by unfold highOf; rw [if_pos (.inr (.inr rfl)), if_neg n2]; rfl⟩
  · exact .inr ⟨by decide +kernel, by unfold highOf; rw [if_neg (by decide +kernel)]⟩
theorem enc_low (s : Span) (w : Str) (n : Int) (hn : -1000 ≤ n) (hn2 : n ≤ 1000) : (encS (narrow s w n)).1 = upTo (encS s).1 (lowOf w n) := by
  have ok := ok_low (op := w) hn hn2
  show (maxO s.1 (lowOf w n)).getD (-BIG) = upTo (s.1.getD (-BIG)) (lowOf w n)
  rw [big_is]
  cases e : lowOf w n with
  | none => rfl
  | some b =>
    rw [e] at ok
    have ok : -2000 ≤ b ∧ b ≤ 2000 := ok
    cases s.1 with
    | none =>
      show b = if b > -1000000000 then b else -1000000000
      rw [if_pos (by omega)]
    | some a => rfl
theorem enc_high (s : Span) (w : Str) (n : Int) (hn : -1000 ≤ n) (hn2 : n ≤ 1000) : (encS (narrow s w n)).2 = downTo (encS s).2 (highOf w n) := by
  have ok := ok_high (op := w) hn hn2
  show (minO s.2 (highOf w n)).getD BIG = downTo (s.2.getD BIG) (highOf w n)
  rw [big_is]
  cases e : highOf w n with
  | none => rfl
  | some b =>
    rw [e] at ok
    have ok : -2000 ≤ b ∧ b ≤ 2000 := ok
    cases s.2 with
    | none =>
      show b = if b < 1000000000 then b else 1000000000
      rw [if_pos (by omega)]
    | some a => rfl
mutual
theorem Dp_same {K : PySem.W.Frag} {H H' : Hp} (s : Same H H') : ∀ {v : V} {d : PyData}, Dp K H v d → Dp K H' v d
  | _, _, .non => .non
  | _, _, .bl b => .bl b
  | _, _, .int i => .int i
  | _, _, .str x => .str x
  | _, _, .lst h a => .lst (s.seq h) (DpAll_same s a)
  | _, _, .tup h a => .tup ((KeepN.of s).t h) (DpAll_same s a)
theorem DpAll_same {K : PySem.W.Frag} {H H' : Hp} (s : Same H H') : ∀ {vs : List V} {ds : List PyData}, DpAll K H vs ds → DpAll K H' vs ds
  | _, _, .nil => .nil
  | _, _, .cons h r => .cons (Dp_same s h) (DpAll_same s r)
end
section
variable {P : Program} {w : World} {K : PySem.W.Frag} {mg : Str → Option Value} {base : Heap}
theorem lo_run {D : Ends} {v0 v1 v2 v3 v5 v8 v9 v10 : Option V} {w : Str} {pR : Addr} {a n : Int} {H : Hp} (hw : w ∈ signs) (h6 : SqT K H pR [.str sNum, .int n])
    (h : ∀ H', Same H H' → D.nx [v0, v1, v2, v3, some (.str w), v5, some (.ref pR), some (.int (upTo a (lowOf w n))), v8, v9, v10] H') : tLo K D [v0, v1, v2, v3, some (.str w), v5, some (.ref pR), some (.int a), v8, v9, v10] H := by
  refine ⟨_, rfl, (by show 3 ≤ sizeLine; decide), fun q hq => ⟨q, _, rfl, .inr (SqT.of upd_same), rfl, rfl, _, rfl, ?_⟩⟩
  have s1 := Same.new (o := .tup [.str gEq, .str gGt, .str gGe]) hq
  have hh := h _ s1
  rcases low_cases hw n with ⟨e1, g, e2, e3⟩ | ⟨e1, e3⟩
  · rw [show (if false = true then !inV (V.str w) [V.str gEq, V.str gGt, V.str gGe] else inV (V.str w) [V.str gEq, V.str gGt, V.str gGe]) = true from e1]
    rw [e3] at hh
    refine iteT ⟨_, rfl, _, rfl, pR, _, 1, _, rfl, rfl, (KeepN.of s1).t h6, rfl, _, rfl, rfl, .inr ⟨_, rfl, _, _, rfl, rfl, _, _, rfl, ?_⟩⟩
    rw [e2]
    exact hh
  · rw [show (if false = true then !inV (V.str w) [V.str gEq, V.str gGt, V.str gGe] else inV (V.str w) [V.str gEq, V.str gGt, V.str gGe]) = false from e1]
    rw [e3] at hh
    exact iteF hh
theorem hi_run {D : Ends} {v0 v1 v2 v3 v5 v7 v9 v10 : Option V} {w : Str} {pR : Addr} {a n : Int} {H : Hp} (hw : w ∈ signs) (h6 : SqT K H pR [.str sNum, .int n])
    (h : ∀ H', Same H H' → D.nx [v0, v1, v2, v3, some (.str w), v5, some (.ref pR), v7, some (.int (downTo a (highOf w n))), v9, v10] H') : tHi K D [v0, v1, v2, v3, some (.str w), v5, some (.ref pR), v7, some (.int a), v9, v10] H := by
  refine ⟨_, rfl, (by show 3 ≤ sizeLine; decide), fun q hq => ⟨q, _, rfl, .inr (SqT.of upd_same), rfl, rfl, _, rfl, ?_⟩⟩
  have s1 := Same.new (o := .tup [.str gEq, .str gLt, .str gLe]) hq
  have hh := h _ s1
  rcases high_cases hw n with ⟨e1, g, e2, e3⟩ | ⟨e1, e3⟩
  · rw [show (if false = true then !inV (V.str w) [V.str gEq, V.str gLt, V.str gLe] else inV (V.str w) [V.str gEq, V.str gLt, V.str gLe]) = true from e1]
    rw [e3] at hh
    refine iteT ⟨_, rfl, _, rfl, pR, _, 1, _, rfl, rfl, (KeepN.of s1).t h6, rfl, _, rfl, rfl, .inr ⟨_, rfl, _, _, rfl, rfl, _, _, rfl, ?_⟩⟩
    rw [e2]
    exact hh
  · rw [show (if false = true then !inV (V.str w) [V.str gEq, V.str gLt, V.str gLe] else inV (V.str w) [V.str gEq, V.str gLt, V.str gLe]) = false from e1]
    rw [e3] at hh
    exact iteF hh
/-- the dict that is found, at d -/
def FoundAt (K : PySem.W.Frag) (H : Hp) (d : Addr) (fs : List (Str × Span)) : Prop := ∃ kvs, H d = some (.dK kvs) ∧ Paired (PR (FnR K) H) kvs fs
theorem FoundAt.keep {K : PySem.W.Frag} {H H' : Hp} {d : Addr} {fs : List (Str × Span)} (k : KeepN H H') (h : FoundAt K H d fs) : FoundAt K H' d fs := by
  obtain ⟨kvs, hd, p⟩ := h
  exact ⟨kvs, k d _ (fun _ e => nomatch e) hd, pr_mono (fun v x ⟨t, e, q⟩ => ⟨t, e, k.t q⟩) p⟩
theorem upd_run {D : Ends} {v0 v3 v7 v8 v9 v10 : Option V} {tb w : Str} {d : Addr} {vL vR : V} {L R : Tr} {H0 H : Hp} {fs : List (Str × Span)} (hw : w ∈ signs) (hL : TrAt K H vL L) (hR : TrAt K H vR R) (tL : Tm L) (tR : Tm R) (dL : L.depth ≤ 20) (htb : PyData.strOk tb = true)
    (sm : Same H0 H) (d0 : H0 d = none) (F : FoundAt K H d fs) (few : fs.length ≤ 70000)
    (h : ∀ (H' : Hp) (v4 v5 v6 v7 v8 : Option V), Same H0 H' → FoundAt K H' d (stepC fs (conW tb w L R)) → D.nx [v0, some (.str tb), some (.ref d), v3, v4, v5, v6, v7, v8, v9, v10] H') :
    tUpd K D [v0, some (.str tb), some (.ref d), v3, some (.str w), some vL, some vR, v7, v8, v9, v10] H := by
  -- what stands ahead in the left one
  obtain ⟨pL, tag, x, rest, rfl, hpL, htag, hdx⟩ : ∃ (p : Addr) (tag : Str) (x : V) (rest : List V), vL = .ref p ∧ SqT K H p (.str tag :: x :: rest) ∧ PyData.strOk tag = true ∧
      ((∃ t f, L = .field t f ∧ tag = sField ∧ x = .str t ∧ rest = [.str f]) ∨ (tag ≠ sField ∧ (∃ e, Dp K H x e ∧ PyData.canLay0 e = true ∧ PyData.depth e ≤ 50) ∧ conW tb w L R = none)) := by
    cases tL with
    | num h1 h2 =>
      obtain ⟨p, e, q⟩ := hL
      exact ⟨p, sNum, _, [], e, q, by decide +kernel, .inr ⟨by decide +kernel, ⟨_, .int _, rfl, by simp [PyData.depth]⟩, rfl⟩⟩
    | field h1 h2 =>
      obtain ⟨p, e, q⟩ := hL
      exact ⟨p, sField, _, _, e, q, by decide +kernel, .inl ⟨_, _, rfl, rfl, rfl, rfl⟩⟩
    | @bin op l r ho hl hr =>
      obtain ⟨p, x, y, e, q, q1, q2⟩ := hL
      have dl : max l.depth r.depth + 1 ≤ 20 := dL
      have ly := layTm hl
      have fact : PyData.strOk op = true ∧ op ≠ sField := by
        simp only [List.mem_cons, List.mem_nil_iff, or_false] at ho
        rcases ho with rfl | rfl | rfl <;> exact ⟨by decide +kernel, by decide +kernel⟩
      exact ⟨p, op, x, [y], e, q, fact.1, .inr ⟨fact.2, ⟨_, dpTr q1, ly.1, by omega⟩, rfl⟩⟩
  obtain ⟨pR, tagR, yR, restR, rfl, hpR, hnR⟩ : ∃ (p : Addr) (tag : Str) (y : V) (rest : List V), vR = .ref p ∧ SqT K H p (.str tag :: y :: rest) ∧ ((∃ n, R = .num n ∧ tag = sNum ∧ y = .int n ∧ rest = [] ∧ -1000 ≤ n ∧ n ≤ 1000) ∨ (tag ≠ sNum ∧ conW tb w L R = none)) := by
    cases tR with
    | num h1 h2 =>
      obtain ⟨p, e, q⟩ := hR
      exact ⟨p, sNum, _, [], e, q, .inl ⟨_, rfl, rfl, rfl, rfl, h1, h2⟩⟩
    | field h1 h2 =>
      obtain ⟨p, e, q⟩ := hR
      exact ⟨p, sField, _, _, e, q, .inr ⟨by decide +kernel, by cases L <;> rfl⟩⟩
    | @bin op l r ho hl hr =>
      obtain ⟨p, x, y, e, q, q1, q2⟩ := hR
      have fact : op ≠ sNum := by
        simp only [List.mem_cons, List.mem_nil_iff, or_false] at ho
        rcases ho with rfl | rfl | rfl <;> decide +kernel
      exact ⟨p, op, x, [y], e, q, .inr ⟨fact, by cases L <;> rfl⟩⟩
  have key : ∀ (pS : Addr) (H1 : Hp), Same H H1 → SqT K H1 pS [.str tag, x] → tTup (tCons (tC (.str sField)) (tCons (tVar 1) tNil)) [v0, some (.str tb), some (.ref d), v3, some (.str w), some (.ref pL), some (.ref pR), v7, v8, v9, v10] H1 fun y2 H2 =>
      rEqD K (.ref pS) y2 H2 fun z H3 => ∃ kk, z = .bl kk ∧ if kk = true then tTest (tOp rEq (tOp (rIxT K) (tVar 6) (tC (.int 0))) (tC (.str sNum))) [v0, some (.str tb), some (.ref d), v3, some (.str w), some (.ref pL), some (.ref pR), v7, v8, v9, v10] H3 (fun b H4 =>
          if b = true then (tSeq (tAsg (tDGet2 (tVar 2) (tOp (rIxT K) (tVar 5) (tC (.int 2))) (tTup (tCons tNBig (tCons tBig tNil)))) (gTup K 2 (gCons (gName 7) (gCons (gName 8) gNil))))
            (tSeq (tLo K) (tSeq (tHi K) (sDPut (tVar 2) (tOp (rIxT K) (tVar 5) (tC (.int 2))) (tTup (tCons (tVar 7) (tCons (tVar 8) tNil))))))) D [v0, some (.str tb), some (.ref d), v3, some (.str w), some (.ref pL), some (.ref pR), v7, v8, v9, v10] H4
          else tNext D [v0, some (.str tb), some (.ref d), v3, some (.str w), some (.ref pL), some (.ref pR), v7, v8, v9, v10] H4)
        else tNext D [v0, some (.str tb), some (.ref d), v3, some (.str w), some (.ref pL), some (.ref pR), v7, v8, v9, v10] H3 := fun pS H1 s1 hS => by
    refine ⟨_, rfl, (by show 2 ≤ sizeLine; decide), fun q hq => ?_⟩
    have s2 := Same.new (o := .tup [.str sField, .str tb]) hq
    have s12 := s1.trans s2
    have skip : ∀ H', Same H H' → conW tb w L R = none → tNext D [v0, some (.str tb), some (.ref d), v3, some (.str w), some (.ref pL), some (.ref pR), v7, v8, v9, v10] H' := fun H' s e => by
      have q := h H' (some (.str w)) (some (.ref pL)) (some (.ref pR)) v7 v8 (sm.trans s)
      rw [e] at q
      exact q (F.keep (KeepN.of s))
    rcases hdx with ⟨t, f, rfl, rfl, rfl, rfl⟩ | ⟨ntag, ⟨e, he, le, de⟩, none1⟩
    · cases tL with
      | field ht hf =>
      refine ⟨_, _, .tup ((KeepN.of s2).t hS) (.cons (.str _) (.cons (.str t) .nil)), .tup (SqT.of upd_same) (.cons (.str _) (.cons (.str tb) .nil)), shaped_pair htag (by simp [PyData.canLay0, ht]) (by simp [PyData.depth]), shaped_pair htag (by simp [PyData.canLay0, htb]) (by simp [PyData.depth]), _, rfl, ?_⟩
      rw [eqv_pair, eqv_str, beq_self_eq_true, Bool.true_and]
      by_cases ett : t = tb
      · subst ett
        rw [beq_self_eq_true]
        refine iteT ⟨_, rfl, pR, _, 0, _, rfl, rfl, (KeepN.of s12).t hpR, at0, rfl, _, rfl, ?_⟩
        rcases hnR with ⟨n, rfl, rfl, rfl, rfl, n1, n2⟩ | ⟨nt, none2⟩
        · rw [show decide (V.str sNum = V.str sNum) = true from decide_eq_true rfl]
          refine iteT ?_
          have F2 := F.keep (KeepN.of s12)
          obtain ⟨kvs, hd, pr⟩ := F2
          have hL2 := (KeepN.of s12).t hpL
          have hR2 := (KeepN.of s12).t hpR
          -- found.get(field, (-10 ** 9, 10 ** 9))
          refine ⟨_, rfl, d, rfl, .inl ⟨kvs, .inl hd⟩, _, rfl, pL, _, 2, _, rfl, rfl, hL2, rfl, _, _, rfl, rfl, ⟨by decide, by decide, by decide⟩, _, rfl, _, _, rfl, rfl, ⟨by decide, by decide, by decide⟩, (by show 2 ≤ sizeLine; decide), fun p3 hp3 => ?_⟩
          have s3 := Same.new (o := .tup [.int (-((10 : Int) ^ (9 : Int).toNat)), .int ((10 : Int) ^ (9 : Int).toNat)]) hp3
          have F3 : FoundAt K _ d fs := (FoundAt.keep (KeepN.of s3) ⟨kvs, hd, pr⟩)
          obtain ⟨kvs3, hd3, pr3⟩ := F3
          refine ⟨valV kvs3 (.inr f), DGet.k (k := .inr f) hd3, ?_⟩
          obtain ⟨pg, sp, hsp, hget, hpg⟩ : ∃ (pg : Addr) (sp : Span), (fs.lookup f).getD (none, none) = sp ∧ (valV kvs3 (.inr f)).getD (.ref p3) = .ref pg ∧ SqT K (upd _ p3 (.tup [.int (-((10 : Int) ^ (9 : Int).toNat)), .int ((10 : Int) ^ (9 : Int).toNat)])) pg [.int (encS sp).1, .int (encS sp).2] := by
            rcases pr_look f pr3 with ⟨e1, e2⟩ | ⟨sp, v, e1, e2, t', rfl, ht'⟩
            · exact ⟨p3, (none, none), by rw [e1]; rfl, by rw [e2]; rfl, SqT.of upd_same⟩
            · exact ⟨t', sp, by rw [e1]; rfl, by rw [e2]; rfl, ht'⟩
          refine ⟨pg, _, hget, hpg, rfl, _, _, rfl, _, _, rfl, rfl, ?_⟩
          refine lo_run (K := K) hw ((KeepN.of s3).t hR2) fun H4 s4 => hi_run (K := K) hw ((KeepN.of s4).t ((KeepN.of s3).t hR2)) fun H5 s5 => ?_
          have s35 := s3.trans (s4.trans s5)
          refine ⟨_, rfl, _, rfl, (by show 2 ≤ sizeLine; decide), fun p6 hp6 => ?_⟩
          have s6 := Same.new (o := .tup [.int (upTo (encS sp).1 (lowOf w n)), .int (downTo (encS sp).2 (highOf w n))]) hp6
          have s36 := s35.trans s6
          obtain ⟨kvs6, hd6, pr6⟩ := (FoundAt.keep (KeepN.of s36) ⟨kvs, hd, pr⟩)
          have l6 : kvs6.length < sizeLine := by rw [pr_len pr6]; exact Nat.lt_of_le_of_lt few (by decide)
          refine ⟨_, rfl, _, rfl, pL, _, 2, _, rfl, rfl, (KeepN.of s36).t hL2, rfl, d, _, rfl, DPut.k (k := .inr f) hd6 l6, ?_⟩
          refine h _ _ _ _ _ _ ?_ ?_
          · intro b o e
            rw [upd_ne (ne_of_none e d0)]
            exact s36 _ _ (s12 _ _ (sm _ _ e))
          · have ec : conW t w (.field t f) (.num n) = some (f, w, n) := by
              show (if t = t then some (f, w, n) else none) = _
              rw [if_pos rfl]
            rw [ec]
            show FoundAt K _ d (putL fs f (narrow ((fs.lookup f).getD (none, none)) w n))
            rw [hsp]
            refine ⟨_, upd_same, pr_putL (pr_mono (fun v x ⟨t, e, q⟩ => ⟨t, e, t_upd hd6 q⟩) pr6) ⟨p6, rfl, ?_⟩⟩
            rw [enc_low sp w n n1 n2, enc_high sp w n n1 n2]
            exact t_upd hd6 (SqT.of upd_same)
        · rw [show decide (V.str tagR = V.str sNum) = false from decide_eq_false fun e => nt (V.str.inj e)]
          exact iteF (skip _ s12 none2)
      · rw [show (t == tb) = false by simpa using ett]
        exact iteF (skip _ s12 (by
          cases R with
          | num n =>
            show (if t = tb then some (f, w, n) else none) = none
            rw [if_neg ett]
          | _ => rfl))
    · refine ⟨_, _, .tup ((KeepN.of s2).t hS) (.cons (.str _) (.cons (Dp_same s12 he) .nil)), .tup (SqT.of upd_same) (.cons (.str _) (.cons (.str tb) .nil)), shaped_pair htag le (by omega), shaped_pair (by decide +kernel) (by simp [PyData.canLay0, htb]) (by simp [PyData.depth]), _, rfl, ?_⟩
      rw [eqv_pair, show (tag == sField) = false by simpa using ntag, Bool.false_and]
      exact iteF (skip _ s12 none1)
  refine ⟨_, rfl, 2, rfl, pL, _, rfl, hpL, fun hwhole => ?_, fun hwhole q hq => ?_⟩
  · have e : rest = [] := by
      have := hwhole.2
      cases rest with
      | nil => rfl
      | cons a b =>
        exfalso
        have e2 : HT.sIx (V.str tag :: x :: a :: b).length (V.str tag :: x :: a :: b).length (some 2) = 2 := by
          show HT.sIx _ _ (some ((2 : Nat) : Int)) = 2
          rw [HT.sIx_nat]
          show min 2 (b.length + 1 + 1 + 1) = 2
          omega
        rw [e2] at this
        have : 2 = b.length + 1 + 1 + 1 := this
        omega
    subst e
    exact key pL H (Same.refl H) hpL
  · have e : cutV (V.str tag :: x :: rest) none (some 2) = [V.str tag, x] := by
      have e2 : HT.sIx (V.str tag :: x :: rest).length (V.str tag :: x :: rest).length (some 2) = 2 := by
        show HT.sIx _ _ (some ((2 : Nat) : Int)) = 2
        rw [HT.sIx_nat]
        show min 2 (rest.length + 1 + 1) = 2
        omega
      unfold cutV
      rw [e2]
      rfl
    rw [e] at *
    exact key q _ (Same.new hq) (SqT.of upd_same)
end
end K04

namespace K04
open PySem L2

def oV : Option Int → V
  | none => .non
  | some i => .int i
def gap : Span → Bool
  | (some a, some b) => decide (b < a)
  | _ => false
def Bad (tb : Str) (ps : List Tr) : Bool := ps.any falseNum || (foundL tb ps).any fun p => gap p.2
def BdR (K : PySem.W.Frag) (H : Hp) (v : V) (s : Span) : Prop := ∃ t, v = .ref t ∧ SqT K H t [oV s.1, oV s.2]
def BndAt (K : PySem.W.Frag) (H : Hp) (d : Addr) (bs : List (Str × Span)) : Prop := ∃ kvs, H d = some (.dK kvs) ∧ Paired (PR (BdR K) H) kvs bs
/-- all parts are comparisons of terms -/
def CdT (ps : List Tr) : Prop := ∀ p ∈ ps, ∃ op l r, p = .bin op l r ∧ op ∈ signs ∧ Tm l ∧ Tm r ∧ l.depth ≤ 20 ∧ r.depth ≤ 20
theorem CdT.of {fl : List (Str × Str)} (ok : FlOk fl) {t : Tr} (h : IsCd fl t) : t.depth ≤ 20 → CdT (parts t) := by
  induction h with
  | @cmp op l r ho hl hr =>
    intro hd p m
    have hd : max l.depth r.depth + 1 ≤ 20 := hd
    have no : op ≠ sAnd ∧ op ≠ sOr := by
      simp only [signs, List.mem_cons, List.mem_nil_iff, or_false] at ho
      rcases ho with rfl | rfl | rfl | rfl | rfl <;> exact ⟨by decide +kernel, by decide +kernel⟩
    have e : parts (.bin op l r) = [.bin op l r] := by
      show (if op = sAnd then parts l ++ parts r else if op = sOr then [] else [.bin op l r]) = _
      rw [if_neg no.1, if_neg no.2]
    rw [e] at m
    obtain rfl := List.mem_singleton.mp m
    exact ⟨op, l, r, rfl, ho, Tm.of ok hl, Tm.of ok hr, by omega, by omega⟩
  | @join op l r ho _ _ ihl ihr =>
    intro hd p m
    have hd : max l.depth r.depth + 1 ≤ 20 := hd
    have m : p ∈ (if op = sAnd then parts l ++ parts r else if op = sOr then [] else [.bin op l r]) := m
    simp only [List.mem_cons, List.mem_nil_iff, or_false] at ho
    rcases ho with rfl | rfl
    · rw [if_pos rfl] at m
      rcases List.mem_append.mp m with m | m
      · exact ihl (by omega) p m
      · exact ihr (by omega) p m
    · rw [if_neg (by decide +kernel), if_pos rfl] at m
      cases m
  | not _ _ => exact fun _ p m => by cases m
def spBnd (K : PySem.W.Frag) : Sp := fun vs H Q _ => ∃ (v : V) (c : Option Tr) (tb : Str), vs = [v, .str tb] ∧ CondAt K H v c ∧ CdO c ∧ CdT (partsO c) ∧ depO c < 16 ∧ PyData.strOk tb = true ∧
  (Bad tb (partsO c) = true → ∀ H', Same H H' → Q .non H') ∧
  (Bad tb (partsO c) = false → ∀ (d : Addr) (H' : Hp) (bs : List (Str × Span)), Same H H' → H d = none → BndAt K H' d bs → (bs.map (·.1)).Nodup → (∀ f, bs.lookup f = specF tb (partsO c) f) → Q (.ref d) H')
theorem conW_some {tb w : Str} {L R : Tr} {g op : Str} {n : Int} (h : conW tb w L R = some (g, op, n)) : ∃ t, L = .field t g ∧ R = .num n ∧ op = w := by
  cases L with
  | field t f =>
    cases R with
    | num m =>
      have h : (if t = tb then some (f, w, m) else none) = some (g, op, n) := h
      by_cases e : t = tb
      · rw [if_pos e] at h
        cases h
        exact ⟨_, rfl, rfl, rfl⟩
      · rw [if_neg e] at h
        cases h
    | _ => cases h
  | _ => cases R <;> cases h
theorem okS_found {tb : Str} : ∀ (ps : List Tr), CdT ps → (∀ q ∈ foundL tb ps, okS q.2 ∧ PyData.strOk q.1 = true) ∧ ((foundL tb ps).map (·.1)).Nodup ∧ (foundL tb ps).length ≤ ps.length := by
  have key : ∀ (ps : List Tr) (fs : List (Str × Span)), CdT ps → (∀ q ∈ fs, okS q.2 ∧ PyData.strOk q.1 = true) → (fs.map (·.1)).Nodup →
      (∀ q ∈ ps.foldl (fun fs p => stepC fs (con tb p)) fs, okS q.2 ∧ PyData.strOk q.1 = true) ∧ ((ps.foldl (fun fs p => stepC fs (con tb p)) fs).map (·.1)).Nodup ∧ (ps.foldl (fun fs p => stepC fs (con tb p)) fs).length ≤ fs.length + ps.length := by
    intro ps
    induction ps with
    | nil => intro fs _ h1 h2; exact ⟨h1, h2, Nat.le_refl _⟩
    | cons p r ih =>
      intro fs hc h1 h2
      rw [List.foldl_cons]
      have step : (∀ q ∈ stepC fs (con tb p), okS q.2 ∧ PyData.strOk q.1 = true) ∧ ((stepC fs (con tb p)).map (·.1)).Nodup ∧ (stepC fs (con tb p)).length ≤ fs.length + 1 := by
        cases e : con tb p with
        | none => exact ⟨h1, h2, Nat.le_succ _⟩
        | some q =>
          obtain ⟨g, op, n⟩ := q
          have hn : -1000 ≤ n ∧ n ≤ 1000 ∧ PyData.strOk g = true := by
            obtain ⟨op', l, r', rfl, _, tl, tr, _, _⟩ := hc p List.mem_cons_self
            have numOf : ∀ {z : Tr}, Tm z → ∀ k, z = .num k → -1000 ≤ k ∧ k ≤ 1000 := fun {z} hz k ez => by
              cases hz with
              | num a1 a2 => cases ez; exact ⟨a1, a2⟩
              | _ => cases ez
            have fieldOf : ∀ {z : Tr}, Tm z → ∀ t f, z = .field t f → PyData.strOk f = true := fun {z} hz t f ez => by
              cases hz with
              | field k1 k2 => cases ez; exact k2
              | _ => cases ez
            cases l with
            | num a =>
              obtain ⟨t, e1, e2, _⟩ := conW_some (show conW tb (flip op') r' (.num a) = some (g, op, n) from e)
              cases e2
              exact ⟨(numOf tl _ rfl).1, (numOf tl _ rfl).2, fieldOf tr _ _ e1⟩
            | field t f =>
              obtain ⟨t', e1, e2, _⟩ := conW_some (show conW tb op' (.field t f) r' = some (g, op, n) from e)
              exact ⟨(numOf tr _ e2).1, (numOf tr _ e2).2, fieldOf tl _ _ e1⟩
            | bin o2 x y =>
              obtain ⟨t', e1, e2, _⟩ := conW_some (show conW tb op' (.bin o2 x y) r' = some (g, op, n) from e)
              cases e1
            | not x =>
              obtain ⟨t', e1, e2, _⟩ := conW_some (show conW tb op' (.not x) r' = some (g, op, n) from e)
              cases e1
          have old : okS ((fs.lookup g).getD (none, none)) := by
            cases el : fs.lookup g with
            | none => exact ⟨trivial, trivial⟩
            | some s =>
              have m : (g, s) ∈ fs := by
                clear h1 h2 ih
                induction fs with
                | nil => cases el
                | cons q r ih2 =>
                  obtain ⟨k, x⟩ := q
                  by_cases z : g = k
                  · subst z
                    simp [List.lookup] at el
                    subst el
                    exact List.mem_cons_self
                  · have zn : (g == k) = false := by simpa using z
                    simp only [List.lookup, zn] at el
                    exact List.mem_cons_of_mem _ (ih2 el)
              exact (h1 _ m).1
          refine ⟨fun q m => ?_, nodup_put h2, ?_⟩
          · rcases mem_put m with m | m
            · exact h1 q m
            · rw [m]
              exact ⟨ok_narrow old hn.1 hn.2.1, hn.2.2⟩
          · show (putL fs g _).length ≤ _
            unfold putL
            split
            · rw [List.length_map]; omega
            · rw [List.length_append]; exact Nat.le_refl _
      obtain ⟨i1, i2, i3⟩ := ih _ (fun q m => hc q (List.mem_cons_of_mem _ m)) step.1 step.2.1
      refine ⟨i1, i2, ?_⟩
      have := step.2.2
      rw [List.length_cons]
      omega
  intro ps hc
  have := key ps [] hc (fun q m => by cases m) List.nodup_nil
  refine ⟨this.1, this.2.1, ?_⟩
  have h := this.2.2
  show (ps.foldl _ []).length ≤ _
  simpa using h
theorem gap_enc {s : Span} (h : okS s) : decide ((encS s).2 < (encS s).1) = gap s := by
  obtain ⟨a, b⟩ := s
  show decide (b.getD BIG < a.getD (-BIG)) = _
  rw [big_is]
  obtain ⟨h1, h2⟩ := h
  cases a with
  | none =>
    cases b with
    | none => rfl
    | some b =>
      have h2 : -2000 ≤ b ∧ b ≤ 2000 := h2
      exact decide_eq_false (show ¬ b < -1000000000 by omega)
  | some a =>
    have h1 : -2000 ≤ a ∧ a ≤ 2000 := h1
    cases b with
    | none => exact decide_eq_false (show ¬ (1000000000 : Int) < a by omega)
    | some b => rfl
theorem look_nodup : ∀ {fs : List (Str × Span)} {i : Nat} {f : Str} {s : Span}, (fs.map (·.1)).Nodup → fs[i]? = some (f, s) → fs.lookup f = some s
  | [], _, _, _, _, h => by cases h
  | (g, y) :: r, 0, f, s, _, h => by
    obtain ⟨rfl, rfl⟩ := Prod.mk.inj (Option.some.inj h)
    simp [List.lookup]
  | (g, y) :: r, i + 1, f, s, n, h => by
    rw [List.map_cons, List.nodup_cons] at n
    have h : r[i]? = some (f, s) := h
    have m : f ∈ r.map (·.1) := List.mem_map.mpr ⟨(f, s), List.mem_of_getElem? h, rfl⟩
    have ne : ¬ f = g := fun e => n.1 (e ▸ m)
    have nb : (f == g) = false := by simpa using ne
    rw [show List.lookup f ((g, y) :: r) = List.lookup f r by simp [List.lookup, nb]]
    exact look_nodup n.2 h
theorem pr_at {β : Type} {R : Hp → V → β → Prop} {H : Hp} : ∀ {kvs : List (Key × V)} {fs : List (Str × β)} {i : Nat} {k : Key} {v : V}, Paired (PR R H) kvs fs → kvs[i]? = some (k, v) → ∃ p, fs[i]? = some p ∧ k = .inr p.1 ∧ R H v p.2
  | _, _, _, _, _, .nil, h => by cases h
  | _, _, 0, _, _, .cons ⟨e, q⟩ _, h => by
    obtain rfl := Option.some.inj h
    exact ⟨_, rfl, e, q⟩
  | _, _, i + 1, _, _, .cons _ r, h => pr_at (i := i) r h
theorem strs_shaped {ws : List Str} (h : ∀ x ∈ ws, PyData.strOk x = true) : SeqAt.shaped (.list (ws.map PyData.str)) = true := by
  have key : PyData.canLayAll0 (ws.map PyData.str) = true ∧ PyData.depthAll (ws.map PyData.str) ≤ 1 := by
    induction ws with
    | nil => simp [PyData.canLayAll0, PyData.depthAll]
    | cons x r ih =>
      obtain ⟨a, b⟩ := ih fun y m => h y (List.mem_cons_of_mem _ m)
      refine ⟨by simp [PyData.canLayAll0, PyData.canLay0, h x List.mem_cons_self, a], ?_⟩
      simp only [List.map_cons, PyData.depthAll, PyData.depth]
      omega
  refine shaped_of (by simp only [PyData.canLay0]; exact key.1) ?_
  simp only [PyData.depth]
  have := key.2
  omega
theorem strs_dp {K : PySem.W.Frag} {H : Hp} : ∀ ws : List Str, DpAll K H (ws.map V.str) (ws.map PyData.str)
  | [] => .nil
  | x :: r => .cons (.str x) (strs_dp r)
def tSwap (K : PySem.W.Frag) : TS := tIfS (tTest (tOp rEq (tOp (rIxT K) (tVar 5) (tC (.int 0))) (tC (.str sNum)))) (tPar3 4 5 6 (tCons (tDGet (tVar 3) (tVar 4)) (tCons (tVar 6) (tCons (tVar 5) tNil)))) tNext
def tFalse (K : PySem.W.Frag) : TS := tIfS (tAnd (tTest (tOp rEq (tOp (rIxT K) (tVar 5) (tC (.int 0))) (tC (.str sNum)))) (tAnd (tTest (tOp rEq (tOp (rIxT K) (tVar 6) (tC (.int 0))) (tC (.str sNum))))
    (tNot (tB (tCall spFits [] E0 (tCons (tVar 4) (tCons (tOp (rIxT K) (tVar 5) (tC (.int 1))) (tCons (tOp (rIxT K) (tVar 6) (tC (.int 1))) tNil)))))))) (tRet (tC .non)) tNext
section
variable {P : Program} {w : World} {K : PySem.W.Frag} {mg : Str → Option Value} {base : Heap}
theorem head_tr {H : Hp} {v : V} {t : Tr} (h : TrAt K H v t) (tm : Tm t) : ∃ p tag x rest, v = .ref p ∧ SqT K H p (.str tag :: x :: rest) ∧ ((∃ n, t = .num n ∧ tag = sNum ∧ x = .int n) ∨ (tag ≠ sNum ∧ ∀ n, t ≠ .num n)) := by
  cases tm with
  | num h1 h2 =>
    obtain ⟨p, e, q⟩ := h
    exact ⟨p, sNum, _, [], e, q, .inl ⟨_, rfl, rfl, rfl⟩⟩
  | field h1 h2 =>
    obtain ⟨p, e, q⟩ := h
    exact ⟨p, sField, _, _, e, q, .inr ⟨by decide +kernel, fun n z => by cases z⟩⟩
  | @bin op l r ho hl hr =>
    obtain ⟨p, x, y, e, q, q1, q2⟩ := h
    refine ⟨p, op, x, [y], e, q, .inr ⟨?_, fun n z => by cases z⟩⟩
    simp only [List.mem_cons, List.mem_nil_iff, or_false] at ho
    rcases ho with rfl | rfl | rfl <;> decide +kernel
theorem turn_run {D : Ends} {v0 v7 v8 v9 v10 : Option V} {tb op : Str} {d o : Addr} {vL vR : V} {L R : Tr} {H0 H : Hp} {fs : List (Str × Span)} {okvs : List (Key × V)} (hw : op ∈ signs) (hL : TrAt K H vL L) (hR : TrAt K H vR R) (tL : Tm L) (tR : Tm R) (dL : L.depth ≤ 20) (dR : R.depth ≤ 20) (htb : PyData.strOk tb = true)
    (sm : Same H0 H) (d0 : H0 d = none) (nod : o ≠ d) (ho : H o = some (.dK okvs)) (hov : ∀ x ∈ signs, valV okvs (.inr x) = some (.str (flip x)) ∧ flip x ∈ signs) (F : FoundAt K H d fs) (few : fs.length ≤ 70000)
    (hb : falseNum (.bin op L R) = true → ∀ H', Same H0 H' → D.rt .non H')
    (h : falseNum (.bin op L R) = false → ∀ (H' : Hp) (v4 v5 v6 v7 v8 : Option V), Same H0 H' → FoundAt K H' d (stepC fs (con tb (.bin op L R))) → D.nx [v0, some (.str tb), some (.ref d), some (.ref o), v4, v5, v6, v7, v8, v9, v10] H') :
    tSeq (tFalse K) (tSeq (tSwap K) (tUpd K)) D [v0, some (.str tb), some (.ref d), some (.ref o), some (.str op), some vL, some vR, v7, v8, v9, v10] H := by
  obtain ⟨pL, tag, x, rest, rfl, hpL, kL⟩ := head_tr hL tL
  obtain ⟨pR, tagR, y, restR, rfl, hpR, kR⟩ := head_tr hR tR
  have more : falseNum (.bin op L R) = false → ∀ H1, Same H H1 → tSeq (tSwap K) (tUpd K) D [v0, some (.str tb), some (.ref d), some (.ref o), some (.str op), some (.ref pL), some (.ref pR), v7, v8, v9, v10] H1 := fun ff H1 s1 => by
    have k1 := KeepN.of s1
    refine ⟨_, rfl, pL, _, 0, _, rfl, rfl, k1.t hpL, at0, rfl, _, rfl, ?_⟩
    rcases kL with ⟨n, rfl, rfl, rfl⟩ | ⟨nt, nn⟩
    · rw [show decide (V.str sNum = V.str sNum) = true from decide_eq_true rfl]
      have ov := hov op hw
      refine iteT ⟨_, rfl, _, rfl, o, _, rfl, .inl ⟨okvs, .inr op, .inl (s1 _ _ ho), rfl, ov.1.symm⟩, _, rfl, _, rfl, _, _, _, rfl, ?_⟩
      exact upd_run (K := K) (w := flip op) (L := R) (R := .num n) ov.2 (hR.keep k1) (hL.keep k1) tR tL dR htb (sm.trans s1) d0 (F.keep k1) few fun H' v4 v5 v6 v7 v8 s F' => h ff H' v4 v5 v6 v7 v8 s F'
    · rw [show decide (V.str tag = V.str sNum) = false from decide_eq_false fun e => nt (V.str.inj e)]
      refine iteF ?_
      have ec : con tb (.bin op L R) = conW tb op L R := by
        cases L with
        | num n => exact absurd rfl (nn n)
        | _ => rfl
      refine upd_run (K := K) (w := op) (L := L) (R := R) hw (hL.keep k1) (hR.keep k1) tL tR dL htb (sm.trans s1) d0 (F.keep k1) few fun H' v4 v5 v6 v7 v8 s F' => h ff H' v4 v5 v6 v7 v8 s (by rw [ec]; exact F')
  refine ⟨_, rfl, pL, _, 0, _, rfl, rfl, hpL, at0, rfl, _, rfl, ?_⟩
  rcases kL with ⟨n, rfl, rfl, rfl⟩ | ⟨nt, nn⟩
  · rw [show decide (V.str sNum = V.str sNum) = true from decide_eq_true rfl]
    refine iteT ⟨_, rfl, pR, _, 0, _, rfl, rfl, hpR, at0, rfl, _, rfl, ?_⟩
    rcases kR with ⟨m, rfl, rfl, rfl⟩ | ⟨nt2, nn2⟩
    · rw [show decide (V.str sNum = V.str sNum) = true from decide_eq_true rfl]
      have a1 : ∀ {a b : V} {r : List V}, atI (a :: b :: r) 1 = some b := fun {a b r} => atI_nat (j := 1) rfl
      refine iteT ⟨_, rfl, _, rfl, pL, _, 1, _, rfl, rfl, hpL, a1, _, rfl, pR, _, 1, _, rfl, rfl, hpR, a1, op, n, m, rfl, hw, fun H1 s1 => ⟨_, rfl, ?_⟩⟩
      cases e : fits op n m with
      | true => exact iteF (more (by show (!fits op n m) = false; rw [e]; rfl) H1 s1)
      | false => exact iteT (hb (by show (!fits op n m) = true; rw [e]; rfl) H1 (sm.trans s1))
    · rw [show decide (V.str tagR = V.str sNum) = false from decide_eq_false fun e => nt2 (V.str.inj e)]
      refine iteF (more ?_ H (Same.refl H))
      cases R with
      | num m => exact absurd rfl (nn2 m)
      | _ => rfl
  · rw [show decide (V.str tag = V.str sNum) = false from decide_eq_false fun e => nt (V.str.inj e)]
    refine iteF (more ?_ H (Same.refl H))
    cases L with
    | num m => exact absurd rfl (nn m)
    | _ => rfl
end
end K04

namespace K04
open PySem L2

structure TxtC (mg : Str → Option Value) : Prop extends Txt mg where
  int : mg "int" = none
  min : mg "min" = none
section
variable {P : Program} {w : World} {K : PySem.W.Frag} {mg : Str → Option Value} {base : Heap}
/-- the dict of signs turned about -/
def turned : List (Key × V) := [(Sum.inr gEq, V.str gEq), (Sum.inr gLt, V.str gGt), (Sum.inr gGt, V.str gLt), (Sum.inr gLe, V.str gGe), (Sum.inr gGe, V.str gLe)]
theorem turned_is : ∀ x ∈ signs, valV (mergeK [] turned) (.inr x) = some (.str (flip x)) ∧ flip x ∈ signs := by
  intro x hx
  simp only [signs, List.mem_cons, List.mem_nil_iff, or_false] at hx
  rcases hx with rfl | rfl | rfl | rfl | rfl <;> exact ⟨by decide +kernel, by decide +kernel⟩
theorem enc_low_none {s : Span} (h : okS s) : (if decide (V.int (encS s).1 = V.int (-((10 : Int) ^ (9 : Int).toNat))) = true then V.non else V.int (encS s).1) = oV s.1 := by
  obtain ⟨a, b⟩ := s
  show (if decide (V.int (a.getD (-BIG)) = V.int (-BIG)) = true then V.non else V.int (a.getD (-BIG))) = oV a
  rw [big_is]
  cases a with
  | none => rfl
  | some a =>
    have h1 : -2000 ≤ a ∧ a ≤ 2000 := h.1
    rw [if_neg]
    · rfl
    · intro z
      have z := V.int.inj (of_decide_eq_true z)
      have z : a = -1000000000 := z
      omega
theorem enc_high_none {s : Span} (h : okS s) : (if decide (V.int (encS s).2 = V.int ((10 : Int) ^ (9 : Int).toNat)) = true then V.non else V.int (encS s).2) = oV s.2 := by
  obtain ⟨a, b⟩ := s
  show (if decide (V.int (b.getD BIG) = V.int BIG) = true then V.non else V.int (b.getD BIG)) = oV b
  rw [big_is]
  cases b with
  | none => rfl
  | some b =>
    have h1 : -2000 ≤ b ∧ b ≤ 2000 := h.2
    rw [if_neg]
    · rfl
    · intro z
      have z := V.int.inj (of_decide_eq_true z)
      have z : b = 1000000000 := z
      omega
theorem scDue : FnScope ["_law_cond_here", "_law_table", "_law_found", "_law_other", "_law_word", "_law_left", "_law_right", "_law_low", "_law_high", "_law_field", "_law_ends"] ["_law_cond_here", "_law_table"] (defScope sLdue) := ⟨rfl, rfl, rfl, by decide +kernel, rfl, by decide +kernel, by decide +kernel⟩
theorem ok_due {f fp ff : Addr} {fd fdp fdf : FuncData} (F : Fun K "_law_due" "_law_due" sLdue f fd) (T : TxtC mg) (Cparts : Cal P w K mg base 16 "_law_parts" ["_law_cond_here"] (spParts K 16) fp fdp) (Cfits : Cal P w K mg base 16 "_law_fits" ["_law_word", "_law_one", "_law_other"] spFits ff fdf) :
    FnOk P w K mg base CX0 17 f fd ["_law_cond_here", "_law_table"] (spBnd K) := by
  refine F.ok scDue (fun vs H Q E h => ?_) (fun cdv A outer s H vs Q E hr h => ?_)
  · obtain ⟨v, c, tb, rfl, _⟩ := h
    rfl
  · obtain ⟨v, c, tb, rfl, C, cd, ct, dp, htb, kN, kD⟩ := h
    have hr1 : Room 16 _ := hr
    refine ⟨_, (pss_cons (ps_asg (pe_tup (pa_cons pe_dnewK (pa_cons (pe_disp (pps_cons pe_str pe_str (pps_cons pe_str pe_str (pps_cons pe_str pe_str (pps_cons pe_str pe_str (pps_cons pe_str pe_str pps_nil))))) (by rfl) (by rfl) (fun z => by cases z) (by decide)) pa_nil))) (RK.pgTup (K := K) (n := 2) rfl (pgs_cons (pg_name (i := 2) scDue.nd rfl (Or.inr rfl)) (pgs_cons (pg_name (i := 3) scDue.nd rfl (Or.inl rfl)) pgs_nil))))
      (pss_cons (ps_for PassesOwn.never rfl (RK.piL (K := K) (pe_call Cparts.G hr1 rfl Cparts.g Cparts.kp Cparts.b .nil pass0 (pa_cons (pv 0) pa_nil))) (RK.pgTup (K := K) (n := 3) rfl (pgs_cons (pg_name (i := 4) scDue.nd rfl (Or.inl rfl)) (pgs_cons (pg_name (i := 5) scDue.nd rfl (Or.inl rfl)) (pgs_cons (pg_name (i := 6) scDue.nd rfl (Or.inl rfl)) pgs_nil))))
        (pss_cons (ps_if (PW.pt (pw_and (pt_cmpR op_eq (pe_ix (RK.ixT (K := K)) (pv 5) pe_int (fun _ _ => rfl)) pe_str (nomark _)) (pw_and (pt_cmpR op_eq (pe_ix (RK.ixT (K := K)) (pv 6) pe_int (fun _ _ => rfl)) pe_str (nomark _)) (pw_and1 (pt_not (pt_val (pe_call Cfits.G hr1 rfl Cfits.g Cfits.kp Cfits.b .nil pass0 (pa_cons (pv 4) (pa_cons (pe_ix (RK.ixT (K := K)) (pv 5) pe_int (fun _ _ => rfl)) (pa_cons (pe_ix (RK.ixT (K := K)) (pv 6) pe_int (fun _ _ => rfl)) pa_nil)))))))))) (pss_one (ps_ret pe_non)) pss_nil)
        (pss_cons (ps_if (pt_cmpR op_eq (pe_ix (RK.ixT (K := K)) (pv 5) pe_int (fun _ _ => rfl)) pe_str (nomark _)) (pss_one (ps_par3 (i := 4) (j := 5) (l := 6) (by rfl) scDue.nd rfl rfl rfl (by decide) (by decide) (by decide) rfl rfl rfl (pa_cons (pe_dget (hu_of hr) (pv 3) (pv 4) (fun _ _ => rfl)) (pa_cons (pv 6) (pa_cons (pv 5) pa_nil))) (by rfl))) pss_nil)
        (pss_one (ps_if (PW.pt (pw_and (pt_cmpR (RK.eqD (K := K) hr.units) (pe_slice (RK.slT (K := K)) (pv 5) po_none (po_some pe_int)) (pe_tup (pa_cons pe_str (pa_cons (pv 1) pa_nil))) (nomark _)) (pw_and1 (pt_cmpR op_eq (pe_ix (RK.ixT (K := K)) (pv 6) pe_int (fun _ _ => rfl)) pe_str (nomark _))))) (pss_cons (ps_asg (pe_dget2 (hu_of hr) (pv 2) (pe_ix (RK.ixT (K := K)) (pv 5) pe_int (fun _ _ => rfl)) (pe_tup (pa_cons (pe_un un_neg (pe_op op_pow pe_int pe_int)) (pa_cons (pe_op op_pow pe_int pe_int) pa_nil))) ⟨rfl, rfl, rfl, rfl⟩) (RK.pgTup (K := K) (n := 2) rfl (pgs_cons (pg_name (i := 7) scDue.nd rfl (Or.inl rfl)) (pgs_cons (pg_name (i := 8) scDue.nd rfl (Or.inl rfl)) pgs_nil))))
          (pss_cons (ps_if (pt_cmpR (RK.inQ (K := K)) (pv 4) (pe_tup (pa_cons pe_str (pa_cons pe_str (pa_cons pe_str pa_nil)))) (by rfl)) (pss_one (ps_set (i := 7) scDue.nd rfl (Or.inl rfl) (pe_callB (call_max2 rfl) (by rfl) T.max (by decide +kernel) (pa_cons (pv 7) (pa_cons (pe_op op_add (pe_ix (RK.ixT (K := K)) (pv 6) pe_int (fun _ _ => rfl)) (pe_callTy call_int1 (by rfl) T.int (by decide +kernel) (pa_cons (pe_cmpR op_eq (pv 4) pe_str (nomark _)) pa_nil))) pa_nil))))) pss_nil)
          (pss_cons (ps_if (pt_cmpR (RK.inQ (K := K)) (pv 4) (pe_tup (pa_cons pe_str (pa_cons pe_str (pa_cons pe_str pa_nil)))) (by rfl)) (pss_one (ps_set (i := 8) scDue.nd rfl (Or.inl rfl) (pe_callB (call_min2 rfl) (by rfl) T.min (by decide +kernel) (pa_cons (pv 8) (pa_cons (pe_op op_sub (pe_ix (RK.ixT (K := K)) (pv 6) pe_int (fun _ _ => rfl)) (pe_callTy call_int1 (by rfl) T.int (by decide +kernel) (pa_cons (pe_cmpR op_eq (pv 4) pe_str (nomark _)) pa_nil))) pa_nil))))) pss_nil)
          (pss_one (ps_dput (hu_of hr) (pv 2) (pe_ix (RK.ixT (K := K)) (pv 5) pe_int (fun _ _ => rfl)) (pe_tup (pa_cons (pv 7) (pa_cons (pv 8) pa_nil))) rfl))))) pss_nil)))))
      (pss_cons (ps_if (pt_cmpR (RK.neD (K := K) hr.units) (pe_lock (pe_lc (own := [("_law_field", 9)]) rfl scDue.nd (pi_keys (pv 2)) (blkOk_by (N := ["_law_cond_here", "_law_table", "_law_found", "_law_other", "_law_word", "_law_left", "_law_right", "_law_low", "_law_high", "_law_field", "_law_ends"]) (sc := defScope sLdue) (by decide +kernel)) (fun _ _ _ _ _ => (pg_name (i := 9) scDue.nd rfl (Or.inl rfl))) (fun _ _ _ _ _ => (pts_one (pt_cmpR op_gt (pe_ix (RK.ixT (K := K)) (pe_dget (hu_of hr) (pv 2) (pv 9) (fun _ _ => rfl)) pe_int (fun _ _ => rfl)) (pe_ix (RK.ixT (K := K)) (pe_dget (hu_of hr) (pv 2) (pv 9) (fun _ _ => rfl)) pe_int (fun _ _ => rfl)) (nomark _)))) (fun _ _ _ _ _ => (pv 9)))) (pe_lst pa_nil) (nomark _)) (pss_one (ps_ret pe_non)) pss_nil)
      (pss_cons (ps_set (i := 10) scDue.nd rfl (Or.inl rfl) pe_dnewK)
      (pss_cons (ps_lock (ps_for PassesOwn.never rfl (pi_keys (pv 2)) (pg_name (i := 9) scDue.nd rfl (Or.inl rfl))
        (pss_cons (ps_asg (pe_dget (hu_of hr) (pv 2) (pv 9) (fun _ _ => rfl)) (RK.pgTup (K := K) (n := 2) rfl (pgs_cons (pg_name (i := 7) scDue.nd rfl (Or.inl rfl)) (pgs_cons (pg_name (i := 8) scDue.nd rfl (Or.inl rfl)) pgs_nil))))
        (pss_one (ps_dput (hu_of hr) (pv 10) (pv 9) (pe_tup (pa_cons (pe_ifExp (pt_cmpR op_eq (pv 7) (pe_un un_neg (pe_op op_pow pe_int pe_int)) (nomark _)) pe_non (pv 7)) (pa_cons (pe_ifExp (pt_cmpR op_eq (pv 8) (pe_op op_pow pe_int pe_int) (nomark _)) pe_non (pv 8)) pa_nil))) rfl)))))
      (pss_one (ps_ret (pv 10)))))))), ?_⟩
    intro d hd p1 hp1
    have s1 := Same.new (o := .dK []) hd
    have s2 := Same.new (o := .dK []) hp1
    refine ⟨upd_same, turned, rfl, (by show 5 ≤ 15; decide), ?_⟩
    rw [upd_upd]
    have s3 := Same.new (o := .dK (mergeK [] turned)) hp1
    have ndp : d ≠ p1 := fun e => by rw [← e, upd_same] at hp1; cases hp1
    have p10 : H p1 = none := s1.free hp1
    refine ⟨(by show 2 ≤ sizeLine; decide), fun p2 hp2 => ?_⟩
    have s4 := Same.new (o := .tup [.ref d, .ref p1]) hp2
    refine ⟨p2, _, rfl, SqT.of upd_same, rfl, _, _, rfl, _, _, rfl, rfl, ?_⟩
    have s14 : Same H _ := s1.trans (s3.trans s4)
    have hd4 := (s3.trans s4) _ _ (upd_same (H := H) (a := d) (o := .dK []))
    have ho4 := s4 _ _ (upd_same (H := upd H d (.dK [])) (a := p1) (o := .dK (mergeK [] turned)))
    refine ⟨_, rfl, v, c, rfl, C.keep (KeepN.of s14), cd, dp, by decide, fun r H5 us s5 r0 hr5 pus => ⟨r, rfl, ⟨us, SqL.of hr5⟩, ?_⟩⟩
    have s15 := s14.trans s5
    have fam := okS_found (tb := tb) (partsO c) ct
    have plen : (partsO c).length ≤ 65536 := by
      cases c with
      | none => exact Nat.zero_le _
      | some t => exact Nat.le_trans (parts_len t) (Nat.le_trans (Nat.pow_le_pow_right (by decide) (show t.depth ≤ 16 by have : t.depth < 16 := dp; omega)) (by decide))
    have ulen : us.length = (partsO c).length := Paired.length pus
    have d5 : H5 d = some (.dK []) := s5 _ _ hd4
    have nrd : r ≠ d := fun e => by rw [e, hd4] at r0; cases r0
    have rH : H r = none := s14.free r0
    -- what stands but for the dict that is filled
    obtain ⟨HB, hHB⟩ : ∃ HB : Hp, HB = fun b => if b = d then none else H5 b := ⟨_, rfl⟩
    have hbd : HB d = none := by rw [hHB]; exact if_pos rfl
    have hbn : ∀ b, b ≠ d → HB b = H5 b := fun b n => by rw [hHB]; exact if_neg n
    have hbr : HB r = some (.lst us) := by rw [hbn r nrd]; exact hr5
    have hbp : HB p1 = some (.dK (mergeK [] turned)) := by rw [hbn p1 ndp.symm]; exact s5 _ _ ho4
    have sHB : Same H HB := fun b o e => by rw [hbn b (ne_of_none e hd)]; exact s15 _ _ e
    have sB5 : Same HB H5 := fun b o e => by
      by_cases z : b = d
      · rw [z, hbd] at e; cases e
      · rw [hbn b z] at e; exact e
    have puB : Paired (TrAt K HB) us (partsO c) := Paired.mapP pus fun _ _ q => TrAt.mono (fun t xs z => by
      rcases z with (z | ⟨o, z⟩) | z
      · exact .inl (.inl (by rw [hbn t (ne_of z d5 (fun e => nomatch e))]; exact z))
      · exact .inl (.inr ⟨o, by rw [hbn t (ne_of z d5 (fun e => nomatch e))]; exact z⟩)
      · exact .inr z) q
    refine for_list (K := K) (a := r) (xs := us) (fun i σ H' => ∃ v4 v5 v6 v7 v8, σ = [some v, some (.str tb), some (.ref d), some (.ref p1), v4, v5, v6, v7, v8, none, none] ∧ Same HB H' ∧ FoundAt K H' d (foundL tb ((partsO c).take i)) ∧ ((partsO c).take i).any falseNum = false)
      ⟨_, _, _, _, _, rfl, sB5, ⟨[], d5, .nil⟩, rfl⟩ (fun i σ H' _ ⟨_, _, _, _, _, _, sm, _⟩ => SqL.of (sm _ _ hbr)) ?_ ?_
    · rintro i y σ H6 hi ⟨v4, v5, v6, v7, v8, rfl, sm, F6, nf6⟩
      have hi1 : i < us.length := (List.getElem?_eq_some_iff.mp hi).1
      have hi2 : i < (partsO c).length := by omega
      obtain ⟨q, hq, hty⟩ : ∃ q, (partsO c)[i]? = some q ∧ TrAt K HB y q := by
        have key : ∀ {us : List V} {ps : List Tr} {i : Nat} {y : V}, Paired (TrAt K HB) us ps → us[i]? = some y → ∃ q, ps[i]? = some q ∧ TrAt K HB y q := by
          intro us ps i y h
          induction h generalizing i with
          | nil => intro z; cases z
          | cons a _ ih =>
            intro z
            cases i with
            | zero => obtain rfl := Option.some.inj z; exact ⟨_, rfl, a⟩
            | succ i => exact ih (i := i) z
        exact key puB hi
      obtain ⟨op, L, R, rfl, hop, tL, tR, dL, dR⟩ := ct q (List.mem_of_getElem? hq)
      obtain ⟨pP, x, z, rfl, hpP, hx, hz⟩ := hty
      have k6 := KeepN.of sm
      have tk : (partsO c).take (i + 1) = (partsO c).take i ++ [.bin op L R] := by rw [List.take_add_one, hq]; rfl
      have ctk : CdT ((partsO c).take i) := fun p m => ct p (List.mem_of_mem_take m)
      have few : (foundL tb ((partsO c).take i)).length ≤ 70000 := by
        have := (okS_found (tb := tb) _ ctk).2.2
        rw [List.length_take] at this
        omega
      refine ⟨pP, _, rfl, k6.t hpP, rfl, _, _, rfl, _, _, rfl, _, _, rfl, rfl, ?_⟩
      refine turn_run (K := K) (L := L) (R := R) (okvs := mergeK [] turned) hop (hx.keep k6) (hz.keep k6) tL tR dL dR htb sm hbd ndp.symm (sm _ _ hbp) turned_is F6 few ?_ ?_
      · intro ff H' s
        refine kN ?_ H' (sHB.trans s)
        show ((partsO c).any falseNum || _) = true
        have : (partsO c).any falseNum = true := List.any_eq_true.mpr ⟨_, List.mem_of_getElem? hq, ff⟩
        rw [this]
        rfl
      · intro ff H' w4 w5 w6 w7 w8 s F'
        refine ⟨w4, w5, w6, w7, w8, rfl, s, ?_, ?_⟩
        · rw [tk]
          unfold foundL at F' ⊢
          rw [List.foldl_append]
          exact F'
        · rw [tk, List.any_append, nf6]
          show (falseNum (.bin op L R) || false) = false
          rw [ff]
          rfl
    · rintro σ H6 ⟨v4, v5, v6, v7, v8, rfl, sm, F6, nf6⟩
      rw [ulen, List.take_length] at F6 nf6
      obtain ⟨kvs, hd6, pr⟩ := F6
      generalize hfs : foundL tb (partsO c) = fs at pr fam
      obtain ⟨okAll, ndAll, lenAll⟩ := fam
      have klen : kvs.length = fs.length := pr_len pr
      have kfew : kvs.length < sizeLine := Nat.lt_of_le_of_lt (show kvs.length ≤ 65536 by omega) (by decide)
      -- the dict is locked while it is walked
      refine ⟨d, .dK kvs, hd6, trivial, fun od => ?_⟩
      generalize hHL : upd H6 d (.frz od (.dK kvs)) = HL
      have hdL : HL d = some (.frz od (.dK kvs)) := by rw [← hHL]; exact upd_same
      have tL : ∀ {t xs}, SqT K H6 t xs → SqT K HL t xs := fun {t xs} z => by rw [← hHL]; exact t_upd hd6 z
      have prL : Paired (PR (FnR K) HL) kvs fs := pr_mono (fun v x ⟨t, e, q⟩ => ⟨t, e, tL q⟩) pr
      have sBL : Same HB HL := fun b o e => by rw [← hHL, upd_ne (ne_of_none e hbd)]; exact sm _ _ e
      refine ⟨_, rfl, d, od, rfl, .inl ⟨kvs, hdL, fun D hD => ?_⟩⟩
      have nDd : D ≠ d := fun e => by rw [e, hdL] at hD; cases hD
      refine lc_it walk_keys (fun i H' => Same HL H' ∧ ∃ ws : List Str, H' D = some (.lst (ws.map V.str)) ∧ (∀ x ∈ ws, PyData.strOk x = true) ∧ ws.isEmpty = !(fs.take i).any (fun p => gap p.2) ∧ ws.length ≤ i)
        ⟨Same.new hD, [], upd_same, (fun x m => by cases m), rfl, Nat.le_refl _⟩ (fun i H' _ ⟨s, _⟩ => s _ _ hdL) ?_ ?_
      · rintro i x H7 H7' hi ⟨s7, ws, hD7, okw, emp, lw⟩ ⟨rfl, k, v', hk, rfl⟩
        obtain ⟨⟨g, sp⟩, hg, rfl, hR⟩ := pr_at prL hk
        have lk : fs.lookup g = some sp := look_nodup ndAll hg
        rcases pr_look g prL with ⟨e1, _⟩ | ⟨sp', v2, e1, e2, t, rfl, ht⟩
        · rw [lk] at e1; cases e1
        obtain rfl : sp = sp' := by rw [lk] at e1; exact Option.some.inj e1
        have okg := okAll _ (List.mem_of_getElem? hg)
        have rd7 : Rd H7' d (.dK kvs) := .inr ⟨od, s7 _ _ hdL⟩
        have ht7 := (KeepN.of s7).t ht
        refine ⟨rfl, _, rfl, _, rfl, d, _, rfl, .inl ⟨kvs, .inr g, rd7, rfl, e2.symm⟩, t, _, 0, _, rfl, rfl, ht7, rfl, _, rfl, _, rfl, d, _, rfl, .inl ⟨kvs, .inr g, rd7, rfl, e2.symm⟩, t, _, 1, _, rfl, rfl, ht7, rfl, _, _, rfl, rfl, _, rfl, ?_⟩
        rw [gap_enc okg.1]
        have tk : fs.take (i + 1) = fs.take i ++ [(g, sp)] := by rw [List.take_add_one, hg]; rfl
        cases eg : gap sp with
        | true =>
          refine iteT ⟨_, rfl, ws.map V.str, hD7, ?_, ?_, ws ++ [g], ?_, ?_, ?_, ?_⟩
          · rw [List.length_map]
            exact Nat.lt_of_le_of_lt (show ws.length ≤ 65536 by have := hi; omega) (by decide)
          · intro b o e
            rw [upd_ne (ne_of_none e hD)]
            exact s7 _ _ e
          · rw [upd_same, List.map_append]; rfl
          · intro x m
            rcases List.mem_append.mp m with m | m
            · exact okw x m
            · rw [List.mem_singleton.mp m]; exact okg.2
          · rw [tk, List.any_append]
            show (ws ++ [g]).isEmpty = !((fs.take i).any (fun p => gap p.2) || (gap sp || false))
            rw [eg]
            simp
          · rw [List.length_append]; exact Nat.succ_le_succ lw
        | false =>
          refine iteF ⟨s7, ws, hD7, okw, ?_, Nat.le_succ_of_le lw⟩
          rw [tk, List.any_append, emp]
          show (!(fs.take i).any (fun p => gap p.2)) = !((fs.take i).any (fun p => gap p.2) || (gap sp || false))
          rw [eg]
          simp
      · rintro H7 ⟨s7, ws, hD7, okw, emp, lw⟩
        rw [klen, List.take_length] at emp
        refine ⟨s7 _ _ hdL, (by show 0 ≤ sizeLine; decide), fun q hq => ?_⟩
        generalize hHU : upd H7 d (.dK kvs) = HU at hq
        have hdU : HU d = some (.dK kvs) := by rw [← hHU]; exact upd_same
        have hDU : HU D = some (.lst (ws.map V.str)) := by rw [← hHU, upd_ne nDd]; exact hD7
        have s8 := Same.new (o := .lst []) hq
        refine ⟨_, _, .lst (SqL.of (s8 _ _ hDU)) (strs_dp ws), .lst (SqL.of upd_same) .nil, strs_shaped okw, rfl, _, rfl, ?_⟩
        have e0 : (ws.map PyData.str).isEmpty = ws.isEmpty := by cases ws <;> rfl
        rw [eqv_nil, e0, emp, Bool.not_not]
        have sBU : Same HB HU := fun b o e => by
          rw [← hHU, upd_ne (ne_of_none e hbd)]
          exact s7 _ _ (sBL _ _ e)
        have prU : Paired (PR (FnR K) HU) kvs fs := by
          refine pr_mono (fun v x ⟨t, e, q⟩ => ⟨t, e, ?_⟩) prL
          have z := (KeepN.of s7).t q
          rw [← hHU]
          rcases z with (z | ⟨o, z⟩) | z
          · exact .inl (.inl (by rw [upd_ne (ne_of z (s7 _ _ hdL) (fun e => nomatch e))]; exact z))
          · by_cases tz : t = d
            · subst tz
              rw [s7 _ _ hdL] at z
              cases z
            · exact .inl (.inr ⟨o, by rw [upd_ne tz]; exact z⟩)
          · exact .inr z
        have sH8 : Same H (upd HU q (.lst [])) := sHB.trans (sBU.trans s8)
        cases eg : fs.any (fun p => gap p.2) with
        | true =>
          refine iteT (kN ?_ _ sH8)
          show (_ || (foundL tb (partsO c)).any fun p => gap p.2) = true
          rw [hfs, eg, Bool.or_true]
        | false =>
          refine iteF ?_
          have nb : Bad tb (partsO c) = false := by
            show ((partsO c).any falseNum || (foundL tb (partsO c)).any fun p => gap p.2) = false
            rw [hfs, eg, nf6]
            rfl
          intro e he
          have s9 := Same.new (o := .dK []) he
          have hd9 : upd (upd HU q (.lst [])) e (.dK []) d = some (.dK kvs) := s9 _ _ (s8 _ _ hdU)
          have ned : e ≠ d := fun z => by rw [z, s8 _ _ hdU] at he; cases he
          have eH : H e = none := sH8.free he
          refine ⟨d, .dK kvs, hd9, trivial, fun od2 => ?_⟩
          generalize hHM : upd (upd (upd HU q (.lst [])) e (.dK [])) d (.frz od2 (.dK kvs)) = HM
          have hdM : HM d = some (.frz od2 (.dK kvs)) := by rw [← hHM]; exact upd_same
          have heM : HM e = some (.dK []) := by rw [← hHM, upd_ne ned]; exact upd_same
          have prM : Paired (PR (FnR K) HM) kvs fs := by
            refine pr_mono (fun v x ⟨t, e, q⟩ => ⟨t, e, ?_⟩) prU
            rw [← hHM]
            exact t_upd hd9 ((KeepN.of s9).t ((KeepN.of s8).t q))
          have sHM : ∀ b o, b ≠ d → H b = some o → HM b = some o := fun b o n z => by
            rw [← hHM, upd_ne n]
            exact s9 _ _ (sH8 _ _ z)
          refine ⟨_, rfl, d, od2, rfl, .inl ⟨kvs, hdM, ?_⟩⟩
          refine for_it walk_keys (fun i σ H' => ∃ w7 w8 w9, σ = [some v, some (.str tb), some (.ref d), some (.ref p1), v4, v5, v6, w7, w8, w9, some (.ref e)] ∧ (∀ b o, b ≠ e → HM b = some o → H' b = some o) ∧ BndAt K H' e (fs.take i))
            ⟨_, _, _, rfl, fun _ _ _ z => z, ⟨[], heM, .nil⟩⟩ (fun i σ H' _ ⟨_, _, _, _, s, _⟩ => s _ _ ned.symm hdM) ?_ ?_
          · rintro i x σ Ha Ha' hi ⟨w7, w8, w9, rfl, sa, BA⟩ ⟨rfl, k, v', hk, rfl⟩
            obtain ⟨⟨g, sp⟩, hg, rfl, hR⟩ := pr_at prM hk
            have lk : fs.lookup g = some sp := look_nodup ndAll hg
            rcases pr_look g prM with ⟨e1, _⟩ | ⟨sp', v2, e1, e2, t, rfl, ht⟩
            · rw [lk] at e1; cases e1
            obtain rfl : sp = sp' := by rw [lk] at e1; exact Option.some.inj e1
            have okg := okAll _ (List.mem_of_getElem? hg)
            have ta : ∀ {t xs}, SqT K HM t xs → SqT K Ha' t xs := fun {t xs} z => by
              rcases z with (z | ⟨o, z⟩) | z
              · exact .inl (.inl (sa _ _ (ne_of z heM (fun e => nomatch e)) z))
              · exact .inl (.inr ⟨o, sa _ _ (ne_of z heM (fun e => nomatch e)) z⟩)
              · exact .inr z
            refine ⟨_, rfl, _, rfl, d, _, rfl, .inl ⟨kvs, .inr g, .inr ⟨od2, sa _ _ ned.symm hdM⟩, rfl, e2.symm⟩, t, _, rfl, ta ht, rfl, _, _, rfl, _, _, rfl, rfl, ?_⟩
            have lowv : ∀ {σ : L2.St} {Hx : Hp} {Qx : VK}, σ[7]? = some (some (.int (encS sp).1)) → Qx (oV sp.1) Hx → tIf (tTest (tOp rEq (tVar 7) (tUn (rU fun i => V.int (-i)) (tOp (rI CPow fun i j => V.int (i ^ j.toNat)) (tC (.int 10)) (tC (.int 9)))))) (tC .non) (tVar 7) σ Hx Qx := fun {σ Hx Qx} h7 qx => by
              refine ⟨_, h7, _, _, rfl, rfl, ⟨by decide, by decide, by decide⟩, _, rfl, rfl, _, rfl, ?_⟩
              have z := enc_low_none okg.1
              rw [← z] at qx
              refine ite2 (fun c => ?_) (fun c => ?_)
              · rw [if_pos c] at qx; exact qx
              · rw [if_neg c] at qx; exact ⟨_, h7, qx⟩
            have highv : ∀ {σ : L2.St} {Hx : Hp} {Qx : VK}, σ[8]? = some (some (.int (encS sp).2)) → Qx (oV sp.2) Hx → tIf (tTest (tOp rEq (tVar 8) (tOp (rI CPow fun i j => V.int (i ^ j.toNat)) (tC (.int 10)) (tC (.int 9))))) (tC .non) (tVar 8) σ Hx Qx := fun {σ Hx Qx} h8 qx => by
              refine ⟨_, h8, _, _, rfl, rfl, ⟨by decide, by decide, by decide⟩, rfl, _, rfl, ?_⟩
              have z := enc_high_none okg.1
              rw [← z] at qx
              refine ite2 (fun c => ?_) (fun c => ?_)
              · rw [if_pos c] at qx; exact qx
              · rw [if_neg c] at qx; exact ⟨_, h8, qx⟩
            refine lowv rfl (highv rfl ⟨(by show 2 ≤ sizeLine; decide), fun p9 hp9 => ?_⟩)
            have sb := Same.new (o := .tup [oV sp.1, oV sp.2]) hp9
            obtain ⟨bkvs, hbe, pb⟩ := BA
            have bl : bkvs.length < sizeLine := by
              rw [pr_len pb]
              refine Nat.lt_of_le_of_lt (show (fs.take i).length ≤ 65536 by rw [List.length_take]; omega) (by decide)
            have tk : fs.take (i + 1) = fs.take i ++ [(g, sp)] := by rw [List.take_add_one, hg]; rfl
            have nin : g ∉ (fs.take i).map (·.1) := fun m => by
              have nd2 : ((fs.take (i + 1)).map (·.1)).Nodup := ndAll.sublist ((List.take_sublist _ _).map _)
              rw [tk, List.map_append, List.nodup_append] at nd2
              exact nd2.2.2 _ m _ (List.mem_singleton.mpr rfl) rfl
            refine ⟨_, rfl, _, rfl, e, _, rfl, DPut.k (k := .inr g) (sb _ _ hbe) bl, _, _, _, rfl, fun b o n z => ?_, ⟨_, upd_same, ?_⟩⟩
            · rw [upd_ne n]
              exact sb _ _ (sa _ _ n z)
            · rw [pr_put pb nin, tk]
              have hbe2 := sb _ _ hbe
              refine pr_snoc (pr_mono (fun v x ⟨t, e, q⟩ => ⟨t, e, t_upd hbe2 ((KeepN.of sb).t q)⟩) pb) ⟨p9, rfl, t_upd hbe2 (SqT.of upd_same)⟩
          · rintro σ Ha ⟨w7, w8, w9, rfl, sa, BA⟩
            rw [klen, List.take_length] at BA
            refine ⟨sa _ _ ned.symm hdM, _, rfl, ?_⟩
            refine kD nb e _ fs ?_ eH ?_ ndAll fun g => ?_
            · intro b o z
              rw [upd_ne (ne_of_none z hd)]
              exact sa _ _ (ne_of_none z eH) (sHM _ _ (ne_of_none z hd) z)
            · obtain ⟨bkvs, hbe, pb⟩ := BA
              refine ⟨bkvs, by rw [upd_ne ned]; exact hbe, pr_mono (fun v x ⟨t, e2, q⟩ => ⟨t, e2, ?_⟩) pb⟩
              rcases q with (q | ⟨o, q⟩) | q
              · exact .inl (.inl (by rw [upd_ne (ne_of q (sa _ _ ned.symm hdM) (fun e => nomatch e))]; exact q))
              · by_cases tz : t = d
                · subst tz
                  rw [sa _ _ ned.symm hdM] at q
                  cases q
                · exact .inl (.inr ⟨o, by rw [upd_ne tz]; exact q⟩)
              · exact .inr q
            · rw [← hfs]
              exact look_found tb (partsO c) g
end
end K04

namespace K04
open PySem L2

structure TxtL (mg : Str → Option Value) : Prop extends Txt mg where
  sorted : mg "sorted" = none
  isinstance : mg "isinstance" = none
  dict : mg "dict" = none
theorem room66 {k : Nat} {A : Around} (hr : Room k A) : A.units + 66 < cLine := by
  have := hr.un
  omega
def spLaw (K : PySem.W.Frag) : Sp := fun vs H Q _ => ∃ (a : Addr) (ns : List Int), vs = [.ref a] ∧ SqL K H a (ns.map V.int) ∧ ns.length ≤ 63 ∧ ∀ H', Q (.bl true) H'
/-! ### the condition that says too much -/
abbrev sT : Str := Str.ofString "t"
def gtT (q : Str × Int) : Tr := .bin gGt (.field sT q.1) (.num q.2)
def baseT (last : Str) : Tr := .bin sAnd (.bin gLt (.field sT last) (.num 1)) (gtT (last, 3))
def wholeT (last : Str) (done : List (Str × Int)) : Tr := done.foldl (fun z q => .bin sAnd (gtT q) z) (baseT last)
theorem parts_and (l r : Tr) : parts (.bin sAnd l r) = parts l ++ parts r := by
  show (if sAnd = sAnd then parts l ++ parts r else if sAnd = sOr then [] else [.bin sAnd l r]) = _
  rw [if_pos rfl]
theorem parts_gt (q : Str × Int) : parts (gtT q) = [gtT q] := by
  show (if gGt = sAnd then parts (.field sT q.1) ++ parts (.num q.2) else if gGt = sOr then [] else [gtT q]) = _
  rw [if_neg (by decide +kernel), if_neg (by decide +kernel)]
theorem parts_base (last : Str) : parts (baseT last) = [.bin gLt (.field sT last) (.num 1), gtT (last, 3)] := by
  unfold baseT
  rw [parts_and, parts_gt]
  have e : parts (Tr.bin gLt (.field sT last) (.num 1)) = [Tr.bin gLt (.field sT last) (.num 1)] := by
    show (if gLt = sAnd then parts (.field sT last) ++ parts (.num 1) else if gLt = sOr then [] else [Tr.bin gLt (.field sT last) (.num 1)]) = _
    rw [if_neg (by decide +kernel), if_neg (by decide +kernel)]
  rw [e]
  rfl
theorem parts_whole (last : Str) : ∀ (done : List (Str × Int)) (z : Tr), parts (done.foldl (fun z q => .bin sAnd (gtT q) z) z) = (done.reverse.map gtT) ++ parts z
  | [], z => rfl
  | q :: r, z => by
    rw [List.foldl_cons, parts_whole last r, parts_and, parts_gt, List.reverse_cons, List.map_append, List.append_assoc]
    rfl
theorem whole_is (last : Str) (done : List (Str × Int)) : parts (wholeT last done) = (done.reverse.map gtT) ++ [.bin gLt (.field sT last) (.num 1), gtT (last, 3)] := by
  unfold wholeT
  rw [parts_whole last, parts_base]
theorem flOk0 : FlOk [] := fun q m => by cases m
theorem flOk1 {x : Str} (h : PyData.strOk x = true) : FlOk [(sT, x)] := fun q m => by
  obtain rfl := List.mem_singleton.mp m
  exact ⟨show PyData.strOk sT = true by decide +kernel, h⟩
theorem cd_whole (last : Str) : ∀ (done : List (Str × Int)) (z : Tr), Cd z → (∀ q ∈ done, PyData.strOk q.1 = true ∧ -1000 ≤ q.2 ∧ q.2 ≤ 1000) → Cd (done.foldl (fun z q => .bin sAnd (gtT q) z) z)
  | [], _, h, _ => h
  | q :: r, z, h, hq => by
    refine cd_whole last r _ (.join (by decide +kernel) ?_ h) fun x m => hq x (List.mem_cons_of_mem _ m)
    exact .cmp (by decide +kernel) ⟨[(sT, q.1)], flOk1 (hq q List.mem_cons_self).1, .field List.mem_cons_self⟩ ⟨[], flOk0, .num (hq q List.mem_cons_self).2.1 (hq q List.mem_cons_self).2.2⟩
theorem cd_base (last : Str) (hl : PyData.strOk last = true) : Cd (baseT last) :=
  .join (by decide +kernel) (.cmp (by decide +kernel) ⟨[(sT, last)], flOk1 hl, .field List.mem_cons_self⟩ ⟨[], flOk0, .num (by decide) (by decide)⟩) (.cmp (by decide +kernel) ⟨[(sT, last)], flOk1 hl, .field List.mem_cons_self⟩ ⟨[], flOk0, .num (n := 3) (by decide) (by decide)⟩)
theorem depth_whole : ∀ (done : List (Str × Int)) (z : Tr), 1 ≤ z.depth → (done.foldl (fun z q => .bin sAnd (gtT q) z) z).depth = z.depth + done.length
  | [], _, _ => rfl
  | q :: r, z, h => by
    rw [List.foldl_cons, depth_whole r (.bin sAnd (gtT q) z) (Nat.succ_le_succ (Nat.zero_le _))]
    show max (gtT q).depth z.depth + 1 + r.length = z.depth + (r.length + 1)
    have : (gtT q).depth = 1 := rfl
    omega
theorem ct_whole {last : Str} {done : List (Str × Int)} (hl : PyData.strOk last = true) (hd : ∀ q ∈ done, PyData.strOk q.1 = true ∧ -1000 ≤ q.2 ∧ q.2 ≤ 1000) : CdT (parts (wholeT last done)) := by
  have t0 : PyData.strOk sT = true := by decide +kernel
  intro p m
  rw [whole_is] at m
  rcases List.mem_append.mp m with m | m
  · obtain ⟨q, mq, rfl⟩ := List.mem_map.mp m
    have hq := hd q (List.mem_reverse.mp mq)
    exact ⟨_, _, _, rfl, by decide +kernel, .field t0 hq.1, .num hq.2.1 hq.2.2, Nat.zero_le _, Nat.zero_le _⟩
  · rcases List.mem_cons.mp m with rfl | m
    · exact ⟨_, _, _, rfl, by decide +kernel, .field t0 hl, .num (by decide) (by decide), Nat.zero_le _, Nat.zero_le _⟩
    · obtain rfl := List.mem_singleton.mp m
      exact ⟨_, _, _, rfl, by decide +kernel, .field t0 hl, .num (n := 3) (by decide) (by decide), Nat.zero_le _, Nat.zero_le _⟩
theorem bad_t (last : Str) (done : List (Str × Int)) : Bad sT (parts (wholeT last done)) = true := by
  have e : specF sT (parts (wholeT last done)) last = specS sT last (specS sT last (specF sT (done.reverse.map gtT) last) (.bin gLt (.field sT last) (.num 1))) (gtT (last, 3)) := by
    rw [whole_is]
    unfold specF
    rw [List.foldl_append]
    rfl
  generalize specF sT (done.reverse.map gtT) last = o at e
  have c1 : con sT (.bin gLt (.field sT last) (.num 1)) = some (last, gLt, 1) := by
    show (if sT = sT then some (last, gLt, (1 : Int)) else none) = _
    rw [if_pos rfl]
  have c2 : con sT (gtT (last, 3)) = some (last, gGt, 3) := by
    show (if sT = sT then some (last, gGt, (3 : Int)) else none) = _
    rw [if_pos rfl]
  have h1 : highOf gLt 1 = some 0 := by unfold highOf; rw [if_pos (.inr (.inl rfl)), if_pos rfl]; rfl
  have h2 : lowOf gLt 1 = none := by unfold lowOf; rw [if_neg (by decide +kernel)]
  have h3 : lowOf gGt 3 = some 4 := by unfold lowOf; rw [if_pos (.inr (.inl rfl)), if_pos rfl]; rfl
  have h4 : highOf gGt 3 = none := by unfold highOf; rw [if_neg (by decide +kernel)]
  obtain ⟨sp, hs, hg⟩ : ∃ sp, specF sT (parts (wholeT last done)) last = some sp ∧ gap sp = true := by
    rw [e]
    unfold specS
    rw [c1, c2]
    dsimp only
    rw [if_pos rfl, if_pos rfl]
    refine ⟨_, rfl, ?_⟩
    obtain ⟨a, b⟩ := o.getD (none, none)
    show gap (maxO (maxO a (lowOf gLt 1)) (lowOf gGt 3), minO (minO b (highOf gLt 1)) (highOf gGt 3)) = true
    rw [h1, h2, h3, h4]
    cases a with
    | none =>
      cases b with
      | none => rfl
      | some b =>
        show decide ((if (0 : Int) < b then (0 : Int) else b) < 4) = true
        exact decide_eq_true (by split <;> omega)
    | some a =>
      cases b with
      | none =>
        show decide ((0 : Int) < (if (4 : Int) > a then (4 : Int) else a)) = true
        exact decide_eq_true (by split <;> omega)
      | some b =>
        show decide ((if (0 : Int) < b then (0 : Int) else b) < (if (4 : Int) > a then (4 : Int) else a)) = true
        exact decide_eq_true (by split <;> split <;> omega)
  rw [← look_found] at hs
  have m : (last, sp) ∈ foundL sT (parts (wholeT last done)) := by
    generalize foundL sT (parts (wholeT last done)) = fs at hs
    induction fs with
    | nil => cases hs
    | cons q r ih =>
      obtain ⟨g, x⟩ := q
      by_cases z : last = g
      · subst z
        simp [List.lookup] at hs
        subst hs
        exact List.mem_cons_self
      · have zn : (last == g) = false := by simpa using z
        simp only [List.lookup, zn] at hs
        exact List.mem_cons_of_mem _ (ih hs)
  show (_ || (foundL sT (parts (wholeT last done))).any fun p => gap p.2) = true
  rw [show ((foundL sT (parts (wholeT last done))).any fun p => gap p.2) = true from List.any_eq_true.mpr ⟨_, m, hg⟩, Bool.or_true]
theorem con_u (last : Str) (done : List (Str × Int)) : ∀ p ∈ parts (wholeT last done), con (Str.ofString "u") p = none ∧ falseNum p = false := by
  have nu : ¬ sT = Str.ofString "u" := by decide +kernel
  have key : ∀ (op f : Str) (n : Int), con (Str.ofString "u") (.bin op (.field sT f) (.num n)) = none := fun op f n => by
    show (if sT = Str.ofString "u" then some (f, op, n) else none) = none
    rw [if_neg nu]
  intro p m
  rw [whole_is] at m
  rcases List.mem_append.mp m with m | m
  · obtain ⟨q, _, rfl⟩ := List.mem_map.mp m
    exact ⟨key _ _ _, rfl⟩
  · rcases List.mem_cons.mp m with rfl | m
    · exact ⟨key _ _ _, rfl⟩
    · obtain rfl := List.mem_singleton.mp m
      exact ⟨key _ _ _, rfl⟩
theorem none_u (last : Str) (done : List (Str × Int)) : Bad (Str.ofString "u") (parts (wholeT last done)) = false ∧ ∀ f, specF (Str.ofString "u") (parts (wholeT last done)) f = none := by
  have h := con_u last done
  generalize parts (wholeT last done) = ps at h
  have e : foundL (Str.ofString "u") ps = [] := by
    unfold foundL
    induction ps with
    | nil => rfl
    | cons p r ih =>
      rw [List.foldl_cons, (h p List.mem_cons_self).1]
      exact ih fun q m => h q (List.mem_cons_of_mem _ m)
  refine ⟨?_, fun f => by rw [← look_found, e]; rfl⟩
  show (ps.any falseNum || _) = false
  rw [e]
  show (ps.any falseNum || false) = false
  rw [Bool.or_false, List.any_eq_false]
  intro p m
  rw [(h p m).2]
  decide
/-! ### two dicts that say the same -/
theorem lookup_some_of_mem : ∀ {fs : List (Str × Span)} {f : Str}, f ∈ fs.map (·.1) → ∃ s, fs.lookup f = some s
  | [], _, h => by cases h
  | (g, y) :: r, f, h => by
    by_cases e : f = g
    · subst e
      exact ⟨y, by simp [List.lookup]⟩
    · have nb : (f == g) = false := by simpa using e
      rw [show List.lookup f ((g, y) :: r) = List.lookup f r by simp [List.lookup, nb]]
      rw [List.map_cons, List.mem_cons] at h
      exact lookup_some_of_mem (h.resolve_left e)
theorem mem_of_lookup : ∀ {fs : List (Str × Span)} {f : Str} {s : Span}, fs.lookup f = some s → f ∈ fs.map (·.1)
  | [], _, _, h => by cases h
  | (g, y) :: r, f, s, h => by
    by_cases e : f = g
    · subst e
      exact List.mem_cons_self
    · have nb : (f == g) = false := by simpa using e
      rw [show List.lookup f ((g, y) :: r) = List.lookup f r by simp [List.lookup, nb]] at h
      exact List.mem_cons_of_mem _ (mem_of_lookup h)
theorem nodup_len {α : Type} [DecidableEq α] : ∀ {l m : List α}, l.Nodup → (∀ x ∈ l, x ∈ m) → l.length ≤ m.length
  | [], _, _, _ => Nat.zero_le _
  | a :: l, m, n, h => by
    rw [List.nodup_cons] at n
    have ih := nodup_len (l := l) (m := m.erase a) n.2 fun x hx => by
      have : x ≠ a := fun e => n.1 (e ▸ hx)
      exact (List.mem_erase_of_ne this).mpr (h x (List.mem_cons_of_mem _ hx))
    have ha : a ∈ m := h a List.mem_cons_self
    have pos : 0 < m.length := List.length_pos_of_mem ha
    rw [List.length_erase_of_mem ha] at ih
    rw [List.length_cons]
    omega
theorem oV_dp {K : PySem.W.Frag} {H : Hp} (o : Option Int) : ∃ d, Dp K H (oV o) d ∧ PyData.canLay0 d = true ∧ PyData.depth d = 0 ∧ PyData.eqv d d = true := by
  cases o with
  | none => exact ⟨.none, .non, by simp [PyData.canLay0], by simp [PyData.depth], by simp [PyData.eqv]⟩
  | some i => exact ⟨.int i, .int i, by simp [PyData.canLay0], by simp [PyData.depth], by simp [PyData.eqv]⟩
theorem alike_bd {K : PySem.W.Frag} {H : Hp} {v u : V} {s : Span} (h1 : BdR K H v s) (h2 : BdR K H u s) : AlikeV K H v u := by
  obtain ⟨t, rfl, ht⟩ := h1
  obtain ⟨t', rfl, ht'⟩ := h2
  obtain ⟨d, a1, a2, a3, a4⟩ := oV_dp (K := K) (H := H) s.1
  obtain ⟨e, b1, b2, b3, b4⟩ := oV_dp (K := K) (H := H) s.2
  have sh : SeqAt.shaped (.tuple [d, e]) = true := shaped_of (by simp [PyData.canLay0, PyData.canLayAll0, a2, b2]) (by simp only [PyData.depth, PyData.depthAll]; omega)
  exact ⟨_, _, .tup ht (.cons a1 (.cons b1 .nil)), .tup ht' (.cons a1 (.cons b1 .nil)), sh, sh, by simp [PyData.eqv, PyData.eqvAll, a4, b4]⟩
theorem same_dicts {K : PySem.W.Frag} {H : Hp} {kvs ls : List (Key × V)} {bs cs : List (Str × Span)} (p : Paired (PR (BdR K) H) kvs bs) (q : Paired (PR (BdR K) H) ls cs) (nb : (bs.map (·.1)).Nodup) (nc : (cs.map (·.1)).Nodup) (e : ∀ f, bs.lookup f = cs.lookup f) :
    kvs.length = ls.length ∧ ∀ x ∈ kvs, ∃ u, valV ls x.1 = some u ∧ AlikeV K H x.2 u := by
  constructor
  · rw [pr_len p, pr_len q]
    have h1 : (bs.map (·.1)).length ≤ (cs.map (·.1)).length := nodup_len nb fun f m => by
      obtain ⟨s, hs⟩ := lookup_some_of_mem m
      rw [e] at hs
      exact mem_of_lookup hs
    have h2 : (cs.map (·.1)).length ≤ (bs.map (·.1)).length := nodup_len nc fun f m => by
      obtain ⟨s, hs⟩ := lookup_some_of_mem m
      rw [← e] at hs
      exact mem_of_lookup hs
    rw [List.length_map, List.length_map] at h1 h2
    omega
  · intro x m
    obtain ⟨i, hi⟩ := List.mem_iff_getElem?.mp m
    obtain ⟨k, v⟩ := x
    obtain ⟨⟨g, s⟩, hg, rfl, hR⟩ := pr_at p hi
    have lk := look_nodup nb hg
    rw [e] at lk
    rcases pr_look g q with ⟨e1, _⟩ | ⟨s', u, e1, e2, hR'⟩
    · rw [lk] at e1; cases e1
    · obtain rfl : s = s' := by rw [lk] at e1; exact Option.some.inj e1
      exact ⟨u, e2, alike_bd hR hR'⟩
theorem BndAt.keep {K : PySem.W.Frag} {H H' : Hp} {d : Addr} {bs : List (Str × Span)} (k : KeepN H H') (h : BndAt K H d bs) : BndAt K H' d bs := by
  obtain ⟨kvs, hd, p⟩ := h
  exact ⟨kvs, k d _ (fun _ e => nomatch e) hd, pr_mono (fun v x ⟨t, e, q⟩ => ⟨t, e, k.t q⟩) p⟩
/-! ### the shapes' names -/
theorem shapes_ok {sh : List (Str × List Str)} (I : IsShapes sh) {ts : List Str} (h : ∀ t ∈ ts, t ∈ sh.map (·.1)) : (∀ t ∈ ts, ∃ fs, sh.lookup t = some fs ∧ fs.length ≤ 4) ∧ FlOk (flOf sh ts) := by
  have look : ∀ t ∈ sh.map (·.1), ∃ fs, sh.lookup t = some fs ∧ (t, fs) ∈ sh := by
    clear h I
    induction sh with
    | nil => intro t m; cases m
    | cons q r ih =>
      obtain ⟨g, x⟩ := q
      intro t m
      by_cases e : t = g
      · subst e
        exact ⟨x, by simp [List.lookup], List.mem_cons_self⟩
      · have nb : (t == g) = false := by simpa using e
        rw [List.map_cons, List.mem_cons] at m
        obtain ⟨fs, h1, h2⟩ := ih t (m.resolve_left e)
        exact ⟨fs, by simp [List.lookup, nb, h1], List.mem_cons_of_mem _ h2⟩
  have okF : ∀ x ∈ flds, PyData.strOk x = true := by decide +kernel
  have okT : ∀ x ∈ tabs, PyData.strOk x = true := by decide +kernel
  constructor
  · intro t m
    obtain ⟨fs, h1, h2⟩ := look t (h t m)
    obtain ⟨k, k1, k4, e⟩ := I.fs _ h2
    refine ⟨fs, h1, ?_⟩
    have e : fs = flds.take k := e
    rw [e, List.length_take]
    exact Nat.le_trans (Nat.min_le_left _ _) k4
  · intro q m
    unfold flOf at m
    rw [List.mem_flatMap] at m
    obtain ⟨t, mt, m2⟩ := m
    obtain ⟨fs, h1, h2⟩ := look t (h t mt)
    rw [h1] at m2
    obtain ⟨f, mf, rfl⟩ := List.mem_map.mp m2
    obtain ⟨k, k1, k4, e⟩ := I.fs _ h2
    have e : fs = flds.take k := e
    have mf : f ∈ fs := mf
    rw [e] at mf
    have nt : t ∈ tabs := by
      have := h t mt
      rw [I.names] at this
      exact List.mem_of_mem_take this
    exact ⟨okT t nt, okF f (List.mem_of_mem_take mf)⟩
end K04

namespace K04
open PySem L2

/-- a condition that is drawn, or none -/
structure Drawn (K : PySem.W.Frag) (H : Hp) (v : V) (c : Option Tr) (n : Nat) : Prop where
  at_ : CondAt K H v c
  cd : CdO c
  ct : CdT (partsO c)
  dp : depO c ≤ n
theorem Drawn.keep {K : PySem.W.Frag} {H H' : Hp} {v : V} {c : Option Tr} {n : Nat} (k : KeepN H H') (h : Drawn K H v c n) : Drawn K H' v c n := ⟨h.at_.keep k, h.cd, h.ct, h.dp⟩
theorem Drawn.of {K : PySem.W.Frag} {H : Hp} {v : V} {t : Tr} {fl : List (Str × Str)} {n : Nat} (ok : FlOk fl) (h : TrAt K H v t) (i : IsCd fl t) (d : t.depth ≤ n) (d2 : n ≤ 20) : Drawn K H v (some t) n := ⟨h, Cd.of ok i, CdT.of ok i (Nat.le_trans d d2), d⟩
theorem Drawn.join {K : PySem.W.Frag} {H : Hp} {v x : V} {t : Tr} {c : Tr} {n m : Nat} {p : Addr} (h1 : Drawn K H x (some t) m) (h2 : Drawn K H v (some c) n) (hm : m ≤ n) (hp : SqT K H p [.str sAnd, x, v]) : Drawn K H (.ref p) (some (.bin sAnd t c)) (n + 1) :=
  ⟨⟨p, x, v, rfl, hp, h1.at_, h2.at_⟩, .join (by decide +kernel) h1.cd h2.cd, by
    show CdT (parts (.bin sAnd t c))
    rw [parts_and]
    intro q m
    rcases List.mem_append.mp m with m | m
    · exact h1.ct q m
    · exact h2.ct q m, by
    have a := h1.dp
    have b := h2.dp
    have a : t.depth ≤ m := a
    have b : c.depth ≤ n := b
    show max t.depth c.depth + 1 ≤ n + 1
    omega⟩
def tNext9 (n : Int) : TE := tCall spNext [] E0 (tCons (tVar 1) (tCons (tC (.int n)) tNil))
def tDraw (K : PySem.W.Frag) (n : Int) : TE := tCall (spCond K 5) [] E0 (tCons (tVar 1) (tCons (tVar 2) (tCons (tC (.int n)) tNil)))
def tFirst (K : PySem.W.Frag) : TE := tIf (tTest (tOp (rI0 fun i j => V.bl (decide (j < i))) (tNext9 9) (tC (.int 0)))) (tDraw K 4) (tC .non)
def tMore (K : PySem.W.Frag) : TS := tIfS (tTest (tOp rEq (tNext9 2) (tC (.int 0))))
  (tFor (iRng1 (tCons (tNext9 4) tNil)) (gName 8) (tAsg (tIf (tTest (tOp (fun x y H Q => y = V.non ∧ Q (V.bl !decide (x = V.non)) H) (tVar 7) (tC .non))) (tTup (tCons (tC (.str sAnd)) (tCons (tDraw K 0) (tCons (tVar 7) tNil)))) (tDraw K 0)) (gName 7))) tNext
section
variable {P : Program} {w : World} {K : PySem.W.Frag} {mg : Str → Option Value} {base : Heap}
theorem first_run {σ : L2.St} {H : Hp} {Q : VK} {a b l : Addr} {fl : List (Str × Str)} (h1 : σ[1]? = some (some (.ref a))) (h2 : σ[2]? = some (some (.ref l))) (B : HAt H a b) (Fl : FlAt K H l fl) (na : l ≠ a) (nb : l ≠ b) (few : fl.length ≤ 100)
    (k : ∀ (v : V) (c : Option Tr) (H' : Hp), HAt H' a b → Keep a b H H' → Drawn K H' v c 6 → Q v H') : tFirst K σ H Q := by
  have ok : FlOk fl := by obtain ⟨_, _, _, ok⟩ := Fl; exact ok
  refine ⟨_, h1, a, b, 9, rfl, by decide, by decide, B, fun r H1 r0 r9 B1 kp1 => ⟨_, _, rfl, rfl, _, rfl, ?_⟩⟩
  refine ite2 (fun _ => ?_) (fun _ => ?_)
  · refine ⟨_, h1, _, h2, a, b, l, fl, 4, rfl, by decide, by decide, B1, Fl.keep B kp1 na nb, na, nb, few, fun v t H2 B2 kp2 T2 I2 d2 => ?_⟩
    exact k v (some t) H2 B2 (kp1.trans kp2) (Drawn.of ok T2 I2 d2 (by decide))
  · exact k .non none H1 B1 kp1 ⟨rfl, trivial, (fun p m => by cases m), Nat.zero_le _⟩
theorem more_run {D : Ends} {v0 v3 v4 v5 v6 v8 v9 v10 v11 : Option V} {H : Hp} {a b l : Addr} {fl : List (Str × Str)} {v : V} {c : Option Tr} (B : HAt H a b) (Fl : FlAt K H l fl) (na : l ≠ a) (nb : l ≠ b) (few : fl.length ≤ 100) (dr : Drawn K H v c 6)
    (k : ∀ (v : V) (c : Option Tr) (v8 : Option V) (H' : Hp), HAt H' a b → Keep a b H H' → Drawn K H' v c 10 → D.nx [v0, some (.ref a), some (.ref l), v3, v4, v5, v6, some v, v8, v9, v10, v11] H') :
    tMore K D [v0, some (.ref a), some (.ref l), v3, v4, v5, v6, some v, v8, v9, v10, v11] H := by
  have ok : FlOk fl := by obtain ⟨_, _, _, ok⟩ := Fl; exact ok
  refine ⟨_, rfl, a, b, 2, rfl, by decide, by decide, B, fun r H1 r0 r2 B1 kp1 => ⟨rfl, _, rfl, ?_⟩⟩
  have dr1 := dr.keep (kp1.n B)
  refine ite2 (fun _ => ?_) (fun _ => k v c v8 H1 B1 kp1 ⟨dr1.at_, dr1.cd, dr1.ct, Nat.le_trans dr1.dp (by decide)⟩)
  refine ⟨_, rfl, a, b, 4, rfl, by decide, by decide, B1, fun m H2 m0 m4 B2 kp2 => ?_⟩
  refine ⟨m, rfl, by omega, by omega, for_range (lo := 0) (n := m.toNat) (fun i σ H' => ∃ v c v8, σ = [v0, some (.ref a), some (.ref l), v3, v4, v5, v6, some v, v8, v9, v10, v11] ∧ HAt H' a b ∧ Keep a b H H' ∧ Drawn K H' v c (6 + i))
    ⟨v, c, v8, rfl, B2, kp1.trans kp2, dr1.keep (kp2.n B1)⟩ ?_ ?_⟩
  · rintro i σ H3 hi ⟨v, c, v8, rfl, B3, kp3, dr3⟩
    have Fl3 := Fl.keep B kp3 na nb
    refine ⟨_, rfl, rfl, _, rfl, ?_⟩
    cases c with
    | none =>
      obtain rfl : v = .non := dr3.at_
      refine iteF ⟨_, rfl, _, rfl, a, b, l, fl, 0, rfl, by decide, by decide, B3, Fl3, na, nb, few, fun x t H4 B4 kp4 T4 I4 d4 => ?_⟩
      exact ⟨x, some t, _, rfl, B4, kp3.trans kp4, Drawn.of ok T4 I4 (Nat.le_trans d4 (show 2 ≤ 6 + (i + 1) by omega)) (by omega)⟩
    | some c =>
      obtain ⟨pv, rfl⟩ : ∃ pv, v = .ref pv := by
        have h := dr3.at_
        cases c with
        | num _ => exact ⟨h.choose, h.choose_spec.1⟩
        | field _ _ => exact ⟨h.choose, h.choose_spec.1⟩
        | bin _ _ _ => obtain ⟨p, x, y, e, _⟩ := h; exact ⟨p, e⟩
        | not _ => obtain ⟨p, x, e, _⟩ := h; exact ⟨p, e⟩
      refine iteT ⟨_, rfl, _, rfl, a, b, l, fl, 0, rfl, by decide, by decide, B3, Fl3, na, nb, few, fun x t H4 B4 kp4 T4 I4 d4 => ⟨_, rfl, (by show 3 ≤ sizeLine; decide), fun p hp => ?_⟩⟩
      have s5 := Same.new (o := .tup [.str sAnd, x, .ref pv]) hp
      have k35 := (kp4.n B3).trans (KeepN.of s5)
      refine ⟨.ref p, some (.bin sAnd t c), _, rfl, B4.same s5, kp3.trans (kp4.trans (Keep.same s5)), ?_⟩
      have j := Drawn.join (m := 2) ((Drawn.of ok T4 I4 d4 (by decide)).keep (KeepN.of s5)) (dr3.keep k35) (by omega) (SqT.of upd_same)
      exact j
  · rintro σ H3 ⟨v, c, v8, rfl, B3, kp3, dr3⟩
    exact k v c v8 H3 B3 kp3 ⟨dr3.at_, dr3.cd, dr3.ct, Nat.le_trans dr3.dp (by omega)⟩
theorem scLaw : FnScope ["_law_script", "_law_h", "_law_fields", "_law_whole", "_law_field", "_law_turn", "_law_shapes_here", "_law_cond_here", "_law_k", "_law_table", "_law_found", "_law_due_here"] ["_law_script"] (defScope slaw) := ⟨rfl, rfl, rfl, by decide +kernel, rfl, by decide +kernel, by decide +kernel⟩
theorem ok_law {f f1 f2 f3 f4 f5 f6 f7 : Addr} {fd fd1 fd2 fd3 fd4 fd5 fd6 fd7 : FuncData} (F : Fun K "law" "law" slaw f fd) (T : TxtL mg)
    (Cmix : Cal P w K mg base 19 "_law_mix" ["_law_script", "_law_seed"] (spMix K) f1 fd1) (Cnext : Cal P w K mg base 19 "_law_next" ["_law_h", "_law_many"] spNext f2 fd2)
    (Cshapes : Cal P w K mg base 19 "_law_shapes" ["_law_h", "_law_many"] (spShapes K) f3 fd3) (Csome : Cal P w K mg base 19 "_law_some" ["_law_h", "_law_shapes_here", "_law_tables"] (spSome K) f4 fd4)
    (Ccond : Cal P w K mg base 19 "_law_cond" ["_law_h", "_law_fields", "_law_deep"] (spCond K 5) f5 fd5) (Cdue : Cal P w K mg base 19 "_law_due" ["_law_cond_here", "_law_table"] (spBnd K) f6 fd6)
    (Cbounds : Cal P w K mg base 19 "bounds" ["cond", "table"] (spBnd K) f7 fd7) : FnOk P w K mg base CX0 20 f fd ["_law_script"] (spLaw K) := by
  refine F.ok scLaw (fun vs H Q E h => ?_) (fun cdv A outer s H vs Q E hr h => ?_)
  · obtain ⟨a, ns, rfl, _⟩ := h
    rfl
  · obtain ⟨l0, ns0, rfl, hS, hl, k⟩ := h
    have hr1 : Room 19 _ := hr
    refine ⟨_, (pss_cons (ps_set (i := 1) scLaw.nd rfl (Or.inl rfl) (pe_call Cmix.G hr1 rfl Cmix.g Cmix.kp Cmix.b .nil pass0 (pa_cons (pv 0) (pa_cons pe_int pa_nil))))
      (pss_cons (ps_set (i := 2) scLaw.nd rfl (Or.inl rfl) (pe_slice (RK.slL (K := K)) (pe_lst (pa_cons pe_str (pa_cons pe_str (pa_cons pe_str (pa_cons pe_str pa_nil))))) po_none (po_some (pe_op op_add pe_int (pe_call Cnext.G hr1 rfl Cnext.g Cnext.kp Cnext.b .nil pass0 (pa_cons (pv 1) (pa_cons pe_int pa_nil)))))))
      (pss_cons (ps_set (i := 3) scLaw.nd rfl (Or.inl rfl) (pe_tup (pa_cons pe_str (pa_cons (pe_tup (pa_cons pe_str (pa_cons (pe_tup (pa_cons pe_str (pa_cons pe_str (pa_cons (pe_ix (RK.ixL (K := K)) (pv 2) (pe_un un_neg pe_int) (fun _ _ => rfl)) pa_nil)))) (pa_cons (pe_tup (pa_cons pe_str (pa_cons pe_int pa_nil))) pa_nil)))) (pa_cons (pe_tup (pa_cons pe_str (pa_cons (pe_tup (pa_cons pe_str (pa_cons pe_str (pa_cons (pe_ix (RK.ixL (K := K)) (pv 2) (pe_un un_neg pe_int) (fun _ _ => rfl)) pa_nil)))) (pa_cons (pe_tup (pa_cons pe_str (pa_cons pe_int pa_nil))) pa_nil)))) pa_nil)))))
      (pss_cons (ps_for PassesOwn.never rfl (RK.piL (K := K) (pe_slice (RK.slL (K := K)) (pv 2) po_none (po_some (pe_un un_neg pe_int)))) (pg_name (i := 4) scLaw.nd rfl (Or.inl rfl))
        (pss_one (ps_set (i := 3) scLaw.nd rfl (Or.inl rfl) (pe_tup (pa_cons pe_str (pa_cons (pe_tup (pa_cons pe_str (pa_cons (pe_tup (pa_cons pe_str (pa_cons pe_str (pa_cons (pv 4) pa_nil)))) (pa_cons (pe_tup (pa_cons pe_str (pa_cons (pe_call Cnext.G hr1 rfl Cnext.g Cnext.kp Cnext.b .nil pass0 (pa_cons (pv 1) (pa_cons pe_int pa_nil))) pa_nil))) pa_nil)))) (pa_cons (pv 3) pa_nil)))))))
      (pss_cons (ps_if (PW.pt (pw_or (pt_cmpR op_notN (pe_call Cbounds.G hr1 rfl Cbounds.g Cbounds.kp Cbounds.b .nil pass0 (pa_cons (pv 3) (pa_cons pe_str pa_nil))) pe_non (nomark _)) (pw_or1 (pt_cmpR (op_neSame (K := K) (room66 hr)) (pe_call Cbounds.G hr1 rfl Cbounds.g Cbounds.kp Cbounds.b .nil pass0 (pa_cons (pv 3) (pa_cons pe_str pa_nil))) pe_dnewK (nomark _))))) (pss_one (ps_ret pe_bl)) pss_nil)
      (pss_cons (ps_for PassesOwn.never rfl (pi_range1 rfl T.range (pa_cons pe_int pa_nil)) (pg_name (i := 5) scLaw.nd rfl (Or.inl rfl))
        (pss_cons (ps_set (i := 6) scLaw.nd rfl (Or.inl rfl) (pe_call Cshapes.G hr1 rfl Cshapes.g Cshapes.kp Cshapes.b .nil pass0 (pa_cons (pv 1) (pa_cons pe_int pa_nil))))
        (pss_cons (ps_set (i := 2) scLaw.nd rfl (Or.inl rfl) (pe_call Csome.G hr1 rfl Csome.g Csome.kp Csome.b .nil pass0 (pa_cons (pv 1) (pa_cons (pv 6) (pa_cons (pe_callB (call_sortedD rfl) (by rfl) T.sorted (by decide +kernel) (pa_cons (pv 6) pa_nil)) pa_nil)))))
        (pss_cons (ps_set (i := 7) scLaw.nd rfl (Or.inl rfl) (pe_ifExp (pt_cmpR op_gt (pe_call Cnext.G hr1 rfl Cnext.g Cnext.kp Cnext.b .nil pass0 (pa_cons (pv 1) (pa_cons pe_int pa_nil))) pe_int (nomark _)) (pe_call Ccond.G hr1 rfl Ccond.g Ccond.kp Ccond.b .nil pass0 (pa_cons (pv 1) (pa_cons (pv 2) (pa_cons pe_int pa_nil)))) pe_non))
        (pss_cons (ps_if (pt_cmpR op_eq (pe_call Cnext.G hr1 rfl Cnext.g Cnext.kp Cnext.b .nil pass0 (pa_cons (pv 1) (pa_cons pe_int pa_nil))) pe_int (nomark _)) (pss_one (ps_for PassesOwn.never rfl (pi_range1 rfl T.range (pa_cons (pe_call Cnext.G hr1 rfl Cnext.g Cnext.kp Cnext.b .nil pass0 (pa_cons (pv 1) (pa_cons pe_int pa_nil))) pa_nil)) (pg_name (i := 8) scLaw.nd rfl (Or.inl rfl))
            (pss_one (ps_set (i := 7) scLaw.nd rfl (Or.inl rfl) (pe_ifExp (pt_cmpR op_notN (pv 7) pe_non (nomark _)) (pe_tup (pa_cons pe_str (pa_cons (pe_call Ccond.G hr1 rfl Ccond.g Ccond.kp Ccond.b .nil pass0 (pa_cons (pv 1) (pa_cons (pv 2) (pa_cons pe_int pa_nil)))) (pa_cons (pv 7) pa_nil)))) (pe_call Ccond.G hr1 rfl Ccond.g Ccond.kp Ccond.b .nil pass0 (pa_cons (pv 1) (pa_cons (pv 2) (pa_cons pe_int pa_nil))))))))) pss_nil)
        (pss_one (ps_for PassesOwn.never rfl (RK.piL (K := K) (pe_op op_cat (pe_callB (call_sortedD rfl) (by rfl) T.sorted (by decide +kernel) (pa_cons (pv 6) pa_nil)) (pe_lst (pa_cons pe_str pa_nil)))) (pg_name (i := 9) scLaw.nd rfl (Or.inl rfl))
          (pss_cons (ps_par (i := 10) (j := 11) (by rfl) scLaw.nd rfl rfl (by decide) rfl rfl (pa_cons (pe_call Cbounds.G hr1 rfl Cbounds.g Cbounds.kp Cbounds.b .nil pass0 (pa_cons (pv 7) (pa_cons (pv 9) pa_nil))) (pa_cons (pe_call Cdue.G hr1 rfl Cdue.g Cdue.kp Cdue.b .nil pass0 (pa_cons (pv 7) (pa_cons (pv 9) pa_nil))) pa_nil)) (by rfl))
          (pss_one (ps_if (PW.pt (pw_or (pt_cmpR (op_neSame (K := K) (room66 hr)) (pv 10) (pv 11) (nomark _)) (pw_or1 (pt_cmpR op_ne (pe_callB (RK.isi (K := K)) (by rfl) T.isinstance (by decide +kernel) (pa_cons (pv 10) (pa_cons (pe_bltn (v := .ty "dict") (u := .type "dict") (by rfl) T.dict (by decide +kernel) rfl) pa_nil))) (pe_callB (RK.isi (K := K)) (by rfl) T.isinstance (by decide +kernel) (pa_cons (pv 11) (pa_cons (pe_bltn (v := .ty "dict") (u := .type "dict") (by rfl) T.dict (by decide +kernel) rfl) pa_nil))) (nomark _))))) (pss_one (ps_ret pe_bl)) pss_nil))))))))))
      (pss_one (ps_ret pe_bl)))))))), ?_⟩
    refine ⟨_, rfl, l0, ns0, 11, rfl, hS, hl, fun a b H0 _ _ B0 _ => ?_⟩
    refine ⟨(by show 4 ≤ sizeLine; decide), fun p hp => ?_⟩
    have np := B0.ne hp
    refine ⟨_, rfl, a, b, 2, rfl, by decide, by decide, B0.same (Same.new hp), fun r H1 r0 r2 B1 kp1 => ⟨_, _, rfl, rfl, _, rfl, ?_⟩⟩
    have hp1 := kp1 p _ np.1 np.2 (upd_same (H := H0) (a := p) (o := .lst (flds.map V.str)))
    refine ⟨p, flds.map V.str, rfl, SqL.of hp1, fun pf hpf => ?_⟩
    obtain ⟨init, last, hcut, hlast, hinit, okI, okL, few⟩ : ∃ (init : List Str) (last : Str), cutV (flds.map V.str) none (some (3 + r)) = (init ++ [last]).map V.str ∧ atI ((init ++ [last]).map V.str) (-1) = some (.str last) ∧ cutV ((init ++ [last]).map V.str) none (some (-1)) = init.map V.str ∧
        (∀ x ∈ init, PyData.strOk x = true) ∧ PyData.strOk last = true ∧ init.length ≤ 3 := by
      have h : r = 0 ∨ r = 1 := by omega
      rcases h with rfl | rfl
      · exact ⟨[Str.ofString "k", Str.ofString "x"], Str.ofString "y", rfl, rfl, rfl, by decide +kernel, by decide +kernel, by decide⟩
      · exact ⟨[Str.ofString "k", Str.ofString "x", Str.ofString "y"], Str.ofString "z", rfl, rfl, rfl, by decide +kernel, by decide +kernel, by decide⟩
    rw [hcut]
    have npf := B1.ne hpf
    generalize hH2 : upd H1 pf (.lst ((init ++ [last]).map V.str)) = H2
    have B2 : HAt H2 a b := by rw [← hH2]; exact B1.same (Same.new hpf)
    have hf2 : H2 pf = some (.lst ((init ++ [last]).map V.str)) := by rw [← hH2]; exact upd_same
    refine ⟨_, rfl, 1, rfl, pf, _, -1, _, rfl, rfl, SqL.of hf2, hlast, (by show 3 ≤ sizeLine; decide), fun q1 hq1 => ⟨(by show 2 ≤ sizeLine; decide), fun q2 hq2 => ⟨(by show 3 ≤ sizeLine; decide), fun q3 hq3 => ?_⟩⟩⟩
    have t1 := Same.new (o := .tup [.str sField, .str sT, .str last]) hq1
    have t2 := Same.new (o := .tup [.str sNum, .int 1]) hq2
    have t3 := Same.new (o := .tup [.str gLt, .ref q1, .ref q2]) hq3
    have t13 := t1.trans (t2.trans t3)
    refine ⟨_, rfl, 1, rfl, pf, _, -1, _, rfl, rfl, SqL.of (t13 _ _ hf2), hlast, (by show 3 ≤ sizeLine; decide), fun q4 hq4 => ⟨(by show 2 ≤ sizeLine; decide), fun q5 hq5 => ⟨(by show 3 ≤ sizeLine; decide), fun q6 hq6 => ⟨(by show 3 ≤ sizeLine; decide), fun q7 hq7 => ?_⟩⟩⟩⟩
    have t4 := Same.new (o := .tup [.str sField, .str sT, .str last]) hq4
    have t5 := Same.new (o := .tup [.str sNum, .int 3]) hq5
    have t6 := Same.new (o := .tup [.str gGt, .ref q4, .ref q5]) hq6
    have t7 := Same.new (o := .tup [.str sAnd, .ref q3, .ref q6]) hq7
    have t17 := t13.trans (t4.trans (t5.trans (t6.trans t7)))
    have base0 : TrAt K _ (.ref q7) (wholeT last []) := ⟨q7, .ref q3, .ref q6, rfl, SqT.of upd_same,
      ⟨q3, .ref q1, .ref q2, rfl, SqT.of ((t4.trans (t5.trans (t6.trans t7))) _ _ upd_same), ⟨q1, rfl, SqT.of ((t2.trans (t3.trans (t4.trans (t5.trans (t6.trans t7))))) _ _ upd_same)⟩, ⟨q2, rfl, SqT.of ((t3.trans (t4.trans (t5.trans (t6.trans t7)))) _ _ upd_same)⟩⟩,
      ⟨q6, .ref q4, .ref q5, rfl, SqT.of (t7 _ _ upd_same), ⟨q4, rfl, SqT.of ((t5.trans (t6.trans t7)) _ _ upd_same)⟩, ⟨q5, rfl, SqT.of ((t6.trans t7) _ _ upd_same)⟩⟩⟩
    have B7 := B2.same t17
    have hf7 := t17 _ _ hf2
    refine ⟨_, rfl, 1, rfl, -1, rfl, pf, _, rfl, SqL.of hf7, fun pi hpi => ?_⟩
    rw [hinit]
    have npi := B7.ne hpi
    have t8 := Same.new (o := .lst (init.map V.str)) hpi
    refine ⟨pi, rfl, ⟨_, SqL.of upd_same⟩, for_list (K := K) (a := pi) (xs := init.map V.str) (fun i σ H' => ∃ v4 vw done, σ = [some (.ref l0), some (.ref a), some (.ref pf), some vw, v4, none, none, none, none, none, none, none] ∧ HAt H' a b ∧ H' pi = some (.lst (init.map V.str)) ∧ TrAt K H' vw (wholeT last done) ∧ done.length = i ∧ (∀ q ∈ done, PyData.strOk q.1 = true ∧ -1000 ≤ q.2 ∧ q.2 ≤ 1000))
      ⟨none, _, [], rfl, B7.same t8, upd_same, base0.keep (KeepN.of t8), rfl, fun q m => by cases m⟩ (fun i σ H' _ ⟨_, _, _, _, _, h, _⟩ => SqL.of h) ?_ ?_⟩
    · rintro i y σ H8 hi ⟨v4, vw, done, rfl, B8, hi8, T8, ld, okD⟩
      have hi1 : i < init.length := by have q := (List.getElem?_eq_some_iff.mp hi).1; rw [List.length_map] at q; exact q
      obtain rfl : y = .str init[i] := by rw [List.getElem?_map, List.getElem?_eq_getElem hi1] at hi; exact (Option.some.inj hi).symm
      refine ⟨_, rfl, (by show 3 ≤ sizeLine; decide), fun q1 hq1 => ?_⟩
      have u1 := Same.new (o := .tup [.str sField, .str sT, .str init[i]]) hq1
      refine ⟨_, rfl, a, b, 9, rfl, by decide, by decide, B8.same u1, fun n H9 n0 n9 B9 kp9 => ⟨(by show 2 ≤ sizeLine; decide), fun q2 hq2 => ⟨(by show 3 ≤ sizeLine; decide), fun q3 hq3 => ⟨_, rfl, (by show 3 ≤ sizeLine; decide), fun q4 hq4 => ?_⟩⟩⟩⟩
      have k9 := kp9.n (B8.same u1)
      have u2 := Same.new (o := .tup [.str sNum, .int n]) hq2
      have u3 := Same.new (o := .tup [.str gGt, .ref q1, .ref q2]) hq3
      have u4 := Same.new (o := .tup [.str sAnd, .ref q3, vw]) hq4
      have u24 := u2.trans (u3.trans u4)
      refine ⟨_, _, done ++ [(init[i], n)], rfl, B9.same u24, u24 _ _ (kp9 pi _ (fun e => ?_) (fun e => ?_) (u1 _ _ hi8)), ?_, by rw [List.length_append, ld]; rfl, ?_⟩
      · exact npi.1 e
      · exact npi.2 e
      · show TrAt K _ (.ref q4) ((done ++ [(init[i], n)]).foldl (fun z q => .bin sAnd (gtT q) z) (baseT last))
        rw [List.foldl_append]
        exact ⟨q4, .ref q3, vw, rfl, SqT.of upd_same, ⟨q3, .ref q1, .ref q2, rfl, SqT.of (u4 _ _ upd_same), ⟨q1, rfl, (KeepN.of u24).t (k9.t (SqT.of upd_same))⟩, ⟨q2, rfl, SqT.of ((u3.trans u4) _ _ upd_same)⟩⟩, (((T8.keep (KeepN.of u1)).keep k9).keep (KeepN.of u24))⟩
      · intro q m
        rcases List.mem_append.mp m with m | m
        · exact okD q m
        · obtain rfl := List.mem_singleton.mp m
          exact ⟨okI _ (List.getElem_mem hi1), by show -1000 ≤ n; omega, by show n ≤ 1000; omega⟩
    · rintro σ H8 ⟨v4, vw, done, rfl, B8, _, T8, ld, okD⟩
      rw [List.length_map] at ld
      have cdW : CdO (some (wholeT last done)) := cd_whole last done _ (cd_base last okL) fun q m => okD q m
      have ctW : CdT (partsO (some (wholeT last done))) := ct_whole okL okD
      have dpW : depO (some (wholeT last done)) < 16 := by
        show (wholeT last done).depth < 16
        unfold wholeT
        rw [depth_whole done (baseT last) (Nat.succ_le_succ (Nat.zero_le _))]
        show 2 + done.length < 16
        omega
      obtain ⟨nbu, lku⟩ := none_u last done
      refine ⟨_, rfl, vw, some (wholeT last done), sT, rfl, T8, cdW, ctW, dpW, by decide +kernel, fun _ H9 s9 => ⟨rfl, _, rfl, iteF ?_⟩, fun nb => by rw [show partsO (some (wholeT last done)) = parts (wholeT last done) from rfl, bad_t] at nb; cases nb⟩
      refine ⟨_, rfl, vw, some (wholeT last done), Str.ofString "u", rfl, T8.keep (KeepN.of s9), cdW, ctW, dpW, by decide +kernel, (fun nb => by rw [show partsO (some (wholeT last done)) = parts (wholeT last done) from rfl, nbu] at nb; cases nb), fun _ d H10 bs s10 d0 BD nd lk => ?_⟩
      intro e he
      have s11 := Same.new (o := .dK []) he
      obtain ⟨kvs, hd, pr⟩ := BD
      have bs0 : bs = [] := by
        cases bs with
        | nil => rfl
        | cons q r =>
          obtain ⟨g, x⟩ := q
          have t := (lk g).trans (lku g)
          simp [List.lookup] at t
      subst bs0
      cases pr
      refine .inr ⟨d, e, [], [], rfl, rfl, s11 _ _ hd, upd_same, rfl, (fun x m => by cases m), _, rfl, iteF ?_⟩
      have B11 := B8.same (s9.trans (s10.trans s11))
      refine ⟨8, rfl, by decide, by decide, for_range (lo := 0) (n := 8) (fun i σ H' => ∃ v2 v3 v4 v5 v6 v7 v8 v9 v10 v11, σ = [some (.ref l0), some (.ref a), v2, v3, v4, v5, v6, v7, v8, v9, v10, v11] ∧ HAt H' a b)
        ⟨_, _, _, _, _, _, _, _, _, _, rfl, B11⟩ ?_ ?_⟩
      · rintro i σ Ha hi ⟨v2, v3, v4, v5, v6, v7, v8, v9, v10, v11, rfl, Ba⟩
        refine ⟨_, rfl, a, b, rfl, Ba, fun d Hb sh Bb kpb d0 Sb Ib lb => ?_⟩
        obtain ⟨kvs, hdb, prb⟩ := id Sb
        have names : ∀ {ys : List Str}, ys.Perm (sh.map (·.1)) → (∀ t ∈ ys, t ∈ sh.map (·.1)) ∧ ys.length ≤ 3 ∧ ∀ t ∈ ys, PyData.strOk t = true := fun {ys} perm => by
          refine ⟨fun t m => perm.mem_iff.mp m, ?_, fun t m => ?_⟩
          · rw [perm.length_eq, List.length_map]; exact Ib.few
          · have h1 := perm.mem_iff.mp m
            rw [Ib.names] at h1
            exact (by decide +kernel : ∀ x ∈ tabs, PyData.strOk x = true) t (List.mem_of_mem_take h1)
        have n64 : (sh.map (·.1)).length < 64 := by rw [List.length_map]; have := Ib.few; omega
        refine ⟨_, rfl, _, rfl, _, rfl, d, kvs, sh.map (·.1), rfl, Rd.of hdb, pr_keys prb, n64, fun ys p perm _ hp => ?_⟩
        obtain ⟨ny, ly, _⟩ := names perm
        have sp := Same.new (o := .lst (ys.map V.str)) hp
        have shok := shapes_ok Ib ny
        refine ⟨.ref a, d, p, sh, ys, rfl, Sb.keep (KeepN.of sp), SqL.of upd_same, shok.1, ly, shok.2, fun rr Hc sc rr0 Flc lc => ?_⟩
        have Bp := Bb.same sp
        have nrr := Bp.ne rr0
        have Bc := Bp.same sc
        have few100 : (flOf sh ys).length ≤ 100 := by omega
        refine sa1 (first_run (K := K) (by rfl) (by rfl) Bc Flc nrr.1 nrr.2 few100 fun v c Hd Bd kpd dr => ?_)
        have Fld := Flc.keep Bc kpd nrr.1 nrr.2
        refine more_run (K := K) Bd Fld nrr.1 nrr.2 few100 dr fun v c v8 He Be kpe dre => ?_
        have kn : KeepN Hb He := (KeepN.of (sp.trans sc)).trans ((kpd.n Bc).trans (kpe.n Bd))
        obtain ⟨kvs2, hd2, pr2⟩ := Sb.keep kn
        refine ⟨_, rfl, d, kvs2, sh.map (·.1), rfl, Rd.of hd2, pr_keys pr2, n64, fun zs p2 perm2 _ hp2 => ⟨(by show 1 ≤ sizeLine; decide), fun p3 hp3 => ?_⟩⟩
        obtain ⟨_, lz, okz⟩ := names perm2
        have w1 := Same.new (o := .lst (zs.map V.str)) hp2
        have w2 := Same.new (o := .lst [.str (Str.ofString "zz")]) hp3
        refine ⟨p2, p3, zs.map V.str, [.str (Str.ofString "zz")], rfl, rfl, w2 _ _ upd_same, upd_same, Nat.le_trans (show (zs.map V.str).length + 1 ≤ 4 by rw [List.length_map]; omega) (by decide), fun p4 hp4 => ?_⟩
        have w3 := Same.new (o := .lst (zs.map V.str ++ [.str (Str.ofString "zz")])) hp4
        have w13 := w1.trans (w2.trans w3)
        generalize hHf : upd (upd (upd He p2 (.lst (zs.map V.str))) p3 (.lst [.str (Str.ofString "zz")])) p4 (.lst (zs.map V.str ++ [.str (Str.ofString "zz")])) = Hf at w13
        have hp4f : Hf p4 = some (.lst (zs.map V.str ++ [.str (Str.ofString "zz")])) := by rw [← hHf]; exact upd_same
        have Bf := Be.same w13
        have drf := dre.keep (KeepN.of w13)
        refine ⟨p4, rfl, ⟨_, SqL.of hp4f⟩, for_list (K := K) (a := p4) (xs := zs.map V.str ++ [.str (Str.ofString "zz")]) (fun j σ H' => ∃ v9 v10 v11, σ = [some (.ref l0), some (.ref a), some (.ref rr), v3, v4, some (.int (0 + ((i : Nat) : Int))), some (.ref d), some v, v8, v9, v10, v11] ∧ Same Hf H')
          ⟨_, _, _, rfl, Same.refl Hf⟩ (fun j σ H' _ ⟨_, _, _, _, sm⟩ => SqL.of (sm _ _ hp4f)) ?_ ?_⟩
        · rintro j y σ Hg hj ⟨v9, v10, v11, rfl, sg⟩
          obtain ⟨tb, rfl, okt⟩ : ∃ tb, y = .str tb ∧ PyData.strOk tb = true := by
            have m := List.mem_of_getElem? hj
            rcases List.mem_append.mp m with m | m
            · obtain ⟨t, mt, rfl⟩ := List.mem_map.mp m
              exact ⟨t, rfl, okz t mt⟩
            · exact ⟨_, List.mem_singleton.mp m, by decide +kernel⟩
          have drg := drf.keep (KeepN.of sg)
          have dl : depO c < 16 := Nat.lt_of_le_of_lt drg.dp (by decide)
          have fin : ∀ (x y : V) (H' : Hp), Same Hf H' → ∃ v9 v10 v11, [some (V.ref l0), some (.ref a), some (.ref rr), v3, v4, some (.int (0 + ((i : Nat) : Int))), some (.ref d), some v, v8, some (.str tb), some x, some y] = [some (V.ref l0), some (.ref a), some (.ref rr), v3, v4, some (.int (0 + ((i : Nat) : Int))), some (.ref d), some v, v8, v9, v10, v11] ∧ Same Hf H' :=
            fun x y H' s => ⟨_, _, _, rfl, s⟩
          refine ⟨_, rfl, _, rfl, v, c, tb, rfl, drg.at_, drg.cd, drg.ct, dl, okt, fun bad H1 s1 => ?_, fun nb d1 H1 bs s1 d10 BD1 nd1 lk1 => ?_⟩
          · have dr1 := drg.keep (KeepN.of s1)
            refine ⟨_, rfl, _, rfl, v, c, tb, rfl, dr1.at_, dr1.cd, dr1.ct, dl, okt, fun _ H2 s2 => ⟨_, _, rfl, ?_⟩, fun nb => by rw [bad] at nb; cases nb⟩
            refine ⟨_, rfl, _, rfl, .inl ⟨rfl, rfl, _, rfl, iteF ?_⟩⟩
            have kn1 : PySem.W.kitOne K (.type "NoneType") (.type "dict") = some false := by first | rfl | decide +kernel
            refine ⟨_, rfl, _, _, _, _, false, rfl, .ty "dict", .base .non, kn1, _, rfl, _, _, _, _, false, rfl, .ty "dict", .base .non, kn1, rfl, _, rfl, iteF ?_⟩
            exact fin _ _ _ (sg.trans (s1.trans s2))
          · have dr1 := drg.keep (KeepN.of s1)
            refine ⟨_, rfl, _, rfl, v, c, tb, rfl, dr1.at_, dr1.cd, dr1.ct, dl, okt, (fun bad => by rw [nb] at bad; cases bad), fun _ d2 H2 cs s2 d20 BD2 nd2 lk2 => ⟨_, _, rfl, ?_⟩⟩
            obtain ⟨kv1, h1, q1⟩ := BD1.keep (KeepN.of s2)
            obtain ⟨kv2, h2, q2⟩ := BD2
            obtain ⟨el, al⟩ := same_dicts q1 q2 nd1 nd2 fun g => (lk1 g).trans (lk2 g).symm
            refine ⟨_, rfl, _, rfl, .inr ⟨d1, d2, kv1, kv2, rfl, rfl, h1, h2, el, al, _, rfl, iteF ?_⟩⟩
            have kd1 : PySem.W.kitOne K (.type "dict") (.type "dict") = some true := by
              unfold PySem.W.kitOne
              rw [if_pos (by decide)]
            refine ⟨_, rfl, _, _, _, _, true, rfl, .ty "dict", .base (.dK h1), kd1, _, rfl, _, _, _, _, true, rfl, .ty "dict", .base (.dK h2), kd1, rfl, _, rfl, iteF ?_⟩
            exact fin _ _ _ (sg.trans (s1.trans s2))
        · rintro σ Hg ⟨v9, v10, v11, rfl, sg⟩
          exact ⟨_, _, _, _, _, _, _, _, _, _, rfl, Bf.same sg⟩
      · rintro σ H' ⟨v2, v3, v4, v5, v6, v7, v8, v9, v10, v11, rfl, _⟩
        exact k H'
end
end K04

set_option maxRecDepth 100000
set_option maxHeartbeats 4000000
namespace K04
open PySem L2
/-! ### the program: bounds -/
structure TxtP (K : PySem.W.Frag) (w : World) (mg : Str → Option Value) (fc ft : Addr) : Prop where
  any : mg "any" = none
  max : mg "max" = none
  min : mg "min" = none
  comp : mg "COMPARISONS" = some (.ref fc)
  compT : ∀ H, SqT K H fc (signs.map V.str)
  turn : mg "TURNED" = some (.ref ft)
  turnD : ∀ op ∈ signs, KDct K w ft op (.str (flip op))
def KeepD (d : Addr) (H H' : Hp) : Prop := ∀ x o, x ≠ d → H x = some o → H' x = some o
theorem KeepD.trans {d : Addr} {H H1 H2 : Hp} (p : KeepD d H H1) (q : KeepD d H1 H2) : KeepD d H H2 := fun x o n h => q x o n (p x o n h)
theorem KeepD.of {d : Addr} {H H' : Hp} (s : Same H H') : KeepD d H H' := fun x o _ h => s x o h
theorem sqT_keepD {K : PySem.W.Frag} {H H' : Hp} {d t : Addr} {xs : List V} {kvs : List (Key × V)} (h : SqT K H t xs) (hd : H d = some (.dK kvs)) (q : KeepD d H H') : SqT K H' t xs := by
  rcases h with (h | ⟨o', h⟩) | h
  · exact .inl (.inl (q _ _ (fun z => by rw [z, hd] at h; cases h) h))
  · exact .inl (.inr ⟨o', q _ _ (fun z => by rw [z, hd] at h; cases h) h⟩)
  · exact .inr h
theorem bd_keepD {K : PySem.W.Frag} {H H' : Hp} {d : Addr} {ks : List (Key × V)} (hd : H d = some (.dK ks)) (q : KeepD d H H') {kvs : List (Key × V)} {bs : List (Str × Span)} (h : Paired (PR (BdR K) H) kvs bs) : Paired (PR (BdR K) H') kvs bs :=
  Paired.mapP h fun _ _ ⟨e, t, e2, ht⟩ => ⟨e, t, e2, sqT_keepD ht hd q⟩
theorem bd_put {K : PySem.W.Frag} {H : Hp} {v : V} {x : Span} {k : Str} {kvs : List (Key × V)} {fs : List (Str × Span)} (h : Paired (PR (BdR K) H) kvs fs) (r : BdR K H v x) : Paired (PR (BdR K) H) (putK kvs (.inr k) v) (putL fs k x) := by
  by_cases m : k ∈ fs.map (·.1)
  · have any : (kvs.any fun kv => decide (kv.1 = (Sum.inr k : Key))) = true := by
      rw [List.any_eq_true]
      have e := pr_keys h
      have m2 : (Sum.inr k : Key) ∈ kvs.map (·.1) := by rw [e]; exact List.mem_map_of_mem m
      obtain ⟨kv, m3, e3⟩ := List.mem_map.mp m2
      exact ⟨kv, m3, decide_eq_true e3⟩
    unfold putK putL
    rw [if_pos any, if_pos m]
    clear any m
    induction h with
    | nil => exact .nil
    | @cons kv p l1 l2 h1 h2 ih =>
      rw [List.map_cons, List.map_cons]
      refine .cons ?_ ih
      obtain ⟨e, q⟩ := h1
      have e : kv.1 = .inr p.1 := e
      by_cases z : p.1 = k
      · rw [if_pos (by rw [e, z]), if_pos z]
        exact ⟨e, r⟩
      · rw [if_neg (fun y => z (Sum.inr.inj (e.symm.trans y))), if_neg z]
        exact ⟨e, q⟩
  · rw [pr_put h m]
    unfold putL
    rw [if_neg m]
    exact pr_snoc h r
def addS (o : Option Span) (e : Span) : Span := match o with
  | none => e
  | some s => (maxO s.1 e.1, minO s.2 e.2)
theorem max_none (b : Option Int) : maxO none b = b := by cases b <;> rfl
theorem min_none (b : Option Int) : minO none b = b := by cases b <;> rfl
theorem narrow_add (o : Option Span) (op : Str) (n : Int) : narrow (o.getD (none, none)) op n = addS o (lowOf op n, highOf op n) := by
  cases o with
  | none => exact Prod.ext (max_none _) (min_none _)
  | some s => rfl
theorem ends_eq (n : Int) : lowOf gEq n = some n ∧ highOf gEq n = some n :=
  ⟨by unfold lowOf; rw [if_pos (.inl rfl), if_neg (by decide +kernel), Int.add_zero], by unfold highOf; rw [if_pos (.inl rfl), if_neg (by decide +kernel), Int.sub_zero]⟩
theorem ends_lt (n : Int) : lowOf gLt n = none ∧ highOf gLt n = some (n - 1) :=
  ⟨by unfold lowOf; rw [if_neg (by decide +kernel)], by unfold highOf; rw [if_pos (.inr (.inl rfl)), if_pos rfl]⟩
theorem ends_gt (n : Int) : lowOf gGt n = some (n + 1) ∧ highOf gGt n = none :=
  ⟨by unfold lowOf; rw [if_pos (.inr (.inl rfl)), if_pos rfl], by unfold highOf; rw [if_neg (by decide +kernel)]⟩
theorem ends_le (n : Int) : lowOf gLe n = none ∧ highOf gLe n = some n :=
  ⟨by unfold lowOf; rw [if_neg (by decide +kernel)], by unfold highOf; rw [if_pos (.inr (.inr rfl)), if_neg (by decide +kernel), Int.sub_zero]⟩
theorem ends_ge (n : Int) : lowOf gGe n = some n ∧ highOf gGe n = none :=
  ⟨by unfold lowOf; rw [if_pos (.inr (.inr rfl)), if_neg (by decide +kernel), Int.add_zero], by unfold highOf; rw [if_neg (by decide +kernel)]⟩
theorem sign_cases {op : Str} (h : op ∈ signs) : op = gEq ∨ op = gLt ∨ op = gGt ∨ op = gLe ∨ op = gGe := by
  simpa only [signs, List.mem_cons, List.mem_nil_iff, or_false] using h
def isOfT (tb : Str) : Tr → Bool
  | .field t _ => decide (t = tb)
  | _ => false
def isNumT : Tr → Bool
  | .num _ => true
  | _ => false
def spIsso : Sp := fun vs H Q _ => ∃ (op : Str) (x y : Int), vs = [.str op, .int x, .int y] ∧ op ∈ signs ∧ Q (.bl (fits op x y)) H
def spIsof (K : PySem.W.Frag) : Sp := fun vs H Q _ => ∃ (v : V) (t : Tr) (tb : Str), vs = [v, .str tb] ∧ TrAt K H v t ∧ Tm t ∧ Q (.bl (isOfT tb t)) H
def spEnds : Sp := fun vs H Q _ => ∃ (op : Str) (n : Int), vs = [.str op, .int n] ∧ op ∈ signs ∧ ∀ p, H p = none → Q (.ref p) (upd H p (.tup [oV (lowOf op n), oV (highOf op n)]))
def spGreater : Sp := fun vs H Q _ => ∃ a b : Option Int, vs = [oV a, oV b] ∧ Q (oV (maxO a b)) H
def spLesser : Sp := fun vs H Q _ => ∃ a b : Option Int, vs = [oV a, oV b] ∧ Q (oV (minO a b)) H
def spCrossed : Sp := fun vs H Q _ => ∃ lo hi : Option Int, vs = [oV lo, oV hi] ∧ Q (.bl (gap (lo, hi))) H
def spNarrow (K : PySem.W.Frag) : Sp := fun vs H Q _ => ∃ (d t : Addr) (f : Str) (kvs : List (Key × V)) (bs : List (Str × Span)) (e : Span), vs = [.ref d, .str f, .ref t] ∧ H d = some (.dK kvs) ∧ Paired (PR (BdR K) H) kvs bs ∧ kvs.length < sizeLine ∧
  SqT K H t [oV e.1, oV e.2] ∧ ∀ (H' : Hp) (ks : List (Key × V)), KeepD d H H' → H' d = some (.dK ks) → Paired (PR (BdR K) H') ks (putL bs f (addS (bs.lookup f) e)) → Q .non H'
def spMusts (K : PySem.W.Frag) : Sp := fun vs H Q _ => ∃ (v : V) (c : Option Tr), vs = [v] ∧ CondAt K H v c ∧ CdO c ∧ depO c < 16 ∧
  ∀ (r : Addr) (H' : Hp) (us : List V), Same H H' → H r = none → H' r = some (.lst us) → Paired (TrAt K H') us (partsO c) → Q (.ref r) H'
section
variable {P : Program} {w : World} {K : PySem.W.Frag} {mg : Str → Option Value} {base : Heap}
theorem sif_str {i : Nat} {x y : Str} {t e u : TS} {D : Ends} {σ : L2.St} {H : Hp} (h : σ[i]? = some (some (.str x))) (h1 : x = y → t { D with nx := u D } σ H) (h2 : x ≠ y → e { D with nx := u D } σ H) :
    tSeq (tIfS (tTest (tOp rEq (tVar i) (tC (.str y)))) t e) u D σ H := by
  refine sif ⟨_, h, rfl, _, rfl, ?_⟩
  show if decide (V.str x = V.str y) = true then t { D with nx := u D } σ H else e { D with nx := u D } σ H
  by_cases c : x = y
  · rw [if_pos (decide_eq_true (congrArg V.str c))]
    exact h1 c
  · rw [if_neg (fun z => c (V.str.inj (of_decide_eq_true z)))]
    exact h2 c
theorem scIsso : FnScope ["sign", "one", "other"] ["sign", "one", "other"] (defScope sisso) := ⟨rfl, rfl, rfl, by decide +kernel, rfl, by decide +kernel, by decide +kernel⟩
theorem ok_isso {f : Addr} {fd : FuncData} (F : Fun K "is_so" "is_so" sisso f fd) : FnOk P w K mg base CX0 1 f fd ["sign", "one", "other"] spIsso := by
  refine F.ok scIsso (fun vs H Q E h => ?_) (fun cdv A outer s H vs Q E hr h => ?_)
  · obtain ⟨op, x, y, rfl, _⟩ := h
    rfl
  · obtain ⟨op, x, y, rfl, hop, k⟩ := h
    refine ⟨_, (pss_cons (ps_if (pt_cmpR op_eq (pv 0) pe_str (nomark _)) (pss_one (ps_ret (pe_cmpR op_eq (pv 1) (pv 2) (nomark _)))) pss_nil)
      (pss_cons (ps_if (pt_cmpR op_eq (pv 0) pe_str (nomark _)) (pss_one (ps_ret (pe_cmpR op_lt (pv 1) (pv 2) (nomark _)))) pss_nil)
      (pss_cons (ps_if (pt_cmpR op_eq (pv 0) pe_str (nomark _)) (pss_one (ps_ret (pe_cmpR op_gt (pv 1) (pv 2) (nomark _)))) pss_nil)
      (pss_cons (ps_if (pt_cmpR op_eq (pv 0) pe_str (nomark _)) (pss_one (ps_ret (pe_cmpR op_le (pv 1) (pv 2) (nomark _)))) pss_nil)
      (pss_one (ps_ret (pe_cmpR op_ge (pv 1) (pv 2) (nomark _)))))))), ?_⟩
    have vx : decide (V.int x = V.int y) = decide (x = y) := decide_eq_decide.mpr ⟨fun e => V.int.inj e, fun e => congrArg V.int e⟩
    unfold fits at k
    refine sif_str rfl (fun e => ?_) (fun n1 => ?_)
    · rw [if_pos e, ← vx] at k
      exact ⟨_, rfl, _, rfl, rfl, k⟩
    rw [if_neg n1] at k
    show tSeq _ _ _ _ _
    refine sif_str rfl (fun e => ?_) (fun n1 => ?_)
    · rw [if_pos e] at k
      exact ⟨_, rfl, _, rfl, _, _, rfl, rfl, k⟩
    rw [if_neg n1] at k
    show tSeq _ _ _ _ _
    refine sif_str rfl (fun e => ?_) (fun n1 => ?_)
    · rw [if_pos e] at k
      exact ⟨_, rfl, _, rfl, _, _, rfl, rfl, k⟩
    rw [if_neg n1] at k
    show tSeq _ _ _ _ _
    refine sif_str rfl (fun e => ?_) (fun n1 => ?_)
    · rw [if_pos e] at k
      exact ⟨_, rfl, _, rfl, _, _, rfl, rfl, k⟩
    rw [if_neg n1] at k
    exact ⟨_, rfl, _, rfl, _, _, rfl, rfl, k⟩
theorem scIsof : FnScope ["term", "table"] ["term", "table"] (defScope sisof) := ⟨rfl, rfl, rfl, by decide +kernel, rfl, by decide +kernel, by decide +kernel⟩
theorem ok_isof {f : Addr} {fd : FuncData} (F : Fun K "is_of" "is_of" sisof f fd) : FnOk P w K mg base CX0 1 f fd ["term", "table"] (spIsof K) := by
  refine F.ok scIsof (fun vs H Q E h => ?_) (fun cdv A outer s H vs Q E hr h => ?_)
  · obtain ⟨v, t, tb, rfl, _⟩ := h
    rfl
  · obtain ⟨v, t, tb, rfl, ht, tm, k⟩ := h
    refine ⟨_, (pss_one (ps_ret (pe_and (pe_cmpR op_eq (pe_ix (RK.ixT (K := K)) (pv 0) pe_int (fun _ _ => rfl)) pe_str (nomark _)) (pe_one (pe_cmpR op_eq (pe_ix (RK.ixT (K := K)) (pv 0) pe_int (fun _ _ => rfl)) (pv 1) (nomark _)))))), ?_⟩
    cases tm with
    | num h1 h2 =>
      obtain ⟨p, rfl, hp⟩ := ht
      refine ⟨_, rfl, p, _, _, _, rfl, rfl, hp, rfl, rfl, _, rfl, ?_⟩
      rw [show decide (V.str (Str.ofString "num") = V.str (Str.ofString "field")) = false by decide +kernel]
      exact iteF k
    | @field t0 g h1 h2 =>
      obtain ⟨p, rfl, hp⟩ := ht
      refine ⟨_, rfl, p, _, _, _, rfl, rfl, hp, rfl, rfl, _, rfl, ?_⟩
      rw [show decide (V.str (Str.ofString "field") = V.str (Str.ofString "field")) = true by decide +kernel]
      refine iteT ⟨_, rfl, p, _, _, _, rfl, rfl, hp, rfl, _, rfl, rfl, ?_⟩
      have e : decide (V.str t0 = V.str tb) = decide (t0 = tb) := decide_eq_decide.mpr ⟨fun e => V.str.inj e, fun e => congrArg V.str e⟩
      show Q (.bl (decide (V.str t0 = V.str tb))) H
      rw [e]
      exact k
    | @bin o l r ho _ _ =>
      obtain ⟨p, x, y, rfl, hp, _⟩ := ht
      refine ⟨_, rfl, p, _, _, _, rfl, rfl, hp, rfl, rfl, _, rfl, ?_⟩
      have e : decide (V.str o = V.str (Str.ofString "field")) = false := by
        simp only [List.mem_cons, List.mem_nil_iff, or_false] at ho
        rcases ho with rfl | rfl | rfl <;> decide +kernel
      rw [e]
      exact iteF k
theorem scEnds : FnScope ["sign", "number"] ["sign", "number"] (defScope sends) := ⟨rfl, rfl, rfl, by decide +kernel, rfl, by decide +kernel, by decide +kernel⟩
theorem ok_ends {f : Addr} {fd : FuncData} (F : Fun K "ends" "ends" sends f fd) : FnOk P w K mg base CX0 1 f fd ["sign", "number"] spEnds := by
  refine F.ok scEnds (fun vs H Q E h => ?_) (fun cdv A outer s H vs Q E hr h => ?_)
  · obtain ⟨op, n, rfl, _⟩ := h
    rfl
  · obtain ⟨op, n, rfl, hop, k⟩ := h
    refine ⟨_, (pss_cons (ps_if (pt_cmpR op_eq (pv 0) pe_str (nomark _)) (pss_one (ps_ret (pe_tup (pa_cons (pv 1) (pa_cons (pv 1) pa_nil))))) pss_nil)
      (pss_cons (ps_if (pt_cmpR op_eq (pv 0) pe_str (nomark _)) (pss_one (ps_ret (pe_tup (pa_cons pe_non (pa_cons (pe_op op_sub (pv 1) pe_int) pa_nil))))) pss_nil)
      (pss_cons (ps_if (pt_cmpR op_eq (pv 0) pe_str (nomark _)) (pss_one (ps_ret (pe_tup (pa_cons (pe_op op_add (pv 1) pe_int) (pa_cons pe_non pa_nil))))) pss_nil)
      (pss_cons (ps_if (pt_cmpR op_eq (pv 0) pe_str (nomark _)) (pss_one (ps_ret (pe_tup (pa_cons pe_non (pa_cons (pv 1) pa_nil))))) pss_nil)
      (pss_one (ps_ret (pe_tup (pa_cons (pv 1) (pa_cons pe_non pa_nil))))))))), ?_⟩
    refine sif_str rfl (fun e => ?_) (fun n1 => ?_)
    · rw [e, (ends_eq n).1, (ends_eq n).2] at k
      exact ⟨_, rfl, _, rfl, (by show 2 ≤ sizeLine; decide), k⟩
    show tSeq _ _ _ _ _
    refine sif_str rfl (fun e => ?_) (fun n2 => ?_)
    · rw [e, (ends_lt n).1, (ends_lt n).2] at k
      exact ⟨_, rfl, _, _, rfl, rfl, (by show 2 ≤ sizeLine; decide), k⟩
    show tSeq _ _ _ _ _
    refine sif_str rfl (fun e => ?_) (fun n3 => ?_)
    · rw [e, (ends_gt n).1, (ends_gt n).2] at k
      exact ⟨_, rfl, _, _, rfl, rfl, (by show 2 ≤ sizeLine; decide), k⟩
    show tSeq _ _ _ _ _
    refine sif_str rfl (fun e => ?_) (fun n4 => ?_)
    · rw [e, (ends_le n).1, (ends_le n).2] at k
      exact ⟨_, rfl, (by show 2 ≤ sizeLine; decide), k⟩
    rcases sign_cases hop with e | e | e | e | e
    · exact absurd e n1
    · exact absurd e n2
    · exact absurd e n3
    · exact absurd e n4
    · rw [e, (ends_ge n).1, (ends_ge n).2] at k
      exact ⟨_, rfl, (by show 2 ≤ sizeLine; decide), k⟩
theorem scGreater : FnScope ["one", "other"] ["one", "other"] (defScope sgreater) := ⟨rfl, rfl, rfl, by decide +kernel, rfl, by decide +kernel, by decide +kernel⟩
theorem ok_greater {fc ft f : Addr} {fd : FuncData} (F : Fun K "greater" "greater" sgreater f fd) (TP : TxtP K w mg fc ft) : FnOk P w K mg base CX0 1 f fd ["one", "other"] spGreater := by
  refine F.ok scGreater (fun vs H Q E h => ?_) (fun cdv A outer s H vs Q E hr h => ?_)
  · obtain ⟨a, b, rfl, _⟩ := h
    rfl
  · obtain ⟨a, b, rfl, k⟩ := h
    refine ⟨_, (pss_cons (ps_if (PW.pt (pw_or (pt_cmpR op_isN (pv 0) pe_non (nomark _)) (pw_or1 (pt_cmpR op_isN (pv 1) pe_non (nomark _))))) (pss_one (ps_ret (pe_ifExp (pt_cmpR op_isN (pv 0) pe_non (nomark _)) (pv 1) (pv 0)))) pss_nil)
      (pss_one (ps_ret (pe_callB (call_max2 rfl) (by rfl) TP.max (by decide +kernel) (pa_cons (pv 0) (pa_cons (pv 1) pa_nil)))))), ?_⟩
    cases a with
    | none =>
      rw [max_none] at k
      exact sif ⟨_, rfl, rfl, _, rfl, iteT (iteT ⟨_, rfl, rfl, _, rfl, iteT ⟨_, rfl, k⟩⟩)⟩
    | some a =>
      refine sif ⟨_, rfl, rfl, _, rfl, iteF ⟨_, rfl, rfl, _, rfl, ?_⟩⟩
      cases b with
      | none => exact iteT ⟨_, rfl, rfl, _, rfl, iteF ⟨_, rfl, k⟩⟩
      | some b => exact iteF ⟨_, rfl, _, rfl, _, _, rfl, k⟩
theorem scLesser : FnScope ["one", "other"] ["one", "other"] (defScope slesser) := ⟨rfl, rfl, rfl, by decide +kernel, rfl, by decide +kernel, by decide +kernel⟩
theorem ok_lesser {fc ft f : Addr} {fd : FuncData} (F : Fun K "lesser" "lesser" slesser f fd) (TP : TxtP K w mg fc ft) : FnOk P w K mg base CX0 1 f fd ["one", "other"] spLesser := by
  refine F.ok scLesser (fun vs H Q E h => ?_) (fun cdv A outer s H vs Q E hr h => ?_)
  · obtain ⟨a, b, rfl, _⟩ := h
    rfl
  · obtain ⟨a, b, rfl, k⟩ := h
    refine ⟨_, (pss_cons (ps_if (PW.pt (pw_or (pt_cmpR op_isN (pv 0) pe_non (nomark _)) (pw_or1 (pt_cmpR op_isN (pv 1) pe_non (nomark _))))) (pss_one (ps_ret (pe_ifExp (pt_cmpR op_isN (pv 0) pe_non (nomark _)) (pv 1) (pv 0)))) pss_nil)
      (pss_one (ps_ret (pe_callB (call_min2 rfl) (by rfl) TP.min (by decide +kernel) (pa_cons (pv 0) (pa_cons (pv 1) pa_nil)))))), ?_⟩
    cases a with
    | none =>
      rw [min_none] at k
      exact sif ⟨_, rfl, rfl, _, rfl, iteT (iteT ⟨_, rfl, rfl, _, rfl, iteT ⟨_, rfl, k⟩⟩)⟩
    | some a =>
      refine sif ⟨_, rfl, rfl, _, rfl, iteF ⟨_, rfl, rfl, _, rfl, ?_⟩⟩
      cases b with
      | none => exact iteT ⟨_, rfl, rfl, _, rfl, iteF ⟨_, rfl, k⟩⟩
      | some b => exact iteF ⟨_, rfl, _, rfl, _, _, rfl, k⟩
theorem scCrossed : FnScope ["least", "greatest"] ["least", "greatest"] (defScope siscrossed) := ⟨rfl, rfl, rfl, by decide +kernel, rfl, by decide +kernel, by decide +kernel⟩
theorem ok_crossed {f : Addr} {fd : FuncData} (F : Fun K "is_crossed" "is_crossed" siscrossed f fd) : FnOk P w K mg base CX0 1 f fd ["least", "greatest"] spCrossed := by
  refine F.ok scCrossed (fun vs H Q E h => ?_) (fun cdv A outer s H vs Q E hr h => ?_)
  · obtain ⟨lo, hi, rfl, _⟩ := h
    rfl
  · obtain ⟨lo, hi, rfl, k⟩ := h
    refine ⟨_, (pss_one (ps_ret (pe_and (pe_cmpR op_notN (pv 0) pe_non (nomark _)) (pe_and (pe_cmpR op_notN (pv 1) pe_non (nomark _)) (pe_one (pe_cmpR op_gt (pv 0) (pv 1) (nomark _))))))), ?_⟩
    cases lo with
    | none => exact ⟨_, rfl, rfl, _, rfl, k⟩
    | some l =>
      refine ⟨_, rfl, rfl, _, rfl, iteT ?_⟩
      cases hi with
      | none => exact ⟨_, rfl, rfl, _, rfl, k⟩
      | some m => exact ⟨_, rfl, rfl, _, rfl, iteT ⟨_, rfl, _, rfl, _, _, rfl, rfl, k⟩⟩
theorem scNarrow : FnScope ["told", "field", "both", "least", "greatest"] ["told", "field", "both"] (defScope snarrow) := ⟨rfl, rfl, rfl, by decide +kernel, rfl, by decide +kernel, by decide +kernel⟩
theorem ok_narrow2 {f fg fl : Addr} {fd fdg fdl : FuncData} (F : Fun K "narrow" "narrow" snarrow f fd) (Cgreater : Cal P w K mg base 1 "greater" ["one", "other"] spGreater fg fdg) (Clesser : Cal P w K mg base 1 "lesser" ["one", "other"] spLesser fl fdl) :
    FnOk P w K mg base CX0 2 f fd ["told", "field", "both"] (spNarrow K) := by
  refine F.ok scNarrow (fun vs H Q E h => ?_) (fun cdv A outer s H vs Q E hr h => ?_)
  · obtain ⟨d, t, f, kvs, bs, e, rfl, _⟩ := h
    rfl
  · obtain ⟨d, t, g, kvs, bs, e, rfl, hd, pr, few, ht, k⟩ := h
    have hr1 : Room 1 _ := hr.mono (by decide)
    refine ⟨_, (pss_cons (ps_if (pt_cmp (pc_dnotin (hu_of hr) (pv 1) (pv 0))) (pss_cons (ps_dput (hu_of hr) (pv 0) (pv 1) (pv 2) rfl)
        (pss_one ps_retN)) pss_nil)
      (pss_cons (ps_asg (pe_dget (hu_of hr) (pv 0) (pv 1) (fun _ _ => rfl)) (RK.pgTup (K := K) (n := 2) rfl (pgs_cons (pg_name (i := 3) scNarrow.nd rfl (Or.inl rfl)) (pgs_cons (pg_name (i := 4) scNarrow.nd rfl (Or.inl rfl)) pgs_nil))))
      (pss_one (ps_dput (hu_of hr) (pv 0) (pv 1) (pe_tup (pa_cons (pe_call Cgreater.G hr1 rfl Cgreater.g Cgreater.kp Cgreater.b .nil pass0 (pa_cons (pv 3) (pa_cons (pe_ix (RK.ixT (K := K)) (pv 2) pe_int (fun _ _ => rfl)) pa_nil))) (pa_cons (pe_call Clesser.G hr1 rfl Clesser.g Clesser.kp Clesser.b .nil pass0 (pa_cons (pv 4) (pa_cons (pe_ix (RK.ixT (K := K)) (pv 2) pe_int (fun _ _ => rfl)) pa_nil))) pa_nil))) rfl)))), ?_⟩
    refine sif ⟨_, rfl, _, rfl, d, _, rfl, DGet.k (k := Sum.inr g) hd, _, rfl, ?_⟩
    rcases pr_look g pr with ⟨e1, e2⟩ | ⟨sp, v0, e1, e2, t0, rfl, h0⟩
    · rw [e2]
      refine iteT ⟨_, rfl, _, rfl, _, rfl, d, _, rfl, DPut.k (k := Sum.inr g) hd few, ?_⟩
      have kd : KeepD d H (upd H d (.dK (putK kvs (Sum.inr g) (.ref t)))) := fun x o n q => by rw [upd_ne n]; exact q
      rw [e1] at k
      exact k _ _ kd upd_same (bd_put (bd_keepD hd kd pr) ⟨t, rfl, sqT_keepD ht hd kd⟩)
    · rw [e2]
      refine iteF ?_
      have dg : DGet H d (.str g) (some (.ref t0)) := e2 ▸ DGet.k (k := Sum.inr g) hd
      dsimp only [tNext]
      refine sa1 ?_
      refine ⟨_, rfl, _, rfl, d, _, rfl, dg, ?_⟩
      refine ⟨t0, _, rfl, h0, rfl, _, _, rfl, _, _, rfl, rfl, ?_⟩
      refine ⟨_, rfl, _, rfl, t, _, _, _, rfl, rfl, ht, rfl, sp.1, e.1, rfl, _, rfl, _, rfl, t, _, _, _, rfl, rfl, ht, rfl, sp.2, e.2, rfl, (by show 2 ≤ sizeLine; decide), fun p hp => ?_⟩
      have s1 := Same.new (o := .tup [oV (maxO sp.1 e.1), oV (minO sp.2 e.2)]) hp
      refine ⟨_, rfl, _, rfl, d, _, rfl, DPut.k (k := Sum.inr g) (s1 _ _ hd) few, ?_⟩
      have kd : KeepD d H (upd (upd H p (.tup [oV (maxO sp.1 e.1), oV (minO sp.2 e.2)])) d (.dK (putK kvs (Sum.inr g) (.ref p)))) := fun x o n q => by rw [upd_ne n]; exact s1 _ _ q
      rw [e1] at k
      refine k _ _ kd upd_same (bd_put (bd_keepD hd kd pr) ⟨p, rfl, .inl (.inl ?_)⟩)
      rw [upd_ne (fun z => by rw [z, hd] at hp; cases hp), upd_same]
      rfl
end
end K04

set_option maxRecDepth 100000
set_option maxHeartbeats 4000000
namespace K04
open PySem L2
/-! ### musts -/
def nd : Tr → Nat
  | .bin op l r => if op = sAnd then nd l + nd r + 1 else 1
  | _ => 1
theorem nd_le : ∀ t : Tr, nd t + 1 ≤ 2 ^ (t.depth + 1)
  | .num _ => by show 1 + 1 ≤ 2 ^ (0 + 1); decide
  | .field _ _ => by show 1 + 1 ≤ 2 ^ (0 + 1); decide
  | .not x => by
    have := Nat.one_le_two_pow (n := x.depth)
    show 1 + 1 ≤ 2 ^ (x.depth + 1 + 1)
    rw [Nat.pow_succ, Nat.pow_succ]
    omega
  | .bin op l r => by
    have h1 := nd_le l
    have h2 := nd_le r
    have e1 : 2 ^ (l.depth + 1) ≤ 2 ^ (max l.depth r.depth + 1) := Nat.pow_le_pow_right (by decide) (by omega)
    have e2 : 2 ^ (r.depth + 1) ≤ 2 ^ (max l.depth r.depth + 1) := Nat.pow_le_pow_right (by decide) (by omega)
    show (if op = sAnd then nd l + nd r + 1 else 1) + 1 ≤ 2 ^ (max l.depth r.depth + 1 + 1)
    rw [Nat.pow_succ 2 (max l.depth r.depth + 1)]
    split
    · omega
    · have := Nat.one_le_two_pow (n := max l.depth r.depth + 1)
      omega
def todo (st : List Tr) : List Tr := st.reverse.flatMap parts
theorem todo_snoc (st : List Tr) (t : Tr) : todo (st ++ [t]) = parts t ++ todo st := by
  unfold todo
  rw [List.reverse_append]
  rfl
def sumN (st : List Tr) : Nat := (st.map nd).sum
theorem sum_snoc (st : List Tr) (t : Tr) : sumN (st ++ [t]) = sumN st + nd t := by
  unfold sumN
  rw [List.map_append, List.sum_append]
  rfl
theorem nd_pos (t : Tr) : 1 ≤ nd t := by
  cases t with
  | bin op l r =>
    show 1 ≤ (if op = sAnd then nd l + nd r + 1 else 1)
    split <;> omega
  | _ => exact Nat.le_refl 1
theorem len_sum : ∀ st : List Tr, st.length ≤ sumN st
  | [] => Nat.zero_le _
  | t :: r => by
    have h := len_sum r
    have p := nd_pos t
    show r.length + 1 ≤ nd t + sumN r
    omega
theorem pair_unsnoc {α β : Type} {F : α → β → Prop} : ∀ {l1 : List α} {l2 : List β} {b : β}, Paired F l1 (l2 ++ [b]) → ∃ l a, l1 = l ++ [a] ∧ Paired F l l2 ∧ F a b
  | _, [], _, .cons r .nil => ⟨[], _, rfl, .nil, r⟩
  | _, _ :: l2, _, .cons r q => by
    obtain ⟨l, a, e, p, z⟩ := pair_unsnoc (l2 := l2) q
    exact ⟨_ :: l, a, by rw [e]; rfl, .cons r p, z⟩
theorem sign_str {op : Str} (h : op ∈ signs) : PyData.strOk op = true := by
  rcases sign_cases h with rfl | rfl | rfl | rfl | rfl <;> decide +kernel
theorem layCd {t : Tr} (h : Cd t) : PyData.canLay0 (encD t) = true ∧ PyData.depth (encD t) ≤ t.depth + 1 := by
  induction h with
  | @cmp op l r ho hl hr =>
    obtain ⟨f1, k1, t1⟩ := hl
    obtain ⟨f2, k2, t2⟩ := hr
    have a1 := layTm (Tm.of k1 t1)
    have a2 := layTm (Tm.of k2 t2)
    refine ⟨by simp [encD, PyData.canLay0, PyData.canLayAll0, sign_str ho, a1.1, a2.1], ?_⟩
    have e1 := a1.2
    have e2 := a2.2
    simp only [encD, PyData.depth, PyData.depthAll, Tr.depth]
    omega
  | @join op l r ho _ _ h1 h2 =>
    have so : PyData.strOk op = true := by
      simp only [List.mem_cons, List.mem_nil_iff, or_false] at ho
      rcases ho with rfl | rfl <;> decide +kernel
    refine ⟨by simp [encD, PyData.canLay0, PyData.canLayAll0, so, h1.1, h2.1], ?_⟩
    have e1 := h1.2
    have e2 := h2.2
    simp only [encD, PyData.depth, PyData.depthAll, Tr.depth]
    omega
  | @not x _ h1 =>
    have so : PyData.strOk (Str.ofString "not") = true := by decide +kernel
    refine ⟨by simp [encD, PyData.canLay0, PyData.canLayAll0, so, h1.1], ?_⟩
    have e1 := h1.2
    simp only [encD, PyData.depth, PyData.depthAll, Tr.depth]
    omega
theorem cds_dp {K : PySem.W.Frag} {H : Hp} : ∀ {vs : List V} {st : List Tr}, Paired (TrAt K H) vs st → DpAll K H vs (st.map encD)
  | _, _, .nil => .nil
  | _, _, .cons h r => .cons (dpTr h) (cds_dp r)
theorem cds_lay : ∀ st : List Tr, (∀ t ∈ st, Cd t ∧ t.depth < 16) → PyData.canLayAll0 (st.map encD) = true ∧ PyData.depthAll (st.map encD) ≤ 20
  | [], _ => by simp [PyData.canLayAll0, PyData.depthAll]
  | t :: r, ok => by
    obtain ⟨h1, h2⟩ := cds_lay r fun x m => ok x (List.mem_cons_of_mem _ m)
    obtain ⟨o1, o2⟩ := ok t List.mem_cons_self
    obtain ⟨a1, a2⟩ := layCd o1
    refine ⟨by simp [PyData.canLayAll0, h1, a1], ?_⟩
    simp only [List.map_cons, PyData.depthAll]
    omega
theorem cds_shaped {st : List Tr} (ok : ∀ t ∈ st, Cd t ∧ t.depth < 16) : SeqAt.shaped (.list (st.map encD)) = true := by
  obtain ⟨h1, h2⟩ := cds_lay st ok
  refine shaped_of (by simp only [PyData.canLay0]; exact h1) ?_
  simp only [PyData.depth]
  omega
section
variable {P : Program} {w : World} {K : PySem.W.Frag} {mg : Str → Option Value} {base : Heap}
structure MuInv (K : PySem.W.Frag) (H H' : Hp) (r wl : Addr) (ps : List Tr) (st : List Tr) : Prop where
  same : Same H H'
  two : r ≠ wl
  all : ∃ us dn, H' r = some (.lst us) ∧ Paired (TrAt K H') us dn ∧ dn ++ todo st = ps
  wait : ∃ ws, H' wl = some (.lst ws) ∧ Paired (TrAt K H') ws st
  ok : ∀ t ∈ st, Cd t ∧ t.depth < 16
theorem trs_same {H H' : Hp} (s : Same H H') {us : List V} {ts : List Tr} (h : Paired (TrAt K H) us ts) : Paired (TrAt K H') us ts := Paired.mapP h fun _ _ z => z.keep (KeepN.of s)
def tPop (K : PySem.W.Frag) : TE := tBM0 K "list" rPop (tVar 2)
def tPush (K : PySem.W.Frag) (i : Nat) (te : TE) : TS := tDrop (tBM K "list" rAppend (tVar i) (tCons te tNil))
def tMu (K : PySem.W.Frag) (fc : Addr) : TS :=
  tSeq (tWhile (tTest (tOp (rNeD K) (tVar 2) (tLst tNil)))
    (tSeq (tAsg (tPop K) (gName 3))
      (tIfS (tTest (tOp rEq (tOp (rIxT K) (tVar 3) (tC (V.int 0))) (tC (V.str (Str.ofString "and")))))
        (tSeq (tPush K 2 (tOp (rIxT K) (tVar 3) (tC (V.int 2)))) (tPush K 2 (tOp (rIxT K) (tVar 3) (tC (V.int 1)))))
        (tIfS (tTest (tOp (rIn K false) (tOp (rIxT K) (tVar 3) (tC (V.int 0))) (tC (V.ref fc)))) (tPush K 1 (tVar 3)) tNext))))
  (tRet (tVar 1))
theorem push_run {i : Nat} {te : TE} {D : Ends} {σ : L2.St} {H : Hp} {l : Addr} {xs : List V} {y : V} (hi : σ[i]? = some (some (.ref l))) (hl : H l = some (.lst xs)) (few : xs.length < sizeLine) (ht : ∀ Q : VK, Q y H → te σ H Q) (q : D.nx σ (upd H l (.lst (xs ++ [y])))) :
    tPush K i te D σ H := ⟨_, hi, .inl ⟨rfl, _, SqL.of hl⟩, ht _ ⟨l, xs, y, rfl, rfl, hl, few, q⟩⟩
theorem ix_run {p : Addr} {σ : L2.St} {H : Hp} {Q : VK} {j : Nat} {xs : List V} {y : V} (hs : σ[3]? = some (some (.ref p))) (hp : SqT K H p xs) (hj : xs[j]? = some y) (q : Q y H) : tOp (rIxT K) (tVar 3) (tC (V.int (j : Nat))) σ H Q :=
  ⟨_, hs, p, _, _, _, rfl, rfl, hp, atI_nat hj, q⟩
theorem tag_run {p : Addr} {σ : L2.St} {H : Hp} {Qb : Bool → Hp → Prop} {xs : List V} {op z : Str} {b : Bool} (hs : σ[3]? = some (some (.ref p))) (hp : SqT K H p (.str op :: xs)) (hb : decide (V.str op = V.str z) = b) (q : Qb b H) :
    tTest (tOp rEq (tOp (rIxT K) (tVar 3) (tC (V.int 0))) (tC (V.str z))) σ H Qb := ⟨_, hs, p, _, _, _, rfl, rfl, hp, at0, rfl, b, by rw [← hb], q⟩
theorem in_run {p fc : Addr} {σ : L2.St} {H : Hp} {Qb : Bool → Hp → Prop} {xs : List V} {op : Str} {b : Bool} (hs : σ[3]? = some (some (.ref p))) (hp : SqT K H p (.str op :: xs)) (hc : SqT K H fc (signs.map V.str)) (hb : inV (V.str op) (signs.map V.str) = b) (q : Qb b H) :
    tTest (tOp (rIn K false) (tOp (rIxT K) (tVar 3) (tC (V.int 0))) (tC (V.ref fc))) σ H Qb := ⟨_, hs, p, _, _, _, rfl, rfl, hp, at0, fc, _, rfl, .inr hc, rfl, rfl, b, by rw [← hb]; rfl, q⟩
theorem mu_run {D : Ends} {fc : Addr} (hc : ∀ H, SqT K H fc (signs.map V.str)) {v3 : Option V} {v : V} {H H1 : Hp} {r wl : Addr} {ps st : List Tr} (I : MuInv K H H1 r wl ps st) (hr0 : H r = none) (hw0 : H wl = none) (sm : sumN st ≤ 2 ^ 17) (small : ps.length ≤ 2 ^ 16)
    (k : ∀ (H' : Hp) (us : List V), Same H H' → H' r = some (.lst us) → Paired (TrAt K H') us ps → D.rt (.ref r) H') : tMu K fc D [some v, some (.ref r), some (.ref wl), v3] H1 := by
  refine ⟨fun m σ H' => ∃ v3 st, m = sumN st ∧ m ≤ 2 ^ 17 ∧ σ = [some v, some (.ref r), some (.ref wl), v3] ∧ MuInv K H H' r wl ps st, ⟨_, v3, st, rfl, sm, rfl, I⟩, ?_⟩
  rintro m σ H2 ⟨u3, st, rfl, sm, rfl, I⟩
  obtain ⟨same, two, ⟨us, dn, hr, pu, eq⟩, ⟨ws, hw, pw⟩, ok⟩ := I
  refine ⟨_, rfl, (by show 0 ≤ sizeLine; decide), fun q hq => ?_⟩
  have sq := Same.new (o := .lst []) hq
  refine ⟨.list (st.map encD), .list [], .lst (SqL.of (sq _ _ hw)) (cds_dp (trs_same sq pw)), .lst (SqL.of upd_same) .nil, cds_shaped ok, rfl, _, rfl, ?_⟩
  rw [eqv_nil]
  have same2 := same.trans sq
  have hr2 := sq _ _ hr
  have hw2 := sq _ _ hw
  have pu2 := trs_same sq pu
  have pw2 := trs_same sq pw
  generalize upd H2 q (.lst []) = H3 at same2 hr2 hw2 pu2 pw2 ⊢
  clear sq hq hr hw pu pw same
  rcases List.eq_nil_or_concat st with rfl | ⟨st0, t, rfl⟩
  · refine iteF ⟨_, rfl, ?_⟩
    have e : dn = ps := by
      have z : dn ++ todo [] = ps := eq
      rw [show todo [] = [] from rfl, List.append_nil] at z
      exact z
    exact k H3 us same2 hr2 (e ▸ pu2)
  rw [List.concat_eq_append] at *
  have ne : (!(List.map encD (st0 ++ [t])).isEmpty) = true := by simp
  rw [ne]
  obtain ⟨ws0, x, rfl, pw0, hx⟩ := pair_unsnoc pw2
  have okt := ok t (List.mem_append.mpr (.inr List.mem_cons_self))
  have ok0 : ∀ z ∈ st0, Cd z ∧ z.depth < 16 := fun z m => ok z (List.mem_append.mpr (.inl m))
  rw [todo_snoc] at eq
  rw [sum_snoc] at sm
  have ldn : dn.length ≤ ps.length := by rw [← eq, List.length_append]; omega
  have lws : ws0.length ≤ sumN st0 := by rw [Paired.length pw0]; exact len_sum st0
  have lus : us.length ≤ ps.length := by rw [Paired.length pu2]; exact ldn
  have fin : ∀ {D' : Ends} {σ' : L2.St} {H' : Hp} {st' : List Tr}, True := fun {_ _ _ _} => trivial
  refine iteT ⟨fun σ' H' => ∃ m', m' < sumN (st0 ++ [t]) ∧ ∃ v3 st, m' = sumN st ∧ m' ≤ 2 ^ 17 ∧ σ' = [some v, some (.ref r), some (.ref wl), v3] ∧ MuInv K H H' r wl ps st, fun _ _ h => h, ?_⟩
  refine sa1 ?_
  refine ⟨_, rfl, .inl ⟨rfl, _, SqL.of hw2⟩, wl, _, x, rfl, rfl, hw2, by simp, ?_⟩
  rw [List.dropLast_concat]
  -- the list is shorter now
  have kn : KeepN H3 (upd H3 wl (.lst ws0)) := KeepN.lst hw2
  have h4r : upd H3 wl (.lst ws0) r = some (.lst us) := by rw [upd_ne two]; exact hr2
  have h4w : upd H3 wl (.lst ws0) wl = some (.lst ws0) := upd_same
  have p4u : Paired (TrAt K (upd H3 wl (.lst ws0))) us dn := Paired.mapP pu2 fun _ _ z => z.keep kn
  have p4w : Paired (TrAt K (upd H3 wl (.lst ws0))) ws0 st0 := Paired.mapP pw0 fun _ _ z => z.keep kn
  have s4 : Same H (upd H3 wl (.lst ws0)) := fun y o e => by
    rw [upd_ne (fun z => by rw [z, hw0] at e; cases e)]
    exact same2 y o e
  have hx4 := hx.keep kn
  generalize upd H3 wl (.lst ws0) = H4 at kn h4r h4w p4u p4w s4 hx4 ⊢
  refine gn ?_
  have bigW : ∀ n : Nat, n ≤ 2 ^ 17 + 2 → n < sizeLine := fun n h => Nat.lt_of_le_of_lt h (by decide)
  -- the next turn, nothing more in wait
  have done : ∀ p : Addr, (∀ (us' : List V) (dn' : List Tr) (H' : Hp), Same H H' → H' r = some (.lst us') → H' wl = some (.lst ws0) → Paired (TrAt K H') us' dn' → Paired (TrAt K H') ws0 st0 → dn' ++ todo st0 = ps →
      ∃ m', m' < sumN (st0 ++ [t]) ∧ ∃ v3 st, m' = sumN st ∧ m' ≤ 2 ^ 17 ∧ [some v, some (V.ref r), some (.ref wl), some (.ref p)] = [some v, some (.ref r), some (.ref wl), v3] ∧ MuInv K H H' r wl ps st) := fun p us' dn' H' sm' e1 e2 e3 e4 e5 =>
    ⟨sumN st0, by rw [sum_snoc]; have := nd_pos t; omega, _, st0, rfl, by omega, rfl, ⟨sm', two, ⟨us', dn', e1, e3, e5⟩, ⟨ws0, e2, e4⟩, ok0⟩⟩
  obtain ⟨cdt, dpt⟩ := okt
  cases cdt with
  | @not z cz =>
    obtain ⟨p, x0, rfl, hp, hz⟩ := hx4
    refine tag_run rfl hp (by decide +kernel) (iteF ?_)
    refine in_run rfl hp (hc _) (b := false) (by decide +kernel) (iteF ?_)
    exact done p us dn H4 s4 h4r h4w p4u p4w eq
  | @cmp op l r' hop hl hr' =>
    obtain ⟨p, y, z, rfl, hp, hy, hz⟩ := hx4
    have no : decide (V.str op = V.str (Str.ofString "and")) = false ∧ inV (V.str op) (signs.map V.str) = true ∧ parts (.bin op l r') = [.bin op l r'] := by
      rcases sign_cases hop with rfl | rfl | rfl | rfl | rfl <;> exact ⟨by decide +kernel, by decide +kernel, by rw [parts, if_neg (by decide +kernel), if_neg (by decide +kernel)]⟩
    refine tag_run rfl hp no.1 (iteF ?_)
    refine in_run rfl hp (hc _) no.2.1 (iteT ?_)
    refine push_run rfl h4r (bigW _ (Nat.le_trans lus (Nat.le_trans small (by decide)))) (fun Q q => ⟨_, rfl, q⟩) ?_
    have kn5 : KeepN H4 (upd H4 r (.lst (us ++ [.ref p]))) := KeepN.lst h4r
    rw [no.2.2] at eq
    refine done p (us ++ [.ref p]) (dn ++ [.bin op l r']) _ (fun y' o e => ?_) upd_same (by rw [upd_ne two.symm]; exact h4w) (Paired.snoc (Paired.mapP p4u fun _ _ q => q.keep kn5) ?_) (Paired.mapP p4w fun _ _ q => q.keep kn5) (by rw [List.append_assoc]; exact eq)
    · rw [upd_ne (fun q => by rw [q, hr0] at e; cases e)]
      exact s4 y' o e
    · exact TrAt.keep kn5 (show TrAt K H4 (.ref p) (.bin op l r') from ⟨p, y, z, rfl, hp, hy, hz⟩)
  | @join op l r' hop cl cr =>
    obtain ⟨p, y, z, rfl, hp, hy, hz⟩ := hx4
    simp only [List.mem_cons, List.mem_nil_iff, or_false] at hop
    rcases hop with rfl | rfl
    · refine tag_run rfl hp (b := true) (by decide +kernel) (iteT ?_)
      have d2 : l.depth < 16 ∧ r'.depth < 16 := by
        have : max l.depth r'.depth + 1 < 16 := dpt
        omega
      have nde : nd (.bin sAnd l r') = nd l + nd r' + 1 := by rw [nd, if_pos rfl]
      rw [nde] at sm
      have pe : parts (.bin sAnd l r') = parts l ++ parts r' := by rw [parts, if_pos rfl]
      rw [pe] at eq
      refine push_run rfl h4w (bigW _ (by omega)) (fun Q q => ix_run (j := 2) rfl hp rfl q) ?_
      have kn5 : KeepN H4 (upd H4 wl (.lst (ws0 ++ [z]))) := KeepN.lst h4w
      have h5 : upd H4 wl (.lst (ws0 ++ [z])) wl = some (.lst (ws0 ++ [z])) := upd_same
      refine push_run rfl h5 (bigW _ (by rw [List.length_append]; show ws0.length + 1 ≤ _; omega)) (fun Q q => ix_run (j := 1) rfl (kn5.t hp) rfl q) ?_
      have kn6 : KeepN (upd H4 wl (.lst (ws0 ++ [z]))) (upd (upd H4 wl (.lst (ws0 ++ [z]))) wl (.lst (ws0 ++ [z] ++ [y]))) := KeepN.lst h5
      have kn := kn5.trans kn6
      refine ⟨sumN (st0 ++ [r'] ++ [l]), by rw [sum_snoc, sum_snoc, sum_snoc, nde]; omega, _, st0 ++ [r'] ++ [l], rfl, by rw [sum_snoc, sum_snoc]; omega, rfl, ⟨fun y' o e => ?_, two, ⟨us, dn, ?_, Paired.mapP p4u fun _ _ q => q.keep kn, ?_⟩, ⟨_, upd_same, ?_⟩, fun q m => ?_⟩⟩
      · have ne : y' ≠ wl := fun q => by rw [q, hw0] at e; cases e
        rw [upd_ne ne, upd_ne ne]
        exact s4 y' o e
      · rw [upd_ne two, upd_ne two]
        exact h4r
      · rw [todo_snoc, todo_snoc, ← eq, List.append_assoc]
      · exact Paired.snoc (Paired.snoc (Paired.mapP p4w fun _ _ q => q.keep kn) (hz.keep kn)) (hy.keep kn)
      · rcases List.mem_append.mp m with m | m
        · rcases List.mem_append.mp m with m | m
          · exact ok0 q m
          · obtain rfl := List.mem_singleton.mp m
            exact ⟨cr, d2.2⟩
        · obtain rfl := List.mem_singleton.mp m
          exact ⟨cl, d2.1⟩
    · refine tag_run rfl hp (b := false) (by decide +kernel) (iteF ?_)
      refine in_run rfl hp (hc _) (b := false) (by decide +kernel) (iteF ?_)
      have pe : parts (.bin sOr l r') = [] := by rw [parts, if_neg (by decide +kernel), if_pos rfl]
      rw [pe] at eq
      exact done p us dn H4 s4 h4r h4w p4u p4w eq
theorem scMusts : FnScope ["cond", "found", "waiting", "tree"] ["cond"] (defScope smusts) := ⟨rfl, rfl, rfl, by decide +kernel, rfl, by decide +kernel, by decide +kernel⟩
theorem ok_musts {fc ft f : Addr} {fd : FuncData} (F : Fun K "musts" "musts" smusts f fd) (TP : TxtP K w mg fc ft) : FnOk P w K mg base CX0 1 f fd ["cond"] (spMusts K) := by
  refine F.ok scMusts (fun vs H Q E h => ?_) (fun cdv A outer s H vs Q E hr h => ?_)
  · obtain ⟨v, c, rfl, _⟩ := h
    rfl
  · obtain ⟨v, c, rfl, C, cd, dp, k⟩ := h
    refine ⟨_, (pss_cons (ps_set (i := 1) scMusts.nd rfl (Or.inl rfl) (pe_lst pa_nil))
      (pss_cons (ps_set (i := 2) scMusts.nd rfl (Or.inl rfl) (pe_ifExp (pt_cmpR op_isN (pv 0) pe_non (nomark _)) (pe_lst pa_nil) (pe_lst (pa_cons (pv 0) pa_nil))))
      (pss_cons (ps_while PassesOwn.never (pt_cmpR (RK.neD (K := K) hr.units) (pv 2) (pe_lst pa_nil) (nomark _))
        (pss_cons (ps_set (i := 3) scMusts.nd rfl (Or.inl rfl) (RK.bm0 (K := K) PySem.F.plainAttrs_list PySem.F.slot_list_pop PySem.F.type_list_pop mt_pop (pv 2)))
        (pss_one (ps_if (pt_cmpR op_eq (pe_ix (RK.ixT (K := K)) (pv 3) pe_int (fun _ _ => rfl)) pe_str (nomark _)) (pss_cons (ps_expr (RK.bm (K := K) PySem.F.plainAttrs_list PySem.F.slot_list_append PySem.F.type_list_append mt_append (pv 2) (pa_cons (pe_ix (RK.ixT (K := K)) (pv 3) pe_int (fun _ _ => rfl)) pa_nil)))
          (pss_one (ps_expr (RK.bm (K := K) PySem.F.plainAttrs_list PySem.F.slot_list_append PySem.F.type_list_append mt_append (pv 2) (pa_cons (pe_ix (RK.ixT (K := K)) (pv 3) pe_int (fun _ _ => rfl)) pa_nil))))) (pss_one (ps_if (pt_cmpR (RK.inQ (K := K)) (pe_ix (RK.ixT (K := K)) (pv 3) pe_int (fun _ _ => rfl)) (pe_glob (v := .ref fc) (by rfl) TP.comp rfl) (by rfl)) (pss_one (ps_expr (RK.bm (K := K) PySem.F.plainAttrs_list PySem.F.slot_list_append PySem.F.type_list_append mt_append (pv 1) (pa_cons (pv 3) pa_nil)))) pss_nil))))))
      (pss_one (ps_ret (pv 1)))))), ?_⟩
    have small : (partsO c).length ≤ 2 ^ 16 := by
      cases c with
      | none => exact Nat.zero_le _
      | some t => exact Nat.le_trans (parts_len t) (Nat.pow_le_pow_right (by decide) (Nat.le_of_lt dp))
    refine sa1 ⟨(by show 0 ≤ sizeLine; decide), fun r hr0 => ?_⟩
    have sr := Same.new (o := .lst []) hr0
    refine gn ?_
    refine sa1 ?_
    cases c with
    | none =>
      obtain rfl : v = .non := C
      refine ⟨_, rfl, rfl, _, rfl, iteT ⟨(by show 0 ≤ sizeLine; decide), fun wl hw => ?_⟩⟩
      have sw := Same.new (o := .lst []) hw
      have two : r ≠ wl := fun z => by rw [← z, upd_same] at hw; cases hw
      exact mu_run (K := K) (st := []) TP.compT ⟨sr.trans sw, two, ⟨[], [], sw _ _ upd_same, .nil, rfl⟩, ⟨[], upd_same, .nil⟩, fun _ m => by cases m⟩ hr0 (by rw [upd_ne two.symm] at hw; exact hw) (Nat.zero_le _) small fun H' us s1 h1 p1 => k r H' us s1 hr0 h1 p1
    | some t =>
      have nn : decide (v = V.non) = false := by
        cases cd with
        | not _ => obtain ⟨p, x0, rfl, _⟩ := C; rfl
        | cmp _ _ _ => obtain ⟨p, x0, y0, rfl, _⟩ := C; rfl
        | join _ _ _ => obtain ⟨p, x0, y0, rfl, _⟩ := C; rfl
      refine ⟨_, rfl, rfl, _, rfl, ?_⟩
      rw [nn]
      refine iteF ⟨_, rfl, (by show 1 ≤ sizeLine; decide), fun wl hw => ?_⟩
      have sw := Same.new (o := .lst [v]) hw
      have two : r ≠ wl := fun z => by rw [← z, upd_same] at hw; cases hw
      have b1 : nd t ≤ 2 ^ 17 := by
        have h1 := nd_le t
        have h2 : 2 ^ (t.depth + 1) ≤ 2 ^ 17 := Nat.pow_le_pow_right (by decide) (show t.depth + 1 ≤ 17 from Nat.succ_le_succ (Nat.le_of_lt dp))
        omega
      exact mu_run (K := K) (st := [t]) TP.compT ⟨sr.trans sw, two, ⟨[], [], sw _ _ upd_same, .nil, List.append_nil _⟩, ⟨[v], upd_same, .cons (TrAt.keep (KeepN.of (sr.trans sw)) C) .nil⟩, fun q m => (List.mem_singleton.mp m) ▸ ⟨cd, dp⟩⟩ hr0
        (by rw [upd_ne two.symm] at hw; exact hw) (by show nd t + 0 ≤ 2 ^ 17; omega) small fun H' us s1 h1 p1 => k r H' us s1 hr0 h1 p1
end
end K04

set_option maxRecDepth 100000
set_option maxHeartbeats 4000000
namespace K04
open PySem L2
/-! ### bounds -/
theorem pair_get {α β : Type} {F : α → β → Prop} : ∀ {l₁ : List α} {l₂ : List β} {i : Nat}, Paired F l₁ l₂ → (h : i < l₂.length) → ∃ a, l₁[i]? = some a ∧ F a l₂[i]
  | _, _, 0, .cons r _, _ => ⟨_, rfl, r⟩
  | _, _, i + 1, .cons _ q, h => pair_get (i := i) q (Nat.lt_of_succ_lt_succ h)
theorem same_of {H H1 H2 : Hp} {d : Addr} (hd : H d = none) (s : Same H H1) (k : KeepD d H1 H2) : Same H H2 := fun x o e => k x o (fun z => by rw [z, hd] at e; cases e) (s x o e)
theorem same_back {H : Hp} {d D : Addr} {u o l : HO} (hd : H d = some u) (hD : upd H d o D = none) : Same H (upd (upd (upd H d o) D l) d u) := fun x v e => by
  by_cases c : x = d
  · subst c
    rw [upd_same, ← hd, e]
  · have c2 : x ≠ D := fun z => by rw [← z, upd_ne c, e] at hD; cases hD
    rw [upd_ne c, upd_ne c2, upd_ne c]
    exact e
section
variable {P : Program} {w : World} {K : PySem.W.Frag} {mg : Str → Option Value} {base : Heap}
def tNumT (K : PySem.W.Frag) (i : Nat) : TT := tTest (tOp rEq (tOp (rIxT K) (tVar i) (tC (V.int 0))) (tC (V.str (Str.ofString "num"))))
def tOfT (K : PySem.W.Frag) (i : Nat) : TT := tB (tCall (spIsof K) [] E0 (tCons (tVar i) (tCons (tVar 1) tNil)))
def tIxI (K : PySem.W.Frag) (i : Nat) (j : Int) : TE := tOp (rIxT K) (tVar i) (tC (V.int j))
def tNarrowT (K : PySem.W.Frag) (i j : Nat) (sg : TE) : TS := tDrop (tCall (spNarrow K) [] E0 (tCons (tVar 2) (tCons (tIxI K i 2) (tCons (tCall spEnds [] E0 (tCons sg (tCons (tIxI K j 1) tNil))) tNil))))
def tBd (K : PySem.W.Frag) (w : World) (ft : Addr) : TS :=
  tIfS (tAnd (tNumT K 4) (tNumT K 5)) (tIfS (tNot (tB (tCall spIsso [] E0 (tCons (tVar 3) (tCons (tIxI K 4 1) (tCons (tIxI K 5 1) tNil)))))) (tRet (tC .non)) tNext)
    (tIfS (tAnd (tOfT K 4) (tNumT K 5)) (tNarrowT K 4 5 (tVar 3))
      (tIfS (tAnd (tNumT K 4) (tOfT K 5)) (tNarrowT K 5 4 (tOp (rIxD K w) (tC (V.ref ft)) (tVar 3))) tNext))
theorem num_run {σ : L2.St} {H : Hp} {Qb : Bool → Hp → Prop} {i : Nat} {v : V} {t : Tr} (hi : σ[i]? = some (some v)) (h : TrAt K H v t) (tm : Tm t) (q : Qb (isNumT t) H) : tNumT K i σ H Qb := by
  cases tm with
  | num h1 h2 =>
    obtain ⟨p, rfl, hp⟩ := h
    exact ⟨_, hi, p, _, _, _, rfl, rfl, hp, at0, rfl, true, by decide +kernel, q⟩
  | field h1 h2 =>
    obtain ⟨p, rfl, hp⟩ := h
    exact ⟨_, hi, p, _, _, _, rfl, rfl, hp, at0, rfl, false, by decide +kernel, q⟩
  | @bin op l r ho _ _ =>
    obtain ⟨p, x, y, rfl, hp, _⟩ := h
    have e : V.bl (decide (V.str op = V.str (Str.ofString "num"))) = V.bl false := by
      simp only [List.mem_cons, List.mem_nil_iff, or_false] at ho
      rcases ho with rfl | rfl | rfl <;> decide +kernel
    exact ⟨_, hi, p, _, _, _, rfl, rfl, hp, at0, rfl, false, e, q⟩
theorem of_run {σ : L2.St} {H : Hp} {Qb : Bool → Hp → Prop} {i : Nat} {v : V} {t : Tr} {tb : Str} (hi : σ[i]? = some (some v)) (h1 : σ[1]? = some (some (.str tb))) (h : TrAt K H v t) (tm : Tm t) (q : Qb (isOfT tb t) H) : tOfT K i σ H Qb :=
  ⟨_, hi, _, h1, v, t, tb, rfl, h, tm, _, rfl, q⟩
theorem and_run {t u : TT} {σ : L2.St} {H : Hp} {Qb : Bool → Hp → Prop} {b c : Bool} (h1 : ∀ Q : Bool → Hp → Prop, Q b H → t σ H Q) (h2 : ∀ Q : Bool → Hp → Prop, Q c H → u σ H Q) (q : Qb (b && c) H) : tAnd t u σ H Qb := by
  refine h1 _ ?_
  cases b with
  | true => exact iteT (h2 _ q)
  | false => exact iteF q
/-- the ends of what narrows are taken in -/
theorem narrow_run {D : Ends} {σ : L2.St} {H : Hp} {i j : Nat} {d pF pN : Addr} {tb t0 f op sg : Str} {n : Int} {te : TE} {kvs : List (Key × V)} {fs : List (Str × Span)} (h2 : σ[2]? = some (some (.ref d))) (hi : σ[i]? = some (some (.ref pF))) (hj : σ[j]? = some (some (.ref pN)))
    (hF : SqT K H pF [.str sField, .str t0, .str f]) (hN : SqT K H pN [.str sNum, .int n]) (hop : op ∈ signs) (ht : ∀ Q : VK, Q (.str op) H → te σ H Q) (hd : H d = some (.dK kvs)) (pr : Paired (PR (BdR K) H) kvs fs) (few : kvs.length < sizeLine)
    (go : ∀ (H' : Hp) (ks : List (Key × V)), KeepD d H H' → H' d = some (.dK ks) → Paired (PR (BdR K) H') ks (stepC fs (some (f, op, n))) → D.nx σ H') : tNarrowT K i j te D σ H := by
  refine ⟨_, h2, _, hi, pF, _, _, _, rfl, rfl, hF, atI_nat (j := 2) rfl, ?_⟩
  refine ht _ ⟨_, hj, pN, _, _, _, rfl, rfl, hN, atI_nat (j := 1) rfl, op, n, rfl, hop, fun p hp => ?_⟩
  have s1 := Same.new (o := .tup [oV (lowOf op n), oV (highOf op n)]) hp
  refine ⟨d, p, f, kvs, fs, (lowOf op n, highOf op n), rfl, s1 _ _ hd, bd_keepD hd (KeepD.of s1) pr, few, SqT.of upd_same, fun H' ks kd hk pk => go H' ks ((KeepD.of s1).trans kd) hk ?_⟩
  show Paired (PR (BdR K) H') ks (putL fs f (narrow ((fs.lookup f).getD (none, none)) op n))
  rw [narrow_add]
  exact pk
theorem turn_bd {D : Ends} {v0 v6 v7 : Option V} {tb op : Str} {d ft : Addr} {vL vR : V} {L R : Tr} {H : Hp} {kvs : List (Key × V)} {fs : List (Str × Span)} (TD : ∀ x ∈ signs, KDct K w ft x (.str (flip x))) (hop : op ∈ signs)
    (hL : TrAt K H vL L) (hR : TrAt K H vR R) (tL : Tm L) (tR : Tm R) (hd : H d = some (.dK kvs)) (pr : Paired (PR (BdR K) H) kvs fs) (few : kvs.length < sizeLine)
    (bad : falseNum (.bin op L R) = true → D.rt .non H)
    (go : falseNum (.bin op L R) = false → ∀ (H' : Hp) (ks : List (Key × V)), KeepD d H H' → H' d = some (.dK ks) → Paired (PR (BdR K) H') ks (stepC fs (con tb (.bin op L R))) → D.nx [v0, some (.str tb), some (.ref d), some (.str op), some vL, some vR, v6, v7] H') :
    tBd K w ft D [v0, some (.str tb), some (.ref d), some (.str op), some vL, some vR, v6, v7] H := by
  have same : KeepD d H H := fun _ _ _ h => h
  have fl : flip op ∈ signs := by
    rcases sign_cases hop with rfl | rfl | rfl | rfl | rfl <;> decide +kernel
  refine and_run (b := isNumT L) (c := isNumT R) (fun Q q => num_run rfl hL tL q) (fun Q q => num_run rfl hR tR q) ?_
  have two : ∀ Q : Bool → Hp → Prop, Q (isOfT tb L && isNumT R) H → tAnd (tOfT K 4) (tNumT K 5) [v0, some (.str tb), some (.ref d), some (.str op), some vL, some vR, v6, v7] H Q := fun Q q =>
    and_run (fun Q q => of_run rfl rfl hL tL q) (fun Q q => num_run rfl hR tR q) q
  have three : ∀ Q : Bool → Hp → Prop, Q (isNumT L && isOfT tb R) H → tAnd (tNumT K 4) (tOfT K 5) [v0, some (.str tb), some (.ref d), some (.str op), some vL, some vR, v6, v7] H Q := fun Q q =>
    and_run (fun Q q => num_run rfl hL tL q) (fun Q q => of_run rfl rfl hR tR q) q
  cases tL with
  | @num a l1 l2 =>
    obtain ⟨pL, rfl, hpL⟩ := hL
    cases tR with
    | @num b r1 r2 =>
      obtain ⟨pR, rfl, hpR⟩ := hR
      refine iteT ?_
      refine ⟨_, rfl, _, rfl, pL, _, _, _, rfl, rfl, hpL, atI_nat (j := 1) rfl, _, rfl, pR, _, _, _, rfl, rfl, hpR, atI_nat (j := 1) rfl, op, a, b, rfl, hop, _, rfl, ?_⟩
      have e : falseNum (.bin op (.num a) (.num b)) = !fits op a b := rfl
      rw [e] at bad go
      cases c : fits op a b with
      | true => exact iteF (go (by rw [c]; rfl) H kvs same hd pr)
      | false => exact iteT (bad (by rw [c]; rfl))
    | @field t0 f r1 r2 =>
      obtain ⟨pR, rfl, hpR⟩ := hR
      refine iteF (two _ (iteF (three _ ?_)))
      have e : con tb (.bin op (.num a) (.field t0 f)) = if t0 = tb then some (f, flip op, a) else none := rfl
      rw [e] at go
      show if (decide (t0 = tb)) = true then _ else _
      by_cases c : t0 = tb
      · rw [if_pos c] at go
        rw [if_pos (decide_eq_true c)]
        exact narrow_run (tb := tb) (sg := op) rfl rfl rfl hpR hpL fl (fun Q q => ⟨_, rfl, ft, op, _, rfl, rfl, TD op hop, q⟩) hd pr few (go rfl)
      · rw [if_neg c] at go
        rw [if_neg (fun z => c (of_decide_eq_true z))]
        exact go rfl H kvs same hd pr
    | bin _ _ _ => exact iteF (two _ (iteF (three _ (iteF (go rfl H kvs same hd pr)))))
  | @field t0 f l1 l2 =>
    obtain ⟨pL, rfl, hpL⟩ := hL
    cases tR with
    | @num b r1 r2 =>
      obtain ⟨pR, rfl, hpR⟩ := hR
      have e : con tb (.bin op (.field t0 f) (.num b)) = if t0 = tb then some (f, op, b) else none := rfl
      rw [e] at go
      refine iteF (two _ ?_)
      show if (decide (t0 = tb) && true) = true then _ else _
      by_cases c : t0 = tb
      · rw [if_pos c] at go
        rw [if_pos (by rw [decide_eq_true c]; rfl)]
        exact narrow_run (tb := tb) (sg := op) rfl rfl rfl hpL hpR hop (fun Q q => ⟨_, rfl, q⟩) hd pr few (go rfl)
      · rw [if_neg c] at go
        rw [if_neg (by rw [decide_eq_false c]; decide)]
        exact three _ (iteF (go rfl H kvs same hd pr))
    | field _ _ =>
      refine iteF (two _ ?_)
      show if (isOfT tb (.field t0 f) && false) = true then _ else _
      rw [Bool.and_false]
      exact iteF (three _ (iteF (go rfl H kvs same hd pr)))
    | bin _ _ _ =>
      refine iteF (two _ ?_)
      show if (isOfT tb (.field t0 f) && false) = true then _ else _
      rw [Bool.and_false]
      exact iteF (three _ (iteF (go rfl H kvs same hd pr)))
  | bin _ _ _ =>
    cases tR with
    | num _ _ => exact iteF (two _ (iteF (three _ (iteF (go rfl H kvs same hd pr)))))
    | field _ _ => exact iteF (two _ (iteF (three _ (iteF (go rfl H kvs same hd pr)))))
    | bin _ _ _ => exact iteF (two _ (iteF (three _ (iteF (go rfl H kvs same hd pr)))))
theorem scBounds : FnScope ["cond", "table", "told", "sign", "left", "right", "least", "greatest"] ["cond", "table"] (defScope sbounds) := ⟨rfl, rfl, rfl, by decide +kernel, rfl, by decide +kernel, by decide +kernel⟩
theorem ok_bounds {fc ft f f1 f2 f3 f4 f5 f6 : Addr} {fd fd1 fd2 fd3 fd4 fd5 fd6 : FuncData} (F : Fun K "bounds" "bounds" sbounds f fd) (TP : TxtP K w mg fc ft) (Cis_so : Cal P w K mg base 2 "is_so" ["sign", "one", "other"] spIsso f1 fd1)
    (Cmusts : Cal P w K mg base 2 "musts" ["cond"] (spMusts K) f2 fd2) (Cis_of : Cal P w K mg base 2 "is_of" ["term", "table"] (spIsof K) f3 fd3) (Cends : Cal P w K mg base 2 "ends" ["sign", "number"] spEnds f4 fd4)
    (Cnarrow : Cal P w K mg base 2 "narrow" ["told", "field", "both"] (spNarrow K) f5 fd5) (Cis_crossed : Cal P w K mg base 2 "is_crossed" ["least", "greatest"] spCrossed f6 fd6) : FnOk P w K mg base CX0 3 f fd ["cond", "table"] (spBnd K) := by
  refine F.ok scBounds (fun vs H Q E h => ?_) (fun cdv A outer s H vs Q E hr h => ?_)
  · obtain ⟨v, c, tb, rfl, _⟩ := h
    rfl
  · obtain ⟨v, c, tb, rfl, C, cd, ct, dp, hok, k1, k2⟩ := h
    have hr1 : Room 2 _ := hr.mono (by decide)
    refine ⟨_, (pss_cons (ps_set (i := 2) scBounds.nd rfl (Or.inl rfl) pe_dnewK)
      (pss_cons (ps_for PassesOwn.never rfl (RK.piL (K := K) (pe_call Cmusts.G hr1 (by rfl) Cmusts.g Cmusts.kp Cmusts.b .nil pass0 (pa_cons (pv 0) pa_nil))) (RK.pgTup (K := K) (n := 3) rfl (pgs_cons (pg_name (i := 3) scBounds.nd rfl (Or.inl rfl)) (pgs_cons (pg_name (i := 4) scBounds.nd rfl (Or.inl rfl)) (pgs_cons (pg_name (i := 5) scBounds.nd rfl (Or.inl rfl)) pgs_nil))))
        (pss_one (ps_if (PW.pt (pw_and (pt_cmpR op_eq (pe_ix (RK.ixT (K := K)) (pv 4) pe_int (fun _ _ => rfl)) pe_str (nomark _)) (pw_and1 (pt_cmpR op_eq (pe_ix (RK.ixT (K := K)) (pv 5) pe_int (fun _ _ => rfl)) pe_str (nomark _))))) (pss_one (ps_if (pt_not (pt_val (pe_call Cis_so.G hr1 (by rfl) Cis_so.g Cis_so.kp Cis_so.b .nil pass0 (pa_cons (pv 3) (pa_cons (pe_ix (RK.ixT (K := K)) (pv 4) pe_int (fun _ _ => rfl)) (pa_cons (pe_ix (RK.ixT (K := K)) (pv 5) pe_int (fun _ _ => rfl)) pa_nil)))))) (pss_one (ps_ret pe_non)) pss_nil)) (pss_one (ps_if (PW.pt (pw_and (pt_val (pe_call Cis_of.G hr1 (by rfl) Cis_of.g Cis_of.kp Cis_of.b .nil pass0 (pa_cons (pv 4) (pa_cons (pv 1) pa_nil)))) (pw_and1 (pt_cmpR op_eq (pe_ix (RK.ixT (K := K)) (pv 5) pe_int (fun _ _ => rfl)) pe_str (nomark _))))) (pss_one (ps_expr (pe_call Cnarrow.G hr1 (by rfl) Cnarrow.g Cnarrow.kp Cnarrow.b .nil pass0 (pa_cons (pv 2) (pa_cons (pe_ix (RK.ixT (K := K)) (pv 4) pe_int (fun _ _ => rfl)) (pa_cons (pe_call Cends.G hr1 (by rfl) Cends.g Cends.kp Cends.b .nil pass0 (pa_cons (pv 3) (pa_cons (pe_ix (RK.ixT (K := K)) (pv 5) pe_int (fun _ _ => rfl)) pa_nil))) pa_nil)))))) (pss_one (ps_if (PW.pt (pw_and (pt_cmpR op_eq (pe_ix (RK.ixT (K := K)) (pv 4) pe_int (fun _ _ => rfl)) pe_str (nomark _)) (pw_and1 (pt_val (pe_call Cis_of.G hr1 (by rfl) Cis_of.g Cis_of.kp Cis_of.b .nil pass0 (pa_cons (pv 5) (pa_cons (pv 1) pa_nil))))))) (pss_one (ps_expr (pe_call Cnarrow.G hr1 (by rfl) Cnarrow.g Cnarrow.kp Cnarrow.b .nil pass0 (pa_cons (pv 2) (pa_cons (pe_ix (RK.ixT (K := K)) (pv 5) pe_int (fun _ _ => rfl)) (pa_cons (pe_call Cends.G hr1 (by rfl) Cends.g Cends.kp Cends.b .nil pass0 (pa_cons (pe_ix ix_kdict (pe_glob (v := .ref ft) (by rfl) TP.turn rfl) (pv 3) (fun _ _ => rfl)) (pa_cons (pe_ix (RK.ixT (K := K)) (pv 4) pe_int (fun _ _ => rfl)) pa_nil))) pa_nil)))))) pss_nil)))))))
      (pss_cons (ps_if (pt_val (pe_callB (RK.anyQ (K := K) rfl) (by rfl) TP.any (by decide +kernel) (pa_cons (pe_lock (pe_lc (own := [("least", 6), ("greatest", 7)]) rfl scBounds.nd (pi_values (pv 2)) (blkOk_by (N := ["cond", "table", "told", "sign", "left", "right", "least", "greatest"]) (sc := defScope sbounds) (by decide +kernel)) (fun _ _ _ _ _ => (RK.pgTup (K := K) (n := 2) rfl (pgs_cons (pg_name (i := 6) scBounds.nd rfl (Or.inl rfl)) (pgs_cons (pg_name (i := 7) scBounds.nd rfl (Or.inl rfl)) pgs_nil)))) (fun _ _ _ _ _ => pts_nil) (fun _ _ _ _ _ => (pe_call Cis_crossed.G hr1 (by rfl) Cis_crossed.g Cis_crossed.kp Cis_crossed.b .nil pass0 (pa_cons (pv 6) (pa_cons (pv 7) pa_nil)))))) pa_nil))) (pss_one (ps_ret pe_non)) pss_nil)
      (pss_one (ps_ret (pv 2)))))), ?_⟩
    intro d hd
    have s0 := Same.new (o := .dK []) hd
    refine gn ?_
    refine ⟨_, rfl, v, c, rfl, C.keep (KeepN.of s0), cd, dp, fun r H1 us s1 hr0 h1 p1 => ?_⟩
    have hd1 : H1 d = some (.dK []) := s1 _ _ upd_same
    have rd : r ≠ d := fun e => by rw [e, upd_same] at hr0; cases hr0
    have small : (partsO c).length ≤ 2 ^ 16 := by
      cases c with
      | none => exact Nat.zero_le _
      | some t => exact Nat.le_trans (parts_len t) (Nat.pow_le_pow_right (by decide) (Nat.le_of_lt dp))
    have lu : us.length = (partsO c).length := Paired.length p1
    have found := okS_found (tb := tb) (partsO c) ct
    refine ⟨r, rfl, ⟨_, SqL.of h1⟩, for_list (K := K) (a := r) (xs := us) (fun i σ H' => ∃ v3 v4 v5 kvs, σ = [some v, some (.str tb), some (.ref d), v3, v4, v5, none, none] ∧ KeepD d H1 H' ∧ H' d = some (.dK kvs) ∧
      Paired (PR (BdR K) H') kvs (foundL tb ((partsO c).take i)) ∧ ((partsO c).take i).any falseNum = false)
      ⟨none, none, none, [], rfl, fun _ _ _ h => h, hd1, .nil, rfl⟩ (fun i σ H' _ ⟨_, _, _, _, _, kd, _⟩ => SqL.of (kd _ _ rd h1)) ?_ ?_⟩
    · rintro i x σ H' hx ⟨v3, v4, v5, kvs, rfl, kd, hdd, pr, nf⟩
      have hi : i < (partsO c).length := by have q := (List.getElem?_eq_some_iff.mp hx).1; omega
      obtain ⟨op, L, R, ep, hop, tL, tR, _, _⟩ := ct _ (List.getElem_mem hi)
      have hx1 : TrAt K H1 x (.bin op L R) := by
        obtain ⟨y, e, ht⟩ := pair_get p1 hi
        rw [hx] at e
        cases e
        rw [ep] at ht
        exact ht
      obtain ⟨p, xL, xR, rfl, hp, hL, hR⟩ := TrAt.mono (fun t xs z => sqT_keepD z hd1 kd) hx1
      refine ⟨p, _, rfl, hp, rfl, _, _, rfl, _, _, rfl, _, _, rfl, rfl, ?_⟩
      have tk : (partsO c).take (i + 1) = (partsO c).take i ++ [.bin op L R] := by rw [List.take_add_one, List.getElem?_eq_getElem hi, ep]; rfl
      have fl : foundL tb ((partsO c).take (i + 1)) = stepC (foundL tb ((partsO c).take i)) (con tb (.bin op L R)) := by
        unfold foundL
        rw [tk, List.foldl_append]
        rfl
      have few : kvs.length < sizeLine := by
        have := (okS_found (tb := tb) ((partsO c).take i) fun z m => ct z (List.mem_of_mem_take m)).2.2
        have e2 := pr_len pr
        rw [List.length_take] at this
        exact Nat.lt_of_le_of_lt (show kvs.length ≤ 2 ^ 16 by omega) (by decide)
      refine turn_bd (K := K) TP.turnD hop hL hR tL tR hdd pr few (fun b => ?_) (fun b H2 ks kd2 hk pk => ?_)
      · have bd : Bad tb (partsO c) = true := by
          unfold Bad
          rw [Bool.or_eq_true]
          refine .inl (List.any_eq_true.mpr ⟨_, List.getElem_mem hi, ?_⟩)
          rw [ep]
          exact b
        exact k1 bd _ (same_of hd (s0.trans s1) kd)
      · refine ⟨_, _, _, ks, rfl, kd.trans kd2, hk, ?_, ?_⟩
        · rw [fl]
          exact pk
        · rw [tk, List.any_append, nf]
          show (false || (falseNum (.bin op L R) || false)) = false
          rw [b]
          rfl
    · rintro σ H' ⟨v3, v4, v5, kvs, rfl, kd, hdd, pr, nf⟩
      rw [lu, List.take_length] at pr nf
      have sm := same_of hd (s0.trans s1) kd
      dsimp only
      refine sif ?_
      refine ⟨d, _, hdd, trivial, fun od => ?_⟩
      refine ⟨_, rfl, d, od, kvs, rfl, upd_same, fun D hD => ?_⟩
      have hne : D ≠ d := fun e => by rw [e, upd_same] at hD; cases hD
      have len : kvs.length = (foundL tb (partsO c)).length := pr_len pr
      have few : (foundL tb (partsO c)).length ≤ 2 ^ 16 := Nat.le_trans found.2.2 small
      refine lc_it (walk_values (kvs := kvs)) (fun i H2 => i ≤ kvs.length ∧ H2 = upd (upd H' d (.frz od (.dK kvs))) D (.lst ((((foundL tb (partsO c)).take i).map fun p => gap p.2).map V.bl))) ⟨Nat.zero_le _, rfl⟩ ?_ ?_ ?_
      · rintro i H2 _ ⟨_, rfl⟩
        rw [upd_ne hne.symm, upd_same]
      · rintro i x H0 H2 hi ⟨_, rfl⟩ ⟨rfl, k0, hx⟩
        have hi2 : i < (foundL tb (partsO c)).length := len ▸ hi
        obtain ⟨kv, hkv, _, t, et, ht⟩ := pair_get pr hi2
        rw [hkv] at hx
        cases hx
        subst et
        have ht2 : SqT K (upd (upd H' d (.frz od (.dK kvs))) D (.lst ((((foundL tb (partsO c)).take i).map fun p => gap p.2).map V.bl))) t [oV (foundL tb (partsO c))[i].2.1, oV (foundL tb (partsO c))[i].2.2] :=
          (KeepN.of (Same.new hD)).t (sqT_keepD ht hdd fun x o n q => by rw [upd_ne n]; exact q)
        refine ⟨t, _, rfl, ht2, rfl, _, _, rfl, _, _, rfl, rfl, rfl, ?_⟩
        refine ⟨_, rfl, _, rfl, (foundL tb (partsO c))[i].2.1, (foundL tb (partsO c))[i].2.2, rfl, _, upd_same, ?_, hi, ?_⟩
        · rw [List.length_map, List.length_map, List.length_take]
          exact Nat.lt_of_le_of_lt (show min i _ ≤ 2 ^ 16 by omega) (by decide)
        · rw [upd_upd]
          have tk : (foundL tb (partsO c)).take (i + 1) = (foundL tb (partsO c)).take i ++ [(foundL tb (partsO c))[i]] := by rw [List.take_add_one, List.getElem?_eq_getElem hi2]; rfl
          rw [tk, List.map_append, List.map_append]
          rfl
      · rintro H2 ⟨_, rfl⟩
        rw [len, List.take_length]
        refine ⟨by rw [upd_ne hne.symm, upd_same], D, _, rfl, SqL.of (by rw [upd_ne hne, upd_same]), _, rfl, ?_⟩
        have e : ((foundL tb (partsO c)).map fun p => gap p.2).any id = (foundL tb (partsO c)).any fun p => gap p.2 := by
          rw [List.any_map]
          rfl
        rw [e]
        have sb : Same H (upd (upd (upd H' d (.frz od (.dK kvs))) D (.lst (((foundL tb (partsO c)).map fun p => gap p.2).map V.bl))) d (.dK kvs)) := sm.trans (same_back hdd hD)
        have be : Bad tb (partsO c) = (foundL tb (partsO c)).any fun p => gap p.2 := by
          unfold Bad
          rw [nf]
          rfl
        rw [be] at k1 k2
        cases g : (foundL tb (partsO c)).any fun p => gap p.2 with
        | true => exact iteT (k1 g _ sb)
        | false =>
          refine iteF ⟨_, rfl, ?_⟩
          refine k2 g d _ (foundL tb (partsO c)) sb hd ⟨kvs, upd_same, ?_⟩ found.2.1 (look_found tb (partsO c))
          exact bd_keepD hdd (KeepD.of (same_back hdd hD)) pr
end
end K04


set_option Elab.async false
set_option maxRecDepth 100000
set_option maxHeartbeats 4000000
namespace K04
open PySem L2
section
variable {P : Program} {w : World} {K : PySem.W.Frag} {mg : Str → Option Value} {base : Heap}
theorem all_cond {f fn ft : Addr} {fd fdn fdt : FuncData} (F : Fun K "_law_cond" "_law_cond" sLcond f fd) (T : Txt mg) (Cnext : Cal P w K mg base 1 "_law_next" ["_law_h", "_law_many"] spNext fn fdn) (Cterm : Cal P w K mg base 4 "_law_term" ["_law_h", "_law_fields", "_law_deep"] (spTerm K 2) ft fdt)
    (g : mg "_law_cond" = some (.ref f)) (b : Binds K fd ["_law_h", "_law_fields", "_law_deep"] []) : ∀ n : Nat, FnOk P w K mg base CX0 (n + 4) f fd ["_law_h", "_law_fields", "_law_deep"] (spCond K n)
  | 0 => none_left fun vs H Q E h => by
    obtain ⟨_, _, _, _, dp, _, h0, h1, _⟩ := h
    omega
  | n + 1 => ok_cond F T (Cnext.mono (by omega)) (Cterm.mono (by omega)) ⟨g, F.kp, b, all_cond F T Cnext Cterm g b n⟩
end
theorem all_mk {l : PySem.W.OpenLaw} {w : World} {K : PySem.W.Frag} {h : Heap} {mg : Str → Option Value} {fa f1 f2 f3 f4 f5 f6 f7 f8 f9 f10 f11 f12 f13 f14 f15 f16 f17 f18 f19 f20 : Addr} (X : K.In h) (G : h.Ns mainGlobals mg) (hfa : mg "law" = some (.ref fa))
    {od1 an1 od2 an2 od3 an3 od4 an4 od5 an5 od6 an6 od7 an7 od8 an8 od9 an9 od10 an10 od11 an11 od12 an12 od13 an13 od14 an14 od15 an15 od16 an16 od17 an17 od18 an18 od19 an19 od20 an20 : Option Addr} {fc ft : Addr} {odC : Option Addr} {itC : Array Value} {nC : Nat} {slC : Array (Option Value)} {esT : Array DictEntry} {nT : Nat} {tk1 tk2 tk3 tk4 tk5 : Tok} {sl1 sl2 sl3 sl4 sl5 sl6 sl7 sl8 sl9 sl10 sl11 sl12 sl13 sl14 sl15 sl16 sl17 sl18 sl19 sl20 : Array (Option Value)} {oc1 kV1 dc1 pm1 cd1 ct1 oc2 kV2 dc2 pm2 cd2 ct2 oc3 kV3 dc3 pm3 cd3 ct3 oc4 kV4 dc4 pm4 cd4 ct4 oc5 kV5 dc5 pm5 cd5 ct5 oc6 kV6 dc6 pm6 cd6 ct6 oc7 kV7 dc7 pm7 cd7 ct7 oc8 kV8 dc8 pm8 cd8 ct8 oc9 kV9 dc9 pm9 cd9 ct9 oc10 kV10 dc10 pm10 cd10 ct10 oc11 kV11 dc11 pm11 cd11 ct11 oc12 kV12 dc12 pm12 cd12 ct12 oc13 kV13 dc13 pm13 cd13 ct13 oc14 kV14 dc14 pm14 cd14 ct14 oc15 kV15 dc15 pm15 cd15 ct15 oc16 kV16 dc16 pm16 cd16 ct16 oc17 kV17 dc17 pm17 cd17 ct17 oc18 kV18 dc18 pm18 cd18 ct18 oc19 kV19 dc19 pm19 cd19 ct19 oc20 kV20 dc20 pm20 cd20 ct20 : Value}
    (a1 : PySem.W.nsIn K mainGlobals "is_so" = some (some (.ref f1))) (l1 : K.lookup f1 = some ⟨oc1, od1, .func (PySem.W.fnOf "is_so" "is_so" (defArgs sisso) (defBody sisso) (defScope sisso) .none kV1 dc1 pm1 an1 cd1 ct1), sl1⟩) (c1 : PySem.W.codeIn K cd1 "is_so" = true) (k1 : PySem.W.keepIn K (.ref f1) = true)
    (a2 : PySem.W.nsIn K mainGlobals "bounds" = some (some (.ref f2))) (l2 : K.lookup f2 = some ⟨oc2, od2, .func (PySem.W.fnOf "bounds" "bounds" (defArgs sbounds) (defBody sbounds) (defScope sbounds) .none kV2 dc2 pm2 an2 cd2 ct2), sl2⟩) (c2 : PySem.W.codeIn K cd2 "bounds" = true) (k2 : PySem.W.keepIn K (.ref f2) = true)
    (a3 : PySem.W.nsIn K mainGlobals "musts" = some (some (.ref f3))) (l3 : K.lookup f3 = some ⟨oc3, od3, .func (PySem.W.fnOf "musts" "musts" (defArgs smusts) (defBody smusts) (defScope smusts) .none kV3 dc3 pm3 an3 cd3 ct3), sl3⟩) (c3 : PySem.W.codeIn K cd3 "musts" = true) (k3 : PySem.W.keepIn K (.ref f3) = true)
    (a4 : PySem.W.nsIn K mainGlobals "is_of" = some (some (.ref f4))) (l4 : K.lookup f4 = some ⟨oc4, od4, .func (PySem.W.fnOf "is_of" "is_of" (defArgs sisof) (defBody sisof) (defScope sisof) .none kV4 dc4 pm4 an4 cd4 ct4), sl4⟩) (c4 : PySem.W.codeIn K cd4 "is_of" = true) (k4 : PySem.W.keepIn K (.ref f4) = true)
    (a5 : PySem.W.nsIn K mainGlobals "ends" = some (some (.ref f5))) (l5 : K.lookup f5 = some ⟨oc5, od5, .func (PySem.W.fnOf "ends" "ends" (defArgs sends) (defBody sends) (defScope sends) .none kV5 dc5 pm5 an5 cd5 ct5), sl5⟩) (c5 : PySem.W.codeIn K cd5 "ends" = true) (k5 : PySem.W.keepIn K (.ref f5) = true)
    (a6 : PySem.W.nsIn K mainGlobals "narrow" = some (some (.ref f6))) (l6 : K.lookup f6 = some ⟨oc6, od6, .func (PySem.W.fnOf "narrow" "narrow" (defArgs snarrow) (defBody snarrow) (defScope snarrow) .none kV6 dc6 pm6 an6 cd6 ct6), sl6⟩) (c6 : PySem.W.codeIn K cd6 "narrow" = true) (k6 : PySem.W.keepIn K (.ref f6) = true)
    (a7 : PySem.W.nsIn K mainGlobals "greater" = some (some (.ref f7))) (l7 : K.lookup f7 = some ⟨oc7, od7, .func (PySem.W.fnOf "greater" "greater" (defArgs sgreater) (defBody sgreater) (defScope sgreater) .none kV7 dc7 pm7 an7 cd7 ct7), sl7⟩) (c7 : PySem.W.codeIn K cd7 "greater" = true) (k7 : PySem.W.keepIn K (.ref f7) = true)
    (a8 : PySem.W.nsIn K mainGlobals "lesser" = some (some (.ref f8))) (l8 : K.lookup f8 = some ⟨oc8, od8, .func (PySem.W.fnOf "lesser" "lesser" (defArgs slesser) (defBody slesser) (defScope slesser) .none kV8 dc8 pm8 an8 cd8 ct8), sl8⟩) (c8 : PySem.W.codeIn K cd8 "lesser" = true) (k8 : PySem.W.keepIn K (.ref f8) = true)
    (a9 : PySem.W.nsIn K mainGlobals "is_crossed" = some (some (.ref f9))) (l9 : K.lookup f9 = some ⟨oc9, od9, .func (PySem.W.fnOf "is_crossed" "is_crossed" (defArgs siscrossed) (defBody siscrossed) (defScope siscrossed) .none kV9 dc9 pm9 an9 cd9 ct9), sl9⟩) (c9 : PySem.W.codeIn K cd9 "is_crossed" = true) (k9 : PySem.W.keepIn K (.ref f9) = true)
    (a10 : PySem.W.nsIn K mainGlobals "_law_mix" = some (some (.ref f10))) (l10 : K.lookup f10 = some ⟨oc10, od10, .func (PySem.W.fnOf "_law_mix" "_law_mix" (defArgs sLmix) (defBody sLmix) (defScope sLmix) .none kV10 dc10 pm10 an10 cd10 ct10), sl10⟩) (c10 : PySem.W.codeIn K cd10 "_law_mix" = true) (k10 : PySem.W.keepIn K (.ref f10) = true)
    (a11 : PySem.W.nsIn K mainGlobals "_law_next" = some (some (.ref f11))) (l11 : K.lookup f11 = some ⟨oc11, od11, .func (PySem.W.fnOf "_law_next" "_law_next" (defArgs sLnext) (defBody sLnext) (defScope sLnext) .none kV11 dc11 pm11 an11 cd11 ct11), sl11⟩) (c11 : PySem.W.codeIn K cd11 "_law_next" = true) (k11 : PySem.W.keepIn K (.ref f11) = true)
    (a12 : PySem.W.nsIn K mainGlobals "_law_shapes" = some (some (.ref f12))) (l12 : K.lookup f12 = some ⟨oc12, od12, .func (PySem.W.fnOf "_law_shapes" "_law_shapes" (defArgs sLshapes) (defBody sLshapes) (defScope sLshapes) .none kV12 dc12 pm12 an12 cd12 ct12), sl12⟩) (c12 : PySem.W.codeIn K cd12 "_law_shapes" = true) (k12 : PySem.W.keepIn K (.ref f12) = true)
    (a13 : PySem.W.nsIn K mainGlobals "_law_number" = some (some (.ref f13))) (l13 : K.lookup f13 = some ⟨oc13, od13, .func (PySem.W.fnOf "_law_number" "_law_number" (defArgs sLnumber) (defBody sLnumber) (defScope sLnumber) .none kV13 dc13 pm13 an13 cd13 ct13), sl13⟩) (c13 : PySem.W.codeIn K cd13 "_law_number" = true) (k13 : PySem.W.keepIn K (.ref f13) = true)
    (a14 : PySem.W.nsIn K mainGlobals "_law_term" = some (some (.ref f14))) (l14 : K.lookup f14 = some ⟨oc14, od14, .func (PySem.W.fnOf "_law_term" "_law_term" (defArgs sLterm) (defBody sLterm) (defScope sLterm) .none kV14 dc14 pm14 an14 cd14 ct14), sl14⟩) (c14 : PySem.W.codeIn K cd14 "_law_term" = true) (k14 : PySem.W.keepIn K (.ref f14) = true)
    (a15 : PySem.W.nsIn K mainGlobals "_law_cond" = some (some (.ref f15))) (l15 : K.lookup f15 = some ⟨oc15, od15, .func (PySem.W.fnOf "_law_cond" "_law_cond" (defArgs sLcond) (defBody sLcond) (defScope sLcond) .none kV15 dc15 pm15 an15 cd15 ct15), sl15⟩) (c15 : PySem.W.codeIn K cd15 "_law_cond" = true) (k15 : PySem.W.keepIn K (.ref f15) = true)
    (a16 : PySem.W.nsIn K mainGlobals "_law_some" = some (some (.ref f16))) (l16 : K.lookup f16 = some ⟨oc16, od16, .func (PySem.W.fnOf "_law_some" "_law_some" (defArgs sLsome) (defBody sLsome) (defScope sLsome) .none kV16 dc16 pm16 an16 cd16 ct16), sl16⟩) (c16 : PySem.W.codeIn K cd16 "_law_some" = true) (k16 : PySem.W.keepIn K (.ref f16) = true)
    (a17 : PySem.W.nsIn K mainGlobals "_law_parts" = some (some (.ref f17))) (l17 : K.lookup f17 = some ⟨oc17, od17, .func (PySem.W.fnOf "_law_parts" "_law_parts" (defArgs sLparts) (defBody sLparts) (defScope sLparts) .none kV17 dc17 pm17 an17 cd17 ct17), sl17⟩) (c17 : PySem.W.codeIn K cd17 "_law_parts" = true) (k17 : PySem.W.keepIn K (.ref f17) = true)
    (a18 : PySem.W.nsIn K mainGlobals "_law_fits" = some (some (.ref f18))) (l18 : K.lookup f18 = some ⟨oc18, od18, .func (PySem.W.fnOf "_law_fits" "_law_fits" (defArgs sLfits) (defBody sLfits) (defScope sLfits) .none kV18 dc18 pm18 an18 cd18 ct18), sl18⟩) (c18 : PySem.W.codeIn K cd18 "_law_fits" = true) (k18 : PySem.W.keepIn K (.ref f18) = true)
    (a19 : PySem.W.nsIn K mainGlobals "_law_due" = some (some (.ref f19))) (l19 : K.lookup f19 = some ⟨oc19, od19, .func (PySem.W.fnOf "_law_due" "_law_due" (defArgs sLdue) (defBody sLdue) (defScope sLdue) .none kV19 dc19 pm19 an19 cd19 ct19), sl19⟩) (c19 : PySem.W.codeIn K cd19 "_law_due" = true) (k19 : PySem.W.keepIn K (.ref f19) = true)
    (a20 : PySem.W.nsIn K mainGlobals "law" = some (some (.ref f20))) (l20 : K.lookup f20 = some ⟨oc20, od20, .func (PySem.W.fnOf "law" "law" (defArgs slaw) (defBody slaw) (defScope slaw) .none kV20 dc20 pm20 an20 cd20 ct20), sl20⟩) (c20 : PySem.W.codeIn K cd20 "law" = true) (k20 : PySem.W.keepIn K (.ref f20) = true)
    (z_len : PySem.W.nsIn K mainGlobals "len" = some none) (z_range : PySem.W.nsIn K mainGlobals "range" = some none) (z_list : PySem.W.nsIn K mainGlobals "list" = some none) (z_tuple : PySem.W.nsIn K mainGlobals "tuple" = some none) (z_max : PySem.W.nsIn K mainGlobals "max" = some none) (z_sorted : PySem.W.nsIn K mainGlobals "sorted" = some none) (z_isinstance : PySem.W.nsIn K mainGlobals "isinstance" = some none) (z_dict : PySem.W.nsIn K mainGlobals "dict" = some none) (z_int : PySem.W.nsIn K mainGlobals "int" = some none) (z_min : PySem.W.nsIn K mainGlobals "min" = some none) (z_any : PySem.W.nsIn K mainGlobals "any" = some none)
    (aC : PySem.W.nsIn K mainGlobals "COMPARISONS" = some (some (.ref fc)))
    (lC : K.lookup fc = some ⟨.type "tuple", odC, .seq itC nC, slC⟩)
    (hC : itC.size ≤ sizeLine)
    (vC : Vals (signs.map V.str) itC.toList)
    (aT : PySem.W.nsIn K mainGlobals "TURNED" = some (some (.ref ft)))
    (lT : K.lookup ft = some ⟨.type "dict", none, .dict esT nT, #[]⟩)
    (vT : PySem.W.KeysLit w.params esT.toList)
    (t1 : PySem.W.nsIn K ft "=" = some (some (.str "=" tk1)))
    (t2 : PySem.W.nsIn K ft "<" = some (some (.str ">" tk2)))
    (t3 : PySem.W.nsIn K ft ">" = some (some (.str "<" tk3)))
    (t4 : PySem.W.nsIn K ft "<=" = some (some (.str ">=" tk4)))
    (t5 : PySem.W.nsIn K ft ">=" = some (some (.str "<=" tk5))) :
    ∃ fd : FuncData, (∀ (s : Shared) (v : Value), BindsTo s fd ⟨[v], []⟩ [("_law_script", v)]) ∧ ∀ base : Heap, K.In base → base.Ns mainGlobals mg → FnOk l.prog w K mg base CX0 20 fa fd ["_law_script"] (spLaw K) := by
  have e := hfa.symm.trans (PySem.W.mg_of X G a20)
  cases e
  have m_len : mg "len" = none := PySem.W.mg_none_of X G z_len
  have m_range : mg "range" = none := PySem.W.mg_none_of X G z_range
  have m_list : mg "list" = none := PySem.W.mg_none_of X G z_list
  have m_tuple : mg "tuple" = none := PySem.W.mg_none_of X G z_tuple
  have m_max : mg "max" = none := PySem.W.mg_none_of X G z_max
  have m_sorted : mg "sorted" = none := PySem.W.mg_none_of X G z_sorted
  have m_isinstance : mg "isinstance" = none := PySem.W.mg_none_of X G z_isinstance
  have m_dict : mg "dict" = none := PySem.W.mg_none_of X G z_dict
  have m_int : mg "int" = none := PySem.W.mg_none_of X G z_int
  have m_min : mg "min" = none := PySem.W.mg_none_of X G z_min
  have m_any : mg "any" = none := PySem.W.mg_none_of X G z_any
  have F1 := fun_mk (st := sisso) l1 c1 k1
  have g1 : mg "is_so" = some (.ref f1) := PySem.W.mg_of X G a1
  have b1 := F1.binds (ps := ["sign", "one", "other"]) fun _ _ _ _ _ _ us hl => match us, hl with | [_, _, _], _ => rfl
  have F2 := fun_mk (st := sbounds) l2 c2 k2
  have g2 : mg "bounds" = some (.ref f2) := PySem.W.mg_of X G a2
  have b2 := F2.binds (ps := ["cond", "table"]) fun _ _ _ _ _ _ us hl => match us, hl with | [_, _], _ => rfl
  have F3 := fun_mk (st := smusts) l3 c3 k3
  have g3 : mg "musts" = some (.ref f3) := PySem.W.mg_of X G a3
  have b3 := F3.binds (ps := ["cond"]) fun _ _ _ _ _ _ us hl => match us, hl with | [_], _ => rfl
  have F4 := fun_mk (st := sisof) l4 c4 k4
  have g4 : mg "is_of" = some (.ref f4) := PySem.W.mg_of X G a4
  have b4 := F4.binds (ps := ["term", "table"]) fun _ _ _ _ _ _ us hl => match us, hl with | [_, _], _ => rfl
  have F5 := fun_mk (st := sends) l5 c5 k5
  have g5 : mg "ends" = some (.ref f5) := PySem.W.mg_of X G a5
  have b5 := F5.binds (ps := ["sign", "number"]) fun _ _ _ _ _ _ us hl => match us, hl with | [_, _], _ => rfl
  have F6 := fun_mk (st := snarrow) l6 c6 k6
  have g6 : mg "narrow" = some (.ref f6) := PySem.W.mg_of X G a6
  have b6 := F6.binds (ps := ["told", "field", "both"]) fun _ _ _ _ _ _ us hl => match us, hl with | [_, _, _], _ => rfl
  have F7 := fun_mk (st := sgreater) l7 c7 k7
  have g7 : mg "greater" = some (.ref f7) := PySem.W.mg_of X G a7
  have b7 := F7.binds (ps := ["one", "other"]) fun _ _ _ _ _ _ us hl => match us, hl with | [_, _], _ => rfl
  have F8 := fun_mk (st := slesser) l8 c8 k8
  have g8 : mg "lesser" = some (.ref f8) := PySem.W.mg_of X G a8
  have b8 := F8.binds (ps := ["one", "other"]) fun _ _ _ _ _ _ us hl => match us, hl with | [_, _], _ => rfl
  have F9 := fun_mk (st := siscrossed) l9 c9 k9
  have g9 : mg "is_crossed" = some (.ref f9) := PySem.W.mg_of X G a9
  have b9 := F9.binds (ps := ["least", "greatest"]) fun _ _ _ _ _ _ us hl => match us, hl with | [_, _], _ => rfl
  have F10 := fun_mk (st := sLmix) l10 c10 k10
  have g10 : mg "_law_mix" = some (.ref f10) := PySem.W.mg_of X G a10
  have b10 := F10.binds (ps := ["_law_script", "_law_seed"]) fun _ _ _ _ _ _ us hl => match us, hl with | [_, _], _ => rfl
  have F11 := fun_mk (st := sLnext) l11 c11 k11
  have g11 : mg "_law_next" = some (.ref f11) := PySem.W.mg_of X G a11
  have b11 := F11.binds (ps := ["_law_h", "_law_many"]) fun _ _ _ _ _ _ us hl => match us, hl with | [_, _], _ => rfl
  have F12 := fun_mk (st := sLshapes) l12 c12 k12
  have g12 : mg "_law_shapes" = some (.ref f12) := PySem.W.mg_of X G a12
  have b12 := F12.binds (ps := ["_law_h", "_law_many"]) fun _ _ _ _ _ _ us hl => match us, hl with | [_, _], _ => rfl
  have F13 := fun_mk (st := sLnumber) l13 c13 k13
  have g13 : mg "_law_number" = some (.ref f13) := PySem.W.mg_of X G a13
  have b13 := F13.binds (ps := ["_law_h"]) fun _ _ _ _ _ _ us hl => match us, hl with | [_], _ => rfl
  have F14 := fun_mk (st := sLterm) l14 c14 k14
  have g14 : mg "_law_term" = some (.ref f14) := PySem.W.mg_of X G a14
  have b14 := F14.binds (ps := ["_law_h", "_law_fields", "_law_deep"]) fun _ _ _ _ _ _ us hl => match us, hl with | [_, _, _], _ => rfl
  have F15 := fun_mk (st := sLcond) l15 c15 k15
  have g15 : mg "_law_cond" = some (.ref f15) := PySem.W.mg_of X G a15
  have b15 := F15.binds (ps := ["_law_h", "_law_fields", "_law_deep"]) fun _ _ _ _ _ _ us hl => match us, hl with | [_, _, _], _ => rfl
  have F16 := fun_mk (st := sLsome) l16 c16 k16
  have g16 : mg "_law_some" = some (.ref f16) := PySem.W.mg_of X G a16
  have b16 := F16.binds (ps := ["_law_h", "_law_shapes_here", "_law_tables"]) fun _ _ _ _ _ _ us hl => match us, hl with | [_, _, _], _ => rfl
  have F17 := fun_mk (st := sLparts) l17 c17 k17
  have g17 : mg "_law_parts" = some (.ref f17) := PySem.W.mg_of X G a17
  have b17 := F17.binds (ps := ["_law_cond_here"]) fun _ _ _ _ _ _ us hl => match us, hl with | [_], _ => rfl
  have F18 := fun_mk (st := sLfits) l18 c18 k18
  have g18 : mg "_law_fits" = some (.ref f18) := PySem.W.mg_of X G a18
  have b18 := F18.binds (ps := ["_law_word", "_law_one", "_law_other"]) fun _ _ _ _ _ _ us hl => match us, hl with | [_, _, _], _ => rfl
  have F19 := fun_mk (st := sLdue) l19 c19 k19
  have g19 : mg "_law_due" = some (.ref f19) := PySem.W.mg_of X G a19
  have b19 := F19.binds (ps := ["_law_cond_here", "_law_table"]) fun _ _ _ _ _ _ us hl => match us, hl with | [_, _], _ => rfl
  have F20 := fun_mk (st := slaw) l20 c20 k20
  have T1 : Txt mg := ⟨m_len, m_range, m_list, m_tuple, m_max⟩
  have TL : TxtL mg := ⟨T1, m_sorted, m_isinstance, m_dict⟩
  have TC : TxtC mg := ⟨T1, m_int, m_min⟩
  have TP : TxtP K w mg fc ft := ⟨m_any, m_max, m_min, PySem.W.mg_of X G aC, fun _ => .inr ⟨_, itC, nC, lC, rfl, rfl, hC, vC⟩, PySem.W.mg_of X G aT, fun op hop => by
    rcases sign_cases hop with rfl | rfl | rfl | rfl | rfl
    · exact ⟨esT, nT, _, lT, vT, t1, ⟨_, rfl⟩⟩
    · exact ⟨esT, nT, _, lT, vT, t2, ⟨_, rfl⟩⟩
    · exact ⟨esT, nT, _, lT, vT, t3, ⟨_, rfl⟩⟩
    · exact ⟨esT, nT, _, lT, vT, t4, ⟨_, rfl⟩⟩
    · exact ⟨esT, nT, _, lT, vT, t5, ⟨_, rfl⟩⟩⟩
  refine ⟨PySem.W.fnOf "law" "law" (defArgs slaw) (defBody slaw) (defScope slaw) .none kV20 dc20 pm20 an20 cd20 ct20, fun s v => .of_eq rfl, fun base _ _ => ?_⟩
  have C1 : Cal l.prog w K mg base 2 "is_so" ["sign", "one", "other"] spIsso f1 _ := ⟨g1, k1, b1, (ok_isso F1).mono (by decide)⟩
  have C3 : Cal l.prog w K mg base 2 "musts" ["cond"] (spMusts K) f3 _ := ⟨g3, k3, b3, (ok_musts F3 TP).mono (by decide)⟩
  have C4 : Cal l.prog w K mg base 2 "is_of" ["term", "table"] (spIsof K) f4 _ := ⟨g4, k4, b4, (ok_isof F4).mono (by decide)⟩
  have C5 : Cal l.prog w K mg base 2 "ends" ["sign", "number"] spEnds f5 _ := ⟨g5, k5, b5, (ok_ends F5).mono (by decide)⟩
  have C7 : Cal l.prog w K mg base 1 "greater" ["one", "other"] spGreater f7 _ := ⟨g7, k7, b7, ok_greater F7 TP⟩
  have C8 : Cal l.prog w K mg base 1 "lesser" ["one", "other"] spLesser f8 _ := ⟨g8, k8, b8, ok_lesser F8 TP⟩
  have C9 : Cal l.prog w K mg base 2 "is_crossed" ["least", "greatest"] spCrossed f9 _ := ⟨g9, k9, b9, (ok_crossed F9).mono (by decide)⟩
  have C6 : Cal l.prog w K mg base 2 "narrow" ["told", "field", "both"] (spNarrow K) f6 _ := ⟨g6, k6, b6, ok_narrow2 F6 C7 C8⟩
  have C2 : Cal l.prog w K mg base 19 "bounds" ["cond", "table"] (spBnd K) f2 _ := ⟨g2, k2, b2, (ok_bounds F2 TP C1 C3 C4 C5 C6 C9).mono (by decide)⟩
  have C10 : Cal l.prog w K mg base 19 "_law_mix" ["_law_script", "_law_seed"] (spMix K) f10 _ := ⟨g10, k10, b10, (ok_mix F10 T1).mono (by decide)⟩
  have C11 : Cal l.prog w K mg base 1 "_law_next" ["_law_h", "_law_many"] spNext f11 _ := ⟨g11, k11, b11, ok_next F11 T1⟩
  have C13 : Cal l.prog w K mg base 2 "_law_number" ["_law_h"] spNumber f13 _ := ⟨g13, k13, b13, ok_number F13 C11⟩
  have C12 : Cal l.prog w K mg base 19 "_law_shapes" ["_law_h", "_law_many"] (spShapes K) f12 _ := ⟨g12, k12, b12, (ok_shapes F12 T1 C11).mono (by decide)⟩
  have C14 : Cal l.prog w K mg base 4 "_law_term" ["_law_h", "_law_fields", "_law_deep"] (spTerm K 2) f14 _ := ⟨g14, k14, b14, all_term F14 T1 C11 C13 g14 b14 2⟩
  have C15 : Cal l.prog w K mg base 19 "_law_cond" ["_law_h", "_law_fields", "_law_deep"] (spCond K 5) f15 _ := ⟨g15, k15, b15, (all_cond F15 T1 C11 C14 g15 b15 5).mono (by decide)⟩
  have C16 : Cal l.prog w K mg base 19 "_law_some" ["_law_h", "_law_shapes_here", "_law_tables"] (spSome K) f16 _ := ⟨g16, k16, b16, (ok_some F16).mono (by decide)⟩
  have C17 : Cal l.prog w K mg base 16 "_law_parts" ["_law_cond_here"] (spParts K 16) f17 _ := ⟨g17, k17, b17, all_parts F17 g17 b17 16⟩
  have C18 : Cal l.prog w K mg base 16 "_law_fits" ["_law_word", "_law_one", "_law_other"] spFits f18 _ := ⟨g18, k18, b18, (ok_fits F18).mono (by decide)⟩
  have C19 : Cal l.prog w K mg base 19 "_law_due" ["_law_cond_here", "_law_table"] (spBnd K) f19 _ := ⟨g19, k19, b19, (ok_due F19 TC C17 C18).mono (by decide)⟩
  exact ok_law F20 TL C10 (C11.mono (by decide)) C12 C16 C15 C19 C2

theorem walk {l : PySem.W.OpenLaw} {q : Program} {loose : List Str} {XP : (Str → Option Value) → Heap → Prop} {YP : World → Heap → Prop} {d : DefRec} {K : Params → PySem.W.Frag} (hn : l.most = some 63) (hdf : d.params.defaults = [])
    (hY : ∀ (w : World) (h : Heap), YP w h → (K w.params).In h)
    (F : ∀ (w : World) (mg : Str → Option Value) (fa : Addr) (h : Heap), (K w.params).In h → h.Ns mainGlobals mg → mg d.name = some (.ref fa) →
      ∃ fd : FuncData, (∀ (s : Shared) (u : Value), BindsTo s fd ⟨[u], []⟩ [("_law_script", u)]) ∧ ∀ base : Heap, (K w.params).In base → base.Ns mainGlobals mg → FnOk l.prog w (K w.params) mg base CX0 20 fa fd ["_law_script"] (spLaw (K w.params))) :
    PySem.W.WalkO q loose XP YP l.row.toRowW d [] (fun f vs => PySem.call f vs) :=
  L2.walk_of (n := 63) (k := 20) (x := "_law_script") (CX := fun _ => CX0) (sp := fun w => spLaw (K w.params)) hn (by decide) hdf ⟨rfl, by decide, by decide⟩ hY F (fun _ _ a ns hl _ hS => ⟨a, ns, rfl, hS, hl, fun _ => rfl⟩) fun _ _ _ _ _ z => z
end K04
open PySem PySem.W PyProof.Rows in
set_option maxRecDepth 100000 in
set_option maxHeartbeats 0 in
theorem PySem.Challenge.cw_granary_k04_what_conditions_say_of_field_holds : PySem.Challenge.rw_granary_k04_what_conditions_say_of_field.Holds := by
  w_on; o_law; k_head; (case hw => w_witness2)
  k_fill
  refine K04.walk (l := PySem.Challenge.rw_granary_k04_what_conditions_say_of_field) rfl rfl (fun w h Y => PySem.W.kIn_of Y) ?F
  case F =>
    intro w mg fa h KX G hmg
    refine' K04.all_mk KX G hmg ?a1 ?l1 ?c1 ?k1 ?a2 ?l2 ?c2 ?k2 ?a3 ?l3 ?c3 ?k3 ?a4 ?l4 ?c4 ?k4 ?a5 ?l5 ?c5 ?k5 ?a6 ?l6 ?c6 ?k6 ?a7 ?l7 ?c7 ?k7 ?a8 ?l8 ?c8 ?k8 ?a9 ?l9 ?c9 ?k9 ?a10 ?l10 ?c10 ?k10 ?a11 ?l11 ?c11 ?k11 ?a12 ?l12 ?c12 ?k12 ?a13 ?l13 ?c13 ?k13 ?a14 ?l14 ?c14 ?k14 ?a15 ?l15 ?c15 ?k15 ?a16 ?l16 ?c16 ?k16 ?a17 ?l17 ?c17 ?k17 ?a18 ?l18 ?c18 ?k18 ?a19 ?l19 ?c19 ?k19 ?a20 ?l20 ?c20 ?k20 ?z_len ?z_range ?z_list ?z_tuple ?z_max ?z_sorted ?z_isinstance ?z_dict ?z_int ?z_min ?z_any ?aC ?lC ?hC ?vC ?aT ?lT ?vT ?t1 ?t2 ?t3 ?t4 ?t5
    (case a1 => k_is)
    (case l1 => k_is)
    (case c1 => k_is)
    (case k1 => k_is)
    (case a2 => k_is)
    (case l2 => k_is)
    (case c2 => k_is)
    (case k2 => k_is)
    (case a3 => k_is)
    (case l3 => k_is)
    (case c3 => k_is)
    (case k3 => k_is)
    (case a4 => k_is)
    (case l4 => k_is)
    (case c4 => k_is)
    (case k4 => k_is)
    (case a5 => k_is)
    (case l5 => k_is)
    (case c5 => k_is)
    (case k5 => k_is)
    (case a6 => k_is)
    (case l6 => k_is)
    (case c6 => k_is)
    (case k6 => k_is)
    (case a7 => k_is)
    (case l7 => k_is)
    (case c7 => k_is)
    (case k7 => k_is)
    (case a8 => k_is)
    (case l8 => k_is)
    (case c8 => k_is)
    (case k8 => k_is)
    (case a9 => k_is)
    (case l9 => k_is)
    (case c9 => k_is)
    (case k9 => k_is)
    (case a10 => k_is)
    (case l10 => k_is)
    (case c10 => k_is)
    (case k10 => k_is)
    (case a11 => k_is)
    (case l11 => k_is)
    (case c11 => k_is)
    (case k11 => k_is)
    (case a12 => k_is)
    (case l12 => k_is)
    (case c12 => k_is)
    (case k12 => k_is)
    (case a13 => k_is)
    (case l13 => k_is)
    (case c13 => k_is)
    (case k13 => k_is)
    (case a14 => k_is)
    (case l14 => k_is)
    (case c14 => k_is)
    (case k14 => k_is)
    (case a15 => k_is)
    (case l15 => k_is)
    (case c15 => k_is)
    (case k15 => k_is)
    (case a16 => k_is)
    (case l16 => k_is)
    (case c16 => k_is)
    (case k16 => k_is)
    (case a17 => k_is)
    (case l17 => k_is)
    (case c17 => k_is)
    (case k17 => k_is)
    (case a18 => k_is)
    (case l18 => k_is)
    (case c18 => k_is)
    (case k18 => k_is)
    (case a19 => k_is)
    (case l19 => k_is)
    (case c19 => k_is)
    (case k19 => k_is)
    (case a20 => k_is)
    (case l20 => k_is)
    (case c20 => k_is)
    (case k20 => k_is)
    (case z_len => k_is)
    (case z_range => k_is)
    (case z_list => k_is)
    (case z_tuple => k_is)
    (case z_max => k_is)
    (case z_sorted => k_is)
    (case z_isinstance => k_is)
    (case z_dict => k_is)
    (case z_int => k_is)
    (case z_min => k_is)
    (case z_any => k_is)
    (case aC => k_is)
    (case lC => k_is)
    (case hC => decide)
    (case vC => exact .cons ⟨_, rfl⟩ (.cons ⟨_, rfl⟩ (.cons ⟨_, rfl⟩ (.cons ⟨_, rfl⟩ (.cons ⟨_, rfl⟩ .nil)))))
    (case aT => k_is)
    (case lT => k_is)
    (case vT => exact ⟨⟨_, _, rfl, rfl⟩, ⟨_, _, rfl, rfl⟩, ⟨_, _, rfl, rfl⟩, ⟨_, _, rfl, rfl⟩, ⟨_, _, rfl, rfl⟩, trivial⟩)
    (case t1 => k_is)
    (case t2 => k_is)
    (case t3 => k_is)
    (case t4 => k_is)
    (case t5 => k_is)

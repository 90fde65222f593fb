import PyProof.Rows.All
import Wide.All
import OpenK.AllK
import Wide.FinOn
import HandS.ForMost
import HandS.IsInst
import HandS.TupAny
import HandS.Deep
import HandS.Flow
import HandS.Style
import KE.GoesEnum
import HandS.Walk
import HandS.WideMore
import PySem.Challenge.RW_granary_k33_clashes
import PyProof.DictMoreH
import HandS.DictTup
import HandS.More
import HandS.Strs
import HandS.ReCall
import HandS.Conv
import HandS.Sort
import KE.KDictCopyH
import HandS.Defaults
import HandS.DictComp
import HandS.DeepEq
import HandS.ListEq
import HandS.List
import HandS.SortKw
import KE.DataMinMax
import HandS.Dict
import KE.SortData
import KE.KDictSum
import HandS.Comp
import PyProof.NeKinds
import HandS.ForExc
import HandS.ExcOwn
import HandS.WordsExc
import HandS.WordsDict
import HandS.MakeKwOnly
import HandS.Exc
import HandS.TryOnly
import HandS.Lambda
import HandS.Nested
import HandS.ExcIs
import HandS.EndTab
import HandS.EndOwn
import HandS.Finally
set_option Elab.async false
namespace RK
open PySem L2
section
variable {X : Cx} {K : PySem.W.Frag}
theorem ixL (h : X.K = K := by rfl) : IxR X (rIxL K) := by subst h; exact ix_list
theorem ixT (h : X.K = K := by rfl) : IxR X (rIxT K) := by subst h; exact ix_tup
theorem ixQ (h : X.K = K := by rfl) : IxR X (rIx K) := by subst h; exact ix_seq
theorem eqD (hu : X.A.units + 64 < cLine) (h : X.K = K := by rfl) : OpR X (compareOp .Eq) (rEqD K) := by subst h; exact op_eqD hu
theorem neD (hu : X.A.units + 64 < cLine) (h : X.K = K := by rfl) : OpR X (compareOp .NotEq) (rNeD K) := by subst h; exact op_neD hu
theorem inQ (h : X.K = K := by rfl) : OpR X (compareOp .In) (rIn K false) := by subst h; exact op_in_seq
theorem notInQ (h : X.K = K := by rfl) : OpR X (compareOp .NotIn) (rIn K true) := by subst h; exact op_notIn_seq
def rLenQ (K : PySem.W.Frag) : List V → Hp → VK → Prop := fun xs H Q => ∃ p ys, xs = [.ref p] ∧ (SqL K H p ys ∨ SqT K H p ys) ∧ Q (.int ys.length) H
theorem lenQ (h : X.K = K := by rfl) : CallR X (.builtin "len") (rLenQ K) := by subst h; exact call_len_seq
def rListQ (K : PySem.W.Frag) : List V → Hp → VK → Prop := fun xs H Q => ∃ p ys, xs = [.ref p] ∧ (SqL K H p ys ∨ SqT K H p ys) ∧ ∀ l, H l = none → Q (.ref l) (upd H l (.lst ys))
theorem listQ (h : X.K = K := by rfl) : CallR X (.type "list") (rListQ K) := by subst h; exact call_list_of
def rTupQ (K : PySem.W.Frag) : List V → Hp → VK → Prop := fun xs H Q => ∃ p ys, xs = [.ref p] ∧ ((SqL K H p ys ∧ ∀ l, H l = none → Q (.ref l) (upd H l (.tup ys))) ∨ (SqT K H p ys ∧ Q (.ref p) H))
theorem tupQ (h : X.K = K := by rfl) : CallR X (.type "tuple") (rTupQ K) := by subst h; exact call_tuple_of
theorem slL (h : X.K = K := by rfl) : SlR X (rSlL K) := by subst h; exact sl_list
theorem slT (h : X.K = K := by rfl) : SlR X (rSlA K) := by subst h; exact sl_tupA
theorem catT (h : X.K = K := by rfl) : OpR X (binaryOp .Add) (rCatA K) := by subst h; exact op_catA
theorem isi (h : X.K = K := by rfl) : CallR X (.builtin "isinstance") (rIsi K) := by subst h; exact call_isi
theorem isiT (h : X.K = K := by rfl) : CallR X (.builtin "isinstance") (rIsiT K) := by subst h; exact call_isiT
theorem piL {tg l : Expr} {tl : TE} (hl : PE X l tl) (h : X.K = K := by rfl) : PI X tg l (iList K tl) := by subst h; exact pi_list hl
theorem piT {tg l : Expr} {tl : TE} (hl : PE X l tl) (h : X.K = K := by rfl) : PI X tg l (iTup K tl) := by subst h; exact pi_tup hl
def rAllQ (K : PySem.W.Frag) : List V → Hp → VK → Prop := fun xs H Q => ∃ (a : Addr) (bs : List Bool), xs = [.ref a] ∧ SqL K H a (bs.map V.bl) ∧ Q (.bl (bs.all id)) H
def rAnyQ (K : PySem.W.Frag) : List V → Hp → VK → Prop := fun xs H Q => ∃ (a : Addr) (bs : List Bool), xs = [.ref a] ∧ SqL K H a (bs.map V.bl) ∧ Q (.bl (bs.any id)) H
theorem allQ (hc : X.calm = true) (h : X.K = K := by rfl) : CallR X (.builtin "all") (rAllQ K) := by subst h; exact cr_all hc
theorem anyQ (hc : X.calm = true) (h : X.K = K := by rfl) : CallR X (.builtin "any") (rAnyQ K) := by subst h; exact cr_any hc
theorem pgTup {es : List Expr} {kk n : Nat} {pos : Pos} {t : TGs} (hc : X.calm = true) (ht : PGs X es t) (h : X.K = K := by rfl) (hn : (assignEach es X.env).length = n := by rfl) (hst : (assignEach es X.env).findIdx? (·.1) = none := by rfl) :
    PG X (.Tuple es kk pos) (gTup K n t) := by subst h; exact pg_tup hc ht hn hst
end
end RK

set_option Elab.async false
namespace RK
open PySem L2
section
variable {X : Cx} {K : PySem.W.Frag} {o e : Expr} {es : List Expr} {to : TE} {t : TA} {name : Str} {apos cpos : Pos} {T id : String} {r : V → List V → Hp → VK → Prop}
/-- a method of a list, in a comprehension too -/
theorem bm (pa : PlainAttrs T) (slot : Slot T name id) (ty : typeOf (.builtin id) = pure (.type "method_descriptor")) (mt : MtR X id r) (ho : PE X o to) (ha : PA X (e :: es) t) (hK : X.K = K := by rfl)
    (h1 : attributeBase o name X.env (eval o X.env) = eval o X.env := by rfl)
    (h2 : ((backTo cpos (starEach (e :: es) X.env)).all (fun y => !y.1) && (backToKw cpos (keywordEach [] X.env)).all (fun y => y.1.isSome)
      && decide ((e :: es).length + ([] : List Keyword).length + (if ([] : List Keyword).isEmpty then 0 else 1) < 30)) = true := by rfl)
    (h3 : (apos.endLine == cpos.line) = true := by rfl) (h4 : starEach (e :: es) X.env = (false, eval e X.env) :: starEach es X.env := by rfl) (h5 : (backTo cpos (starEach es X.env)).any (·.1) = false := by rfl) :
    PE X (.Call (.Attribute o name apos) (e :: es) [] cpos) (tBM K T r to t) := by subst hK; exact pe_bm pa slot ty mt ho ha h1 h2 h3 h4 h5
theorem bm0 (pa : PlainAttrs T) (slot : Slot T name id) (ty : typeOf (.builtin id) = pure (.type "method_descriptor")) (mt : MtR X id r) (ho : PE X o to) (hK : X.K = K := by rfl)
    (h1 : attributeBase o name X.env (eval o X.env) = eval o X.env := by rfl) (h2 : (apos.endLine == cpos.line) = true := by rfl) : PE X (.Call (.Attribute o name apos) [] [] cpos) (tBM0 K T r to) := by subst hK; exact pe_bm0 pa slot ty mt ho h1 h2
def rDictQ (K : PySem.W.Frag) : List V → Hp → VK → Prop := fun xs H Q => ∃ (a : Addr) (ps : List Addr) (kvs : List (Key × V)), xs = [.ref a] ∧ SqL K H a (ps.map V.ref) ∧ Paired (fun q kv => SqT K H q [kV kv.1, kv.2]) ps kvs ∧ ∀ q, H q = none → Q (.ref q) (upd H q (.dK (mergeK [] kvs)))
theorem dictQ (hc : X.calm = true) (h : X.K = K := by rfl) : CallR X (.type "dict") (rDictQ K) := by subst h; exact call_dictP hc
theorem minQ (hc : X.calm = true) (h : X.K = K := by rfl) : CallR X (.builtin "min") (rMin K) := by subst h; exact cr_min hc
theorem indexQ (h : X.K = K := by rfl) : MtR X "list.index" (rIndex K) := by subst h; exact mt_index
theorem inD (hu : X.A.units + 65 < cLine) (h : X.K = K := by rfl) : OpR X (compareOp .In) (rInD K) := by subst h; exact op_inD hu
end
end RK

set_option Elab.async false
set_option maxRecDepth 100000
namespace HX
open PySem L2
theorem same_new {H : Hp} {p : Addr} {o : HO} (hp : H p = none) : Same H (upd H p o) := fun b u e => by rw [upd_ne (ne_of_none e hp)]; exact e
theorem gn {i : Nat} {x : V} {σ : L2.St} {H : Hp} {Q : L2.St → Hp → Prop} (h : Q (σ.set i (some x)) H) : gName i x σ H Q := h
theorem sa1 {te : TE} {g : TG} {u : TS} {D : Ends} {σ : L2.St} {H : Hp} (h : te σ H fun x H1 => g x σ H1 (u D)) : tSeq (tAsg te g) u D σ H := h
theorem sq1 {te : TE} {u : TS} {D : Ends} {σ : L2.St} {H : Hp} (h : te σ H fun _ H1 => u D σ H1) : tSeq (tDrop te) u D σ H := h
theorem op1 {r : R2} {ta : TE} {y : V} {σ : L2.St} {H : Hp} {Q : VK} (h : ta σ H fun x H1 => r x y H1 Q) : tOp r ta (tC y) σ H Q := h
theorem par1 {i j : Nat} {ta tb : TE} {u : TS} {D : Ends} {σ : L2.St} {H : Hp} (h : ta σ H fun x H1 => tb σ H1 fun y H2 => ∃ v w, [x, y] = [v, w] ∧ u D ((σ.set i (some v)).set j (some w)) H2) : tSeq (tPar i j (tCons ta (tCons tb tNil))) u D σ H := h
theorem rg1 {te : TE} {g : TG} {tb u : TS} {D : Ends} {σ : L2.St} {H : Hp} (h : te σ H fun x H1 => ∃ j : Int, [x] = [V.int j] ∧ -(2 ^ 62) ≤ j ∧ j < 2 ^ 62 ∧ (tFor (fun _ H R => R (Itr 0 j.toNat) H) g tb) { D with nx := u D } σ H1) : tSeq (tFor (iRng1 (tCons te tNil)) g tb) u D σ H := h
theorem sif {c : TT} {t e u : TS} {D : Ends} {σ : L2.St} {H : Hp} (h : c σ H fun b H1 => if b = true then t { D with nx := u D } σ H1 else e { D with nx := u D } σ H1) : tSeq (tIfS c t e) u D σ H := h
theorem sifR {c : TT} {t e u : TS} {D : Ends} {σ : L2.St} {H : Hp} (R : L2.St → Hp → Prop) (h1 : ∀ σ' H', R σ' H' → u D σ' H') (h : (∀ σ' H', R σ' H' → u D σ' H') → c σ H fun b H1 => if b = true then t { D with nx := u D } σ H1 else e { D with nx := u D } σ H1) : tSeq (tIfS c t e) u D σ H := h h1
theorem ifs {c : TT} {t e : TS} {D : Ends} {σ : L2.St} {H : Hp} (h : c σ H fun b H1 => if b = true then t D σ H1 else e D σ H1) : tIfS c t e D σ H := h
theorem at0 {x : V} {xs : List V} : atI (x :: xs) 0 = some x := atI_nat (j := 0) rfl
theorem room66 {k : Nat} {A : Around} (hr : Room k A) : A.units + 66 < cLine := by
  have z := hr.un
  omega
theorem pw_imp {α β : Type} {R S : α → β → Prop} (h : ∀ x y, R x y → S x y) : ∀ {xs : List α} {ys : List β}, Paired R xs ys → Paired S xs ys
  | _, _, .nil => .nil
  | _, _, .cons a r => .cons (h _ _ a) (pw_imp h r)
theorem pw_len {α β : Type} {R : α → β → Prop} : ∀ {xs : List α} {ys : List β}, Paired R xs ys → xs.length = ys.length
  | _, _, .nil => rfl
  | _, _, .cons _ r => by rw [List.length_cons, List.length_cons, pw_len r]
theorem pw_get {α β : Type} {R : α → β → Prop} : ∀ {xs : List α} {ys : List β} {i : Nat} {y : β}, Paired R xs ys → ys[i]? = some y → ∃ x, xs[i]? = some x ∧ R x y
  | _, _, i, y, .nil, e => by simp at e
  | _, _, 0, y, .cons h _, e => ⟨_, rfl, by simp at e; subst e; exact h⟩
  | _, _, i + 1, y, .cons _ r, e => pw_get (i := i) r (by simpa using e)
theorem pw_app {α β : Type} {R : α → β → Prop} : ∀ {xs xs' : List α} {ys ys' : List β}, Paired R xs ys → Paired R xs' ys' → Paired R (xs ++ xs') (ys ++ ys')
  | _, _, _, _, .nil, r => r
  | _, _, _, _, .cons a q, r => .cons a (pw_app q r)
theorem pw_take {α β : Type} {R : α → β → Prop} : ∀ {xs : List α} {ys : List β} (i : Nat), Paired R xs ys → Paired R (xs.take i) (ys.take i)
  | _, _, 0, _ => .nil
  | _, _, _ + 1, .nil => .nil
  | _, _, i + 1, .cons a q => .cons a (pw_take i q)
theorem pw_snoc {α β : Type} {R : α → β → Prop} {ds : List α} {i : Nat} {e : α} {ys : List β} {y : β} (h : Paired R (ds.take i) ys) (he : ds[i]? = some e) (r : R e y) : Paired R (ds.take (i + 1)) (ys ++ [y]) := by
  have z : ds.take (i + 1) = ds.take i ++ [e] := by rw [List.take_add_one, he]; rfl
  rw [z]
  exact pw_app h (.cons r .nil)
structure Cal (P : Program) (w : World) (K : PySem.W.Frag) (mg : Str → Option Value) (base : Heap) (k : Nat) (x : Str) (ps : List Str) (sp : Sp) (f : Addr) (fd : FuncData) : Prop where
  g : mg x = some (.ref f)
  kp : PySem.W.keepIn K (.ref f) = true
  b : Binds K fd ps []
  G : FnOk P w K mg base CX0 k f fd ps sp
theorem Cal.mono {P : Program} {w : World} {K : PySem.W.Frag} {mg : Str → Option Value} {base : Heap} {j k : Nat} {x : Str} {ps : List Str} {sp : Sp} {f : Addr} {fd : FuncData} (C : Cal P w K mg base j x ps sp f fd) (h : j ≤ k) : Cal P w K mg base k x ps sp f fd := ⟨C.g, C.kp, C.b, C.G.mono h⟩
/-- what is new in H' -/
def fresh (H H' : Hp) : Hp := fun b => match H b with
  | some _ => none
  | none => H' b
theorem fresh_at {H H' : Hp} {b : Addr} {o : HO} : fresh H H' b = some o ↔ H b = none ∧ H' b = some o := by
  unfold fresh
  cases H b with
  | none => exact ⟨fun h => ⟨rfl, h⟩, fun h => h.2⟩
  | some u => exact ⟨fun h => (by cases h), fun h => (by cases h.1)⟩
theorem none_of_same {H H' : Hp} (s : Same H H') {b : Addr} (h : H' b = none) : H b = none := by
  cases e : H b with
  | none => rfl
  | some o => rw [s b o e] at h; cases h
end HX

set_option Elab.async false
set_option maxRecDepth 100000
set_option maxHeartbeats 4000000
namespace EN
open PySem PySem.Spec PyProof.Rows L2
open Sem (wp)
/-- enumerate(v) of anything whose iter is told -/
theorem enum_new1 {v : Value} {ob : Obj} {G : Heap → Prop} (B : Begins v ob G) :
    Meets (Builtin.«enumerate.__new__» ⟨[.type "enumerate", v], []⟩) (fun _ R s => G s.heap ∧
      R (.ok (.ret (.ref (s.heap.push ob).objs.size))) { s with heap := (s.heap.push ob).push ⟨.type "enumerate", none, .fields #[.none, .bool false, .ref s.heap.objs.size, rawInt 0, .none, .none], #[]⟩ }) :=
  .of_wp fun prog w A R sh hh => by
    obtain ⟨hp, gg, dd, tt, oo⟩ := sh; obtain ⟨g1, hh⟩ := hh
    have hsub := sub_enumerate
    have qi : ∀ {A' : Around} {E Q : Value → Shared → Prop}, Q (.ref hp.objs.size) ⟨hp.push ob, gg, dd, tt, oo⟩ → wpAny (model prog w) A' (pyIter v) Q E ⟨hp, gg, dd, tt, oo⟩ :=
      fun q => B.iter prog w _ _ ⟨hp, gg, dd, tt, oo⟩ _ g1 q
    wp_walk using qi
    refine wpAny_stack_any fun stk => wpAny_pure ?_
    split
    · rename_i cc _ _ _ _ _
      cases (cc == Value.type "enumerate")
      · wp_walk using qi
        exact ⟨_, rfl, hh⟩
      · wp_walk using qi
        exact ⟨_, rfl, hh⟩
    · wp_walk using qi
      exact ⟨_, rfl, hh⟩
theorem enum_call1 {prog : Program} {w : World} {A : Around} {E Q : Value → Shared → Prop} {s : Shared} {v : Value} {ob : Obj} {G : Heap → Prop} (B : Begins v ob G) (g1 : G s.heap)
    (k : ∀ h2, IsEnum h2 (s.heap.objs.size + 1) s.heap.objs.size 0 .none → h2.get? s.heap.objs.size = some ob → h2.objs.size = s.heap.objs.size + 2 →
      (∀ b o, s.heap.get? b = some o → h2.get? b = some o) → Q (.ref (s.heap.objs.size + 1)) { s with heap := h2 }) :
    wpAny (model prog w) A (call (.type "enumerate") [v]) Q E s := by
  refine callType_new F.called_enumerate (by decide) (F.typeCall_enumerate_1 _) (F.newCall_enumerate_1 _) (fun oj => F.args_object_init_2 oj _) F.entry_enumerate_new (enum_new1 B) ⟨g1, ?_⟩
  have hz : (s.heap.push ob).objs.size = s.heap.objs.size + 1 := Heap.size_push ..
  show _ ∧ _
  rw [hz]
  have he : IsEnum ((s.heap.push ob).push ⟨.type "enumerate", none, .fields #[.none, .bool false, .ref s.heap.objs.size, rawInt 0, .none, .none], #[]⟩) (s.heap.objs.size + 1) s.heap.objs.size 0 .none := by
    have q := Heap.get?_push_size (s.heap.push ob) (o := ⟨.type "enumerate", none, .fields #[.none, .bool false, .ref s.heap.objs.size, rawInt 0, .none, .none], #[]⟩) rfl
    rw [hz] at q
    exact q
  exact ⟨⟨_, he, rfl⟩, k _ he (Heap.get?_push_of_some _ (Heap.get?_push_size _ B.free)) (by rw [Heap.size_push, hz]) fun b o x => Heap.get?_push_of_some _ (Heap.get?_push_of_some _ x)⟩
/-- a tuple at a, each item in a new pair -/
def IteT (K : PySem.W.Frag) (a : Addr) : It :=
  ⟨fun i H => ∃ (xs : List V) (x : V), SqT K H a xs ∧ xs[i]? = some x, fun i H v H' => ∃ T x, v = .ref T ∧ H T = none ∧ H' = upd H T (.tup [.int (i : Nat), x]) ∧ ∀ xs, SqT K H a xs → xs[i]? = some x,
    fun i H => ∃ xs : List V, SqT K H a xs ∧ xs.length ≤ i⟩
theorem turn_enumT {P : Program} {w : World} {K : PySem.W.Frag} {elts : List Expr} {kk : Nat} {tpos : Pos} (a e it : Addr) :
    Turn P w K (.Tuple elts kk tpos) (IteT K a) [e, it] e (fun i h => (∃ old, IsEnum h e it ((i : Nat) : Int) old) ∧ h.IsTupleIter it a i ∧ e ≠ it ∧ e ≠ a ∧ a ≠ it) where
  mem := by simp
  obj := fun i h st b hb => by
    obtain ⟨⟨old, he⟩, ⟨o, ho, hc, hd⟩, _⟩ := st
    have e' : b = e ∨ b = it := by simpa using hb
    rcases e' with z | z
    · rw [z]; exact ⟨_, he, fun v q => nomatch q⟩
    · rw [z]; exact ⟨o, ho, fun v q => by rw [hd] at q; cases q⟩
  keep := fun i h h' st k => let ⟨⟨old, he⟩, hi, hne⟩ := st; ⟨⟨old, k e (by simp) _ he⟩, hi.at fun o q => k it (by simp) o q, hne⟩
  item := by
    intro X hP hw hK hc i pins s σ H E I hf st hg
    subst hP hw hK
    obtain ⟨⟨old, he⟩, hit, hne, hea, hai⟩ := st
    obtain ⟨xs, x, hq, hx⟩ := hg
    obtain ⟨its, rv, p, hz⟩ := I.tuple hq
    obtain ⟨u, hu, ru⟩ := rv.get hx
    have hel : e < s.heap.objs.size := Heap.lt_size he
    have hil : it < s.heap.objs.size := by obtain ⟨_, q, _⟩ := hit; exact Heap.lt_size q
    have pt : s.heap.IsTuple a its.toArray := p
    have hlt : i < its.toArray.size := by
      have q := (List.getElem?_eq_some_iff.mp hu).1
      simpa using q
    refine wpAny_pyNext_enum_itemD (Draws.tuple (A := X.A.in1) (show X.A.in1.handled = none from I.ok.hd hc) it a hai its.toArray) he ⟨hit, pt⟩ hlt hne (by simp [hne, hea]) fun y h' tk hy ho hit' hT hsz hk => ?_
    obtain rfl : y = u := by
      have q : its.toArray[i]? = some u := by simpa using hu
      rw [hy] at q
      exact Option.some.inj q
    refine ⟨_, rfl, wpAny_letOwnedTupleGo_enum (s := { s with heap := h', toks := tk + 1 }) ho fun h'' he' sb => ?_⟩
    have hT2 : h''.get? s.heap.objs.size = some { cls := .type "tuple", data := .seq #[.int i tk, y] } := (sb.2 _ (Nat.ne_of_gt hel)).trans hT
    have new : ObjOk X.prog X.w (upd H s.heap.objs.size (.tup [.int (i : Nat), x])) h'' s.heap.objs.size (.tup [.int (i : Nat), x]) :=
      ⟨by show 2 ≤ sizeLine; decide, [.int i tk, y], .cons ⟨_, rfl⟩ (.cons ru .nil), ⟨_, hT2, rfl, _, rfl⟩⟩
    have I1 : Inv X pins σ (upd H s.heap.objs.size (.tup [.int (i : Nat), x])) { s with heap := h'', toks := tk + 1 } :=
      I.turnedNew (ch := [e, it]) (fun b ob hb q => (sb.2 b (fun z => hb (by simp [z]))).trans (hk b ob (fun z => hb (by simp [z])) (fun z => hb (by simp [z])) q)) hf (Nat.le_refl _) new
    refine ⟨.ref s.heap.objs.size, _, I1, rfl, ⟨_, x, rfl, I.hok.fresh (Nat.le_refl _), rfl, fun ys hy => by rw [I.tuple_inj hy hq]; exact hx⟩, ⟨⟨y, ?_⟩, hit'.1.at fun o q => (sb.2 it (Ne.symm hne)).trans q, hne, hea, hai⟩, fun b hb => ?_⟩
    · have e1 : ((i + 1 : Nat) : Int) = (i : Int) + 1 := by omega
      rw [e1]; exact he'
    · have hb' : b < s.heap.objs.size := by
        have e' : b = e ∨ b = it := by simpa using hb
        rcases e' with z | z
        · rw [z]; exact hel
        · rw [z]; exact hil
      rw [upd_ne (Nat.ne_of_lt hb')]
      exact (hf b hb).1
  done := by
    intro X hP hw hK hc i pins s σ H E I hf st hg
    subst hP hw hK
    obtain ⟨⟨old, he⟩, hit, hne, hea, hai⟩ := st
    obtain ⟨xs, hq, hx⟩ := hg
    obtain ⟨its, rv, p, hz⟩ := I.tuple hq
    obtain ⟨f0, f1, f2, f3, f4, f5⟩ := hf it (by simp)
    have hl := rv.length
    have pt : s.heap.IsTuple a its.toArray := p
    have hh : X.A.handled = none := I.ok.hd hc
    unfold pyNext
    refine wpAny_bind (wpAny_attempt (wpAny_callSpecial?_slot (name := Str.ofString "__next__") ⟨_, he, rfl⟩ F.slot_enumerate_next (wpAny_call_entry F.slot_enumerate_next ⟨_, he, rfl⟩ F.entry_enumerate_next ?_ (F.args_enumerate_next_1 _))))
    show wpAny _ _ (field (.ref e) 2 >>= _) _ _ _
    refine wpAny_bind (wpAny_field he rfl (x := .ref it) rfl ?_)
    refine wpAny_bind (wpAny_nextOf_tuple_end hh hit pt (by simp; omega) fun h' x he' hx' => ?_)
    obtain ⟨o, ho, hc⟩ := hx'
    exact wpAny_bind (wpAny_isInstance (T := "StopIteration") (b := true) ⟨o, ho, hc⟩ isSubtype_stop (wpAny_pure ⟨rfl, I.turned (t' := s.toks) (fun b o hb q => he' b o hb q) f0 f1 f3 f4 f5⟩))
  self := fun A i s Q E st h => let ⟨⟨_, he⟩, _⟩ := st; wpAny_pyIter_enum he h
def iEnumT (K : PySem.W.Frag) (ta : TA) : TI := fun σ H R => ta σ H fun vs H1 => ∃ a xs, vs = [.ref a] ∧ SqT K H1 a xs ∧ R (IteT K a) H1
theorem pi_enumT {X : Cx} {K : PySem.W.Frag} {e : Expr} {ta : TA} {p pos tpos : Pos} {elts : List Expr} {kk : Nat} (hg : Gl X "enumerate") (hm : X.mg "enumerate" = none) (ha : PA X [e] ta) (hK : X.K = K := by rfl) (hs : starEach [e] X.env = [(false, eval e X.env)] := by rfl) :
    PI X (.Tuple elts kk tpos) (.Call (.Name "enumerate" p) [e] [] pos) (iEnumT K ta) := by
  subst hK
  refine ⟨fun pins s σ H R I h => ?_⟩
  refine Call_ (ld_blt I hg hm boot_enumerate (PyProof.Rows.callWith_type1 (thn (ha.run pos pins s σ H _ I h) fun us s1 ⟨vs, H1, I1, r1, q1⟩ => ?_) hs rfl))
  obtain ⟨a, xs, ex, hq, q⟩ := q1
  subst ex
  cases r1 with
  | cons r rr =>
    cases rr
    cases r
    obtain ⟨its, rv, p', hz⟩ := I1.tuple hq
    have pt : s1.heap.IsTuple a its.toArray := p'
    have hal : a < s1.heap.objs.size := by obtain ⟨_, q, _⟩ := id pt; exact Heap.lt_size q
    refine enum_call1 (begins_tuple a its.toArray) pt fun h' he hit hsz hk => wpAny_pyIter_enum he ?_
    have I2 : Inv X pins σ H1 { s1 with heap := h' } := I1.kept (t' := s1.toks) hk
    refine ⟨s1.heap.objs.size + 1, [s1.heap.objs.size + 1, s1.heap.objs.size], _, _, H1, rfl, I2, turn_enumT a (s1.heap.objs.size + 1) s1.heap.objs.size,
      ⟨⟨.none, he⟩, ⟨_, hit, rfl, rfl⟩, Nat.succ_ne_self _, Nat.ne_of_gt (Nat.lt_succ_of_lt hal), Nat.ne_of_lt hal⟩, fun b hb => ?_, q⟩
    have e' : b = s1.heap.objs.size + 1 ∨ b = s1.heap.objs.size := by simpa using hb
    have hle : s1.heap.objs.size ≤ b := by
      rcases e' with z | z
      · rw [z]; exact Nat.le_add_right _ _
      · rw [z]; exact Nat.le_refl _
    exact I1.fpOk hle (I1.hok.fresh hle)
theorem walk_enumT {K : PySem.W.Frag} {a : Addr} {xs : List V} : Walk (IteT K a) xs.length (fun H => SqT K H a xs) (YPair (fun i => some (.int (i : Nat))) (fun i => xs[i]?)) where
  goes := fun i H hi q => ⟨xs, xs[i], q, List.getElem?_eq_getElem hi⟩
  stops := fun H q => ⟨xs, q, Nat.le_refl _⟩
  yields := fun i H x H' hi q y => let ⟨T, z, e1, e2, e3, e4⟩ := y; ⟨T, _, z, e1, e2, e3, rfl, e4 xs q⟩
end EN

set_option Elab.async false
set_option maxRecDepth 100000
set_option maxHeartbeats 4000000
namespace GS
open PySem L2 HX
def top (i : Nat) : Stmt := PySem.Challenge.pw_granary_k33_clashes.main.body.getD i (.Pass ⟨0, 0, 0, 0⟩)
abbrev s_wall : Stmt := top 0
abbrev s_BadText___init__ : Stmt := inClass (top 3) 0
abbrev s_BadName___init__ : Stmt := inClass (top 4) 0
abbrev s_is_in : Stmt := top 13
abbrev s_is_between : Stmt := top 14
abbrev s_Dealing___init__ : Stmt := inClass (top 16) 0
abbrev s_Dealing_row : Stmt := inClass (top 16) 1
abbrev s_Dealing__laid_in : Stmt := inClass (top 16) 2
abbrev s_Dealing_version : Stmt := inClass (top 16) 3
abbrev s_Dealing_rows : Stmt := inClass (top 16) 4
abbrev s_Dealing_by_key : Stmt := inClass (top 16) 5
abbrev s_Dealing_by_index : Stmt := inClass (top 16) 6
abbrev s_Dealing_count : Stmt := inClass (top 16) 7
abbrev s_Dealing_shapes : Stmt := inClass (top 16) 8
abbrev s_Dealing_indexed : Stmt := inClass (top 16) 9
abbrev s_Dealing_put : Stmt := inClass (top 16) 10
abbrev s_Dealing_change : Stmt := inClass (top 16) 11
abbrev s_Dealing_strike : Stmt := inClass (top 16) 12
abbrev s_Dealing__keep : Stmt := inClass (top 16) 13
abbrev s_Dealing_make : Stmt := inClass (top 16) 14
abbrev s_Dealing_writes : Stmt := inClass (top 16) 15
abbrev s_Dealing_saw : Stmt := inClass (top 16) 16
abbrev s_Dealing_seen : Stmt := inClass (top 16) 17
abbrev s_Dealing_end : Stmt := inClass (top 16) 18
abbrev s_place_in : Stmt := top 18
abbrev s_Index___init__ : Stmt := inClass (top 20) 0
abbrev s_Index_add : Stmt := inClass (top 20) 1
abbrev s_Index_lose : Stmt := inClass (top 20) 2
abbrev s_Index_between : Stmt := inClass (top 20) 3
abbrev s_Table___init__ : Stmt := inClass (top 22) 0
abbrev s_Table_lay : Stmt := inClass (top 22) 1
abbrev s_Table_make_index : Stmt := inClass (top 22) 2
abbrev s_Table_has_index : Stmt := inClass (top 22) 3
abbrev s_Table_version : Stmt := inClass (top 22) 4
abbrev s_Table__keys_between : Stmt := inClass (top 22) 5
abbrev s_Table_between : Stmt := inClass (top 22) 6
abbrev s_Table_by_index : Stmt := inClass (top 22) 7
abbrev s_Table_made_behind : Stmt := inClass (top 22) 8
abbrev s_Table_written_behind : Stmt := inClass (top 22) 9
abbrev s_Table_sweep : Stmt := inClass (top 22) 10
abbrev s_Table__sweep_key : Stmt := inClass (top 22) 11
abbrev s_Table__lose : Stmt := inClass (top 22) 12
abbrev s_Store___init__ : Stmt := inClass (top 24) 0
abbrev s_Store_begin_with : Stmt := inClass (top 24) 1
abbrev s_Store_take : Stmt := inClass (top 24) 2
abbrev s_Store__take_one : Stmt := inClass (top 24) 3
abbrev s_Store__check : Stmt := inClass (top 24) 4
abbrev s_Store_shapes : Stmt := inClass (top 24) 5
abbrev s_Store_indexed : Stmt := inClass (top 24) 6
abbrev s_Store_has_index : Stmt := inClass (top 24) 7
abbrev s_Store_keys : Stmt := inClass (top 24) 8
abbrev s_Store_row : Stmt := inClass (top 24) 9
abbrev s_Store_version : Stmt := inClass (top 24) 10
abbrev s_Store_between : Stmt := inClass (top 24) 11
abbrev s_Store_by_index : Stmt := inClass (top 24) 12
abbrev s_Store_content : Stmt := inClass (top 24) 13
abbrev s_Store_opened : Stmt := inClass (top 24) 14
abbrev s_Store_eldest : Stmt := inClass (top 24) 15
abbrev s_Store_ended : Stmt := inClass (top 24) 16
abbrev s_Store_clash : Stmt := inClass (top 24) 17
abbrev s_Store_sweep : Stmt := inClass (top 24) 18
abbrev s_Store_versions : Stmt := inClass (top 24) 19
abbrev s_l_begun : Stmt := top 26
abbrev s_l_take : Stmt := top 27
abbrev s_l_alike : Stmt := top 28
abbrev s_l_told : Stmt := top 29
abbrev s_l_book : Stmt := top 30
abbrev s_l_row : Stmt := top 31
abbrev s_l_writes : Stmt := top 32
abbrev s_l_noted : Stmt := top 33
abbrev s_l_told_record : Stmt := top 34
abbrev s_l_rows : Stmt := top 35
abbrev s_l_content : Stmt := top 36
abbrev s_l_bounds : Stmt := top 37
abbrev s_l_in : Stmt := top 38
abbrev s_l_due : Stmt := top 39
abbrev s_l_saw : Stmt := top 40
abbrev s_law : Stmt := top 41
structure Txt (mg : Str → Option Value) : Prop where
  len : mg "len" = none
  range : mg "range" = none
  list : mg "list" = none
  tuple : mg "tuple" = none
  int : mg "int" = none
  isinstance : mg "isinstance" = none
  dict : mg "dict" = none
  bool : mg "bool" = none
  str : mg "str" = none
  min : mg "min" = none
  sorted : mg "sorted" = none
end GS

set_option Elab.async false
set_option linter.all false
set_option maxRecDepth 100000
set_option maxHeartbeats 4000000
namespace LVT
open PySem PyProof.Rows HT
section
open PySem.SeqAt
open PySem.AutoSeq1 (wpAny_loadPart')
open PySem.MeetsSeq PySem.MeetsSeq2 PySem.MeetsSeq3
/-- (i, v) < (j,): the first items tell; where they are one the longer is not less -/
theorem lt_headed (l b : Addr) (n n2 : Nat) (dd dd2 : Option Addr) (sl sl2 : Array (Option Value)) (i j : Int) (t u : Tok) (v : Value) :
    Meets (Builtin.«tuple.__lt__» ⟨[.ref l, .ref b], []⟩)
      (fun _ R s => s.heap.get? l = some { cls := .type "tuple", dict := dd, data := .seq #[.int i t, v] n, slots := sl } ∧ s.heap.get? b = some { cls := .type "tuple", dict := dd2, data := .seq #[.int j u] n2, slots := sl2 } ∧
        R (.ok (.ret (.bool (decide (i < j))))) s) :=
  .of_wp fun prog w A R s h => by
    obtain ⟨hp, g, d, tk, os⟩ := s; obtain ⟨hl, hb, h⟩ := h
    have f2 := AutoSeq1.sub_tuple_tuple
    wp_walk using wpAny_loadPart' hl, wpAny_loadPart' hb, wpAny_forIn_list _ (fun rest b s' => b.1 = none ∧ s' = ⟨hp, g, d, tk, os⟩ ∧ ((rest = [(Value.int i t, Value.int j u)]) ∨ (rest = [] ∧ i = j)) ∧ R (.ok (.ret (.bool (decide (i < j))))) ⟨hp, g, d, tk, os⟩) _
    case turn =>
      rintro ⟨y, x⟩ rest b s' ⟨hb', rfl, hz, hR⟩
      rcases hz with hz | ⟨hz, _⟩
      · injection hz with hyx hrest
        injection hyx with hy hx
        subst hy hx hrest
        obtain ⟨e, he, hiff⟩ := eqAt_int A.in1 ⟨hp, g, d, tk, os⟩ i t j u
        refine wpAny_bind (he prog w _ _ ?_)
        cases e with
        | true =>
          have eij := hiff.mp rfl
          wp_walk
          exact ⟨rfl, rfl, .inr ⟨rfl, eij⟩, hR⟩
        | false =>
          have hri := rcLt_int A.in1 ⟨hp, g, d, tk, os⟩ i t j u prog w
          wp_walk using hri
          exact ⟨_, rfl, by simpa using hR⟩
      · cases hz
    case fin =>
      rintro ⟨b1, b2⟩ s' ⟨hb', rfl, hz, hR⟩
      simp only at hb'
      subst hb'
      rcases hz with hz | ⟨_, e⟩
      · cases hz
      · subst e
        have hv : decide (i < i) = false := decide_eq_false (Int.lt_irrefl i)
        rw [hv] at hR
        wp_walk
        exact ⟨_, rfl, by simpa [Builtin.Tuple.tupleCompareSizes] using hR⟩
    case h =>
      exact ⟨rfl, rfl, .inl rfl, h⟩
end
end LVT
namespace LVT
open PySem PySem.Spec PyProof.Rows L2 HT
variable {X : Cx}
def rLtV (K : PySem.W.Frag) : R2 := fun x y H Q => ∃ (a b : Addr) (i j : Int) (v : V), x = .ref a ∧ y = .ref b ∧ SqT K H a [.int i, v] ∧ SqT K H b [.int j] ∧ Q (.bl (decide (i < j))) H
theorem op_ltV (hu : X.A.units < cLine) : OpR X (compareOp .Lt) (rLtV X.K) := by
  intro pins s σ H x y v u Q I rx ry h
  obtain ⟨a, b, i, j, z, rfl, rfl, ha, hb, q⟩ := h
  cases rx
  cases ry
  obtain ⟨its, r1, p1, _⟩ := I.tuple ha
  obtain ⟨its2, r2, p2, _⟩ := I.tuple hb
  cases r1 with
  | cons ri r1 => cases r1 with
    | cons rz r1 =>
      cases r1
      cases r2 with
      | cons rj r2 =>
        cases r2
        obtain ⟨t, rfl⟩ := ri
        obtain ⟨t2, rfl⟩ := rj
        obtain ⟨⟨cls, dd, data, sl⟩, ho, hc, n, hd⟩ := id p1
        obtain ⟨⟨cls2, dd2, data2, sl2⟩, ho2, hc2, n2, hd2⟩ := id p2
        simp only at hc hd hc2 hd2
        subst hc hd hc2 hd2
        exact richCompare_meets_room (op := .Lt) ⟨_, ho, rfl⟩ ⟨_, ho2, rfl⟩ PySem.F.slot_tuple_lt PySem.F.entry_tuple_lt (PySem.F.args_tuple_lt_2 _ _) (lt_headed a b n n2 dd dd2 sl sl2 i j t t2 _)
          ⟨ho, ho2, show Value.bool (decide (i < j)) ≠ Value.notImplemented ∧ EP X pins σ Q (.bool (decide (i < j))) s from ⟨(fun x => nomatch x), ⟨.bl (decide (i < j)), H, I, rfl, q⟩⟩⟩ hu
/-- ints, int tuples, headed pairs -/
def rLtG (K : PySem.W.Frag) : R2 := fun x y H Q => (rI0 fun i j => .bl (decide (i < j))) x y H Q ∨ (rLtT K x y H Q ∨ rLtV K x y H Q)
theorem op_ltG {K : PySem.W.Frag} (hu : X.A.units < cLine) (h : X.K = K := by rfl) : OpR X (compareOp .Lt) (rLtG K) := by
  subst h
  exact OpR.or op_lt (OpR.or (op_ltT hu) (op_ltV hu))
end LVT

set_option linter.all false
set_option maxHeartbeats 4000000
namespace GS
open PySem L2 HX
/-- place_in: how many items are less than y -/
def spPlace (K : PySem.W.Frag) : Sp := fun vs H Q _ => ∃ (r : Addr) (y : V) (xs : List V) (less : Nat → Bool), vs = [.ref r, y] ∧ SqL K H r xs ∧ (∀ i x, xs[i]? = some x → ∀ Q' : VK, Q' (.bl (less i)) H → LVT.rLtG K x y H Q') ∧
  (∀ i j, i < j → j < xs.length → less j = true → less i = true) ∧ ∀ k : Nat, k ≤ xs.length → (∀ i, i < k → less i = true) → (∀ i, k ≤ i → i < xs.length → less i = false) → Q (.int k) H
section
variable {P : Program} {w : World} {K : PySem.W.Frag} {mg : Str → Option Value} {base : Heap}
theorem scPl : FnScope ["items", "item", "low", "high", "middle"] ["items", "item"] (defScope s_place_in) := ⟨rfl, rfl, rfl, by decide +kernel, rfl, by decide +kernel, by decide +kernel⟩
theorem ok_place {f : Addr} {fd : FuncData} (F : Fun K "place_in" "place_in" s_place_in f fd) (T : Txt mg) : FnOk P w K mg base CX0 1 f fd ["items", "item"] (spPlace K) := by
  refine F.ok scPl (fun vs H Q E h => ?_) (fun cdv A outer s H vs Q E hr h => ?_)
  · obtain ⟨r, y, xs, less, rfl, _⟩ := h
    rfl
  · obtain ⟨r, y, xs, less, rfl, hx, cmp, rise, k⟩ := h
    have hu0 := Nat.lt_of_le_of_lt (Nat.le_add_right _ 1) (hu_of hr)
    refine ⟨_, (pss_cons (ps_set (i := 2) scPl.nd rfl (Or.inl rfl) pe_int)
      (pss_cons (ps_set (i := 3) scPl.nd rfl (Or.inl rfl) (pe_callB (RK.lenQ (K := K)) (by rfl) T.len PySem.boot_len (pa_cons (pv 0) pa_nil)))
      (pss_cons (ps_while PassesOwn.never (pt_cmpR op_lt (pv 2) (pv 3) (nomark _))
        (pss_cons (ps_set (i := 4) scPl.nd rfl (Or.inl rfl) (pe_op op_fdiv (pe_op op_add (pv 2) (pv 3)) pe_int))
        (pss_one (ps_if (pt_cmpR (LVT.op_ltG (K := K) hu0) (pe_ix (RK.ixL (K := K)) (pv 0) (pv 4) (fun _ _ => rfl)) (pv 1) (nomark _)) (pss_one (ps_set (i := 2) scPl.nd rfl (Or.inl rfl) (pe_op op_add (pv 4) pe_int))) (pss_one (ps_set (i := 3) scPl.nd rfl (Or.inl rfl) (pv 4)))))))
      (pss_one (ps_ret (pv 2)))))), ?_⟩
    refine ⟨_, rfl, r, xs, rfl, .inl hx, ?_⟩
    refine while_by (fun σ H' => H' = H ∧ ∃ (lo hi : Nat) (v4 : Option V), σ = [some (.ref r), some y, some (.int lo), some (.int hi), v4] ∧ lo ≤ hi ∧ hi ≤ xs.length ∧ (∀ i, i < lo → less i = true) ∧ ∀ i, hi ≤ i → i < xs.length → less i = false)
      (fun σ H' => match σ with | [_, _, some (.int lo), some (.int hi), _] => (hi - lo).toNat | _ => 0)
      ⟨rfl, 0, xs.length, none, rfl, Nat.zero_le _, Nat.le_refl _, fun i l => absurd l (Nat.not_lt_zero _), fun i l e => absurd l (by omega)⟩ ?_ (fun σ H Q Q' m h => ?_)
    · rintro σ H' ⟨rfl, lo, hi, v4, rfl, l1, l2, low, high⟩
      refine ⟨_, rfl, _, rfl, _, _, rfl, rfl, _, rfl, ?_⟩
      dsimp only
      by_cases c : (lo : Int) < hi
      · rw [decide_eq_true c, if_pos rfl]
        obtain ⟨m, em, m1, m2⟩ : ∃ m : Nat, ((lo : Int) + hi) / 2 = m ∧ lo ≤ m ∧ m < hi := ⟨(lo + hi) / 2, by omega, by omega, by omega⟩
        have lm : m < xs.length := by omega
        have here : xs[m]? = some xs[m] := List.getElem?_eq_getElem lm
        refine sa1 ?_
        refine ⟨_, rfl, _, rfl, _, _, rfl, rfl, _, _, rfl, rfl, ⟨by decide, by decide⟩, ?_⟩
        dsimp only
        rw [em]
        refine gn ?_
        refine ⟨_, rfl, _, rfl, r, _, m, xs[m], rfl, rfl, hx, atI_nat here, _, rfl, cmp m _ here _ ⟨_, rfl, ?_⟩⟩
        cases e : less m with
        | true =>
          refine iteT ?_
          refine ⟨_, rfl, _, _, rfl, rfl, gn ⟨⟨rfl, m + 1, hi, _, rfl, by omega, l2, fun i li => ?_, high⟩, ?_⟩⟩
          · rcases Nat.lt_or_ge i m with z | z
            · exact rise i m z lm e
            · obtain rfl : i = m := by omega
              exact e
          · show ((hi : Int) - ((m : Int) + 1)).toNat < ((hi : Int) - (lo : Int)).toNat
            omega
        | false =>
          refine iteF ?_
          refine ⟨_, rfl, gn ⟨⟨rfl, lo, m, _, rfl, m1, by omega, low, fun i li eq => ?_⟩, ?_⟩⟩
          · rcases Nat.lt_or_ge m i with z | z
            · cases e2 : less i with
              | false => rfl
              | true => rw [rise m i z eq e2] at e; cases e
            · obtain rfl : i = m := by omega
              exact e
          · show ((m : Int) - (lo : Int)).toNat < ((hi : Int) - (lo : Int)).toNat
            omega
      · rw [decide_eq_false c, if_neg (by decide)]
        obtain rfl : lo = hi := by omega
        exact ⟨_, rfl, k lo l2 low high⟩
    · obtain ⟨x, e1, y, e2, i, j, e3, e4, z⟩ := h
      exact ⟨x, e1, y, e2, i, j, e3, e4, let ⟨c, e5, q⟩ := z; ⟨c, e5, m _ _ q⟩⟩
end
end GS

set_option linter.all false
set_option maxHeartbeats 4000000
namespace GS
open PySem L2 HX
theorem nodup_le {α : Type} [DecidableEq α] : ∀ (l U : List α), l.Nodup → (∀ x ∈ l, x ∈ U) → l.length ≤ U.length
  | [], _, _, _ => Nat.zero_le _
  | x :: l, U, nd, sub => by
    obtain ⟨n1, n2⟩ := List.nodup_cons.mp nd
    have mx := sub x List.mem_cons_self
    have z := nodup_le l (U.erase x) n2 fun y my => (List.mem_erase_of_ne fun (e : y = x) => n1 (e ▸ my)).mpr (sub y (List.mem_cons_of_mem _ my))
    have pos := List.length_pos_of_mem mx
    rw [List.length_erase_of_mem mx] at z
    show l.length + 1 ≤ _
    omega
/-! ### del d[k], k a tuple -/
def tDDelT (td ty : TE) : TS := fun D σ H => td σ H fun x H1 => ty σ H1 fun y H2 => ∃ (a b : Addr) (kvs : List (List L2.Key × V)) (k : List L2.Key), x = .ref a ∧ y = .ref b ∧ H2 a = some (.dT kvs) ∧ H2 b = some (.tup (k.map kV)) ∧ (valV kvs k).isSome = true ∧ D.nx σ (upd H2 a (.dT (dropK kvs k)))
section
variable {X : Cx} {o i : Expr} {pos tpos : Pos} {td ty : TE}
theorem ps_ddelT (hu : X.A.units + 1 < cLine) (ho : PE X o td) (hi : PE X i ty) : PS X (.Delete [.Subscript o i tpos] pos) (tDDelT td ty) := by
  refine ⟨fun pins s σ H D I h => ?_⟩
  refine wpAny_Delete (wpAny_deleteEach_cons (wpAny_delete_Subscript (thn (ho.run pins s σ H _ I h) fun u s1 ⟨x, H1, I1, rx, q1⟩ => thn (hi.run pins s1 σ H1 _ I1 q1) fun iv s2 ⟨y, H2, I2, ry, a, b, kvs, k, ex, ey, ea, eb, l, q2⟩ => ?_)))
  subst ex ey
  obtain rfl : u = Value.ref a := rx
  obtain rfl : iv = Value.ref b := ry
  obtain ⟨z, hd, xs, rel, dd⟩ := dt_of I2.hok ea
  have hz : xs.length ≤ sizeLine := by rw [← Paired.length rel]; exact z
  obtain ⟨p, hp⟩ : ∃ p, atKey xs k = some p := by
    have r := rel.val k
    cases e : atKey xs k with
    | some p => exact ⟨p, rfl⟩
    | none =>
      rw [e] at r
      cases ev : valV kvs k with
      | none => rw [ev] at l; cases l
      | some v => rw [ev] at r; exact (show False from r).elim
  refine PySem.wpAny_delItem_heap (knd := tupleKind (mixKind X.prog X.w)) (tupleKind_room_in1 hu) (key_of I2.hok eb) hd dd hp (fun h' dd' hs => ?_) hz
  obtain ⟨ob, es, ep, hq, h2, h3, h4, _, h5⟩ := dd'
  have I3 : Inv X pins σ (upd H2 a (.dT (dropK kvs k))) { s2 with heap := h', toks := s2.toks + (tupleKind (mixKind X.prog X.w)).draws k } :=
    d_write I2 (by rw [ea]; exact True.intro) hs ⟨ob, hq⟩ ⟨Nat.le_trans (dropK_le kvs k) z, hd, _, (L2.DX.KT_drop k rel).keeps (fun c ys ec => (by rw [upd_ne (ne_of ec ea (fun z => nomatch z))]; exact ec)), ob, es, ep, hq, h2, h3, h4, h5⟩
  exact wpAny_deleteEach_nil ⟨σ, _, I3, q2⟩
end
abbrev Ref (q : Addr × List Int) : V := V.ref q.1
/-- where ns would stand among the items -/
structure Spot (ns : List Int) (bs : List (Addr × List Int)) (k : Nat) : Prop where
  le : k ≤ bs.length
  below : ∀ i q, i < k → bs[i]? = some q → HT.lexLt q.2 ns = true
  above : ∀ i q, k ≤ i → bs[i]? = some q → HT.lexLt q.2 ns = false
/-- the items rise, as ns sees them -/
def Rise (ns : List Int) (bs : List (Addr × List Int)) : Prop := ∀ (i j : Nat) (p q : Addr × List Int), i < j → bs[i]? = some p → bs[j]? = some q → HT.lexLt q.2 ns = true → HT.lexLt p.2 ns = true
def spPlaceT (K : PySem.W.Frag) : Sp := fun vs H Q _ => ∃ (r b : Addr) (bs : List (Addr × List Int)) (ns : List Int), vs = [.ref r, .ref b] ∧ SqL K H r (bs.map Ref) ∧ (∀ q ∈ bs, SqT K H q.1 (q.2.map V.int)) ∧ SqT K H b (ns.map V.int) ∧ bs.length ≤ 1000000 ∧ Rise ns bs ∧
  ∀ k : Nat, Spot ns bs k → Q (.int k) H

theorem place_T {K : PySem.W.Frag} : ∀ vs H Q E, spPlaceT K vs H Q E → spPlace K vs H Q E := by
  rintro vs H Q E ⟨r, b, bs, ns, rfl, hr, ht, hb, _, rise, k⟩
  refine ⟨r, .ref b, bs.map Ref, fun i => match bs[i]? with | some q => HT.lexLt q.2 ns | none => false, rfl, hr, fun i x e Q' q => ?_, fun i j l lj e => ?_, fun n ln lo hi => k n ⟨by rw [List.length_map] at ln; exact ln, fun i q li e => ?_, fun i q li e => ?_⟩⟩
  · rw [List.getElem?_map] at e
    cases eq : bs[i]? with
    | none => rw [eq] at e; cases e
    | some p =>
      rw [eq] at e
      obtain rfl := Option.some.inj e
      dsimp only at q
      rw [eq] at q
      exact .inr (.inl ⟨p.1, b, p.2, ns, rfl, rfl, ht p (List.mem_of_getElem? eq), hb, q⟩)
  · rw [List.length_map] at lj
    have e2 : bs[j]? = some bs[j] := List.getElem?_eq_getElem lj
    have li : i < bs.length := by omega
    have e1 : bs[i]? = some bs[i] := List.getElem?_eq_getElem li
    dsimp only at e ⊢
    rw [e2] at e
    rw [e1]
    exact rise i j bs[i] bs[j] l e1 e2 e
  · have z := lo i li
    dsimp only at z
    rw [e] at z
    exact z
  · have z := hi i li (by rw [List.length_map]; exact (List.getElem?_eq_some_iff.mp e).1)
    dsimp only at z
    rw [e] at z
    exact z
theorem ok_placeT {P : Program} {w : World} {K : PySem.W.Frag} {mg : Str → Option Value} {base : Heap} {f : Addr} {fd : FuncData} (C : Cal P w K mg base 1 "place_in" ["items", "item"] (spPlace K) f fd) : Cal P w K mg base 1 "place_in" ["items", "item"] (spPlaceT K) f fd := ⟨C.g, C.kp, C.b, C.G.imp place_T⟩
abbrev P2 := Int × Int
def li (x : P2) : List Int := [x.1, x.2]
def kk (x : P2) : List L2.Key := [Sum.inl x.1, Sum.inl x.2]
def plt (x y : P2) : Prop := x.1 < y.1 ∨ (x.1 = y.1 ∧ x.2 < y.2)
theorem kk_inj {x y : P2} (h : kk x = kk y) : x = y := by
  injection h with h1 h2
  injection h2 with h2 _
  injection h1 with h1
  injection h2 with h2
  exact Prod.ext h1 h2
theorem li_inj {x y : P2} (h : li x = li y) : x = y := by
  injection h with h1 h2
  injection h2 with h2 _
  exact Prod.ext h1 h2
theorem lt_pair (x y : P2) : HT.lexLt (li x) (li y) = true ↔ plt x y := by
  show (if x.1 = y.1 then (if x.2 = y.2 then false else decide (x.2 < y.2)) else decide (x.1 < y.1)) = true ↔ _
  unfold plt
  by_cases a : x.1 = y.1
  · rw [if_pos a]
    by_cases b : x.2 = y.2
    · rw [if_pos b]
      constructor
      · intro h; cases h
      · omega
    · rw [if_neg b, decide_eq_true_eq]
      omega
  · rw [if_neg a, decide_eq_true_eq]
    omega
theorem lt_one (x : P2) (c : Int) : HT.lexLt (li x) [c] = true ↔ x.1 < c := by
  show (if x.1 = c then false else decide (x.1 < c)) = true ↔ _
  by_cases a : x.1 = c
  · rw [if_pos a]
    constructor
    · intro h; cases h
    · omega
  · rw [if_neg a, decide_eq_true_eq]
/-! ### the object -/
theorem mr : ¬ (("many" : Str) = "rising") := by decide +kernel
def flds (d r : Addr) : List (Str × V) := putF "rising" (.ref r) (putF "many" (.ref d) [])
theorem flds_many (d r : Addr) : (flds d r).lookup ("many" : Str) = some (.ref d) := by
  unfold flds
  rw [lookup_putF, if_neg mr, lookup_putF, if_pos rfl]
theorem flds_rising (d r : Addr) : (flds d r).lookup ("rising" : Str) = some (.ref r) := by
  unfold flds
  rw [lookup_putF, if_pos rfl]
theorem flds_no (d r : Addr) {m : Str} (h1 : ¬ m = "rising") (h2 : ¬ m = "many") : (flds d r).lookup m = none := by
  unfold flds
  rw [lookup_putF, if_neg h1, lookup_putF, if_neg h2]
  all_goals rfl
abbrev tup2 (x : P2) : HO := .tup [.int x.1, .int x.2]
structure Cnt (kvs : List (List L2.Key × V)) (ps : List P2) : Prop where
  nd : (kvs.map (·.1)).Nodup
  ks : ∀ k ∈ kvs.map (·.1), ∃ x ∈ ps, k = kk x
  at_ : ∀ x, valV kvs (kk x) = if ps.count x = 0 then none else some (.int (ps.count x))
structure Rising (H : Hp) (bs : List (Addr × P2)) (ps : List P2) : Prop where
  tup : ∀ q ∈ bs, H q.1 = some (tup2 q.2)
  up : (bs.map (·.2)).Pairwise plt
  mem : ∀ x, x ∈ bs.map (·.2) ↔ x ∈ ps
/-- an Index at p, its dict at d, its list at r, with the pairs ps -/
structure IxAt (C : Addr) (H : Hp) (p d r : Addr) (ps : List P2) : Prop where
  ob : ∃ dx, H p = some (.ins C dx (flds d r))
  dc : ∃ kvs, H d = some (.dT kvs) ∧ Cnt kvs ps
  rs : ∃ bs : List (Addr × P2), H r = some (.lst (bs.map fun q => V.ref q.1)) ∧ Rising H bs ps
theorem Cnt.perm {kvs : List (List L2.Key × V)} {ps qs : List P2} (p : ps.Perm qs) (c : Cnt kvs ps) : Cnt kvs qs :=
  ⟨c.nd, fun k m => let ⟨x, mx, e⟩ := c.ks k m; ⟨x, p.mem_iff.mp mx, e⟩, fun x => by rw [← p.count_eq]; exact c.at_ x⟩
theorem IxAt.perm {C : Addr} {H : Hp} {p d r : Addr} {ps qs : List P2} (pm : ps.Perm qs) (h : IxAt C H p d r ps) : IxAt C H p d r qs := by
  obtain ⟨ob, ⟨kvs, h1, h2⟩, bs, h3, h4⟩ := h
  exact ⟨ob, ⟨kvs, h1, h2.perm pm⟩, bs, h3, h4.tup, h4.up, fun x => (h4.mem x).trans pm.mem_iff⟩
/-- all but the index stays -/
def KIx (d r : Addr) (H H' : Hp) : Prop := ∀ x o, x ≠ d → x ≠ r → H x = some o → H' x = some o
theorem IxAt.same {C : Addr} {H H' : Hp} {p d r : Addr} {ps : List P2} (s : Same H H') (h : IxAt C H p d r ps) : IxAt C H' p d r ps := by
  obtain ⟨⟨dx, ob⟩, ⟨kvs, h1, h2⟩, bs, h3, h4⟩ := h
  exact ⟨⟨dx, s _ _ ob⟩, ⟨kvs, s _ _ h1, h2⟩, bs, s _ _ h3, fun q m => s _ _ (h4.tup q m), h4.up, h4.mem⟩
theorem Cnt.few {kvs : List (List L2.Key × V)} {ps : List P2} (c : Cnt kvs ps) : kvs.length ≤ ps.length := by
  have key : ∀ (ks : List (List L2.Key)) (ps : List P2), ks.Nodup → (∀ k ∈ ks, ∃ x ∈ ps, k = kk x) → ks.length ≤ ps.length := by
    intro ks
    induction ks with
    | nil => intro ps _ _; exact Nat.zero_le _
    | cons k ks ih =>
      intro ps nd h
      obtain ⟨n1, n2⟩ := List.nodup_cons.mp nd
      obtain ⟨x, mx, rfl⟩ := h k List.mem_cons_self
      have z := ih (ps.erase x) n2 fun j mj => by
        obtain ⟨y, my, e⟩ := h j (List.mem_cons_of_mem _ mj)
        refine ⟨y, (List.mem_erase_of_ne fun e2 => ?_).mpr my, e⟩
        rw [e2] at e
        exact n1 (e ▸ mj)
      have pos := List.length_pos_of_mem mx
      rw [List.length_erase_of_mem mx] at z
      rw [List.length_cons]
      omega
  have z := key _ ps c.nd c.ks
  rwa [List.length_map] at z
/-! counts -/
theorem keys_old {κ : Type} [DecidableEq κ] {kvs : List (κ × V)} {k : κ} {v y : V} (h : valV kvs k = some y) : (putK kvs k v).map (·.1) = kvs.map (·.1) := by
  have a : (kvs.any fun kv => decide (kv.1 = k)) = true := by rw [valV_any, h]; rfl
  unfold putK
  rw [if_pos a, List.map_map]
  refine List.map_congr_left fun kv _ => ?_
  show (if kv.1 = k then (kv.1, v) else kv).1 = kv.1
  split <;> rfl
theorem valV_drop {κ : Type} [DecidableEq κ] (k j : κ) : ∀ kvs : List (κ × V), valV (dropK kvs k) j = if j = k then none else valV kvs j
  | [] => by split <;> rfl
  | p :: r => by
    have ih := valV_drop k j r
    by_cases e : p.1 = k
    · rw [dropK_pos e, ih]
      by_cases c : j = k
      · rw [if_pos c, if_pos c]
      · rw [if_neg c, if_neg c, valV_neg (fun z => c (z.symm.trans e))]
    · rw [dropK_neg e]
      by_cases c : p.1 = j
      · rw [valV_pos c, valV_pos c, if_neg (fun z => e (c.trans z))]
      · rw [valV_neg c, valV_neg c, ih]
theorem keys_drop {κ : Type} [DecidableEq κ] {k j : κ} {kvs : List (κ × V)} (h : j ∈ (dropK kvs k).map (·.1)) : j ∈ kvs.map (·.1) ∧ j ≠ k := by
  obtain ⟨p, mp, rfl⟩ := List.mem_map.mp h
  obtain ⟨m, z⟩ := List.mem_filter.mp mp
  exact ⟨List.mem_map_of_mem m, of_decide_eq_true z⟩
theorem Cnt.more {kvs : List (List L2.Key × V)} {ps : List P2} (c : Cnt kvs ps) {x : P2} (h : x ∈ ps) : Cnt (putK kvs (kk x) (.int ((ps.count x : Int) + 1))) (x :: ps) := by
  have pos : ps.count x ≠ 0 := fun z => (List.count_eq_zero.mp z) h
  have e := c.at_ x
  rw [if_neg pos] at e
  refine ⟨by rw [keys_old e]; exact c.nd, fun k m => ?_, fun y => ?_⟩
  · rw [keys_old e] at m
    obtain ⟨y, my, ey⟩ := c.ks k m
    exact ⟨y, List.mem_cons_of_mem _ my, ey⟩
  · rw [valV_put, List.count_cons]
    by_cases z : y = x
    · subst z
      rw [if_pos rfl, if_neg (by simp)]
      simp
    · rw [if_neg (fun q => z (kk_inj q)), c.at_ y]
      have e2 : (x == y) = false := beq_eq_false_iff_ne.mpr (fun q => z q.symm)
      rw [e2]
      simp
theorem Cnt.first {kvs : List (List L2.Key × V)} {ps : List P2} (c : Cnt kvs ps) {x : P2} (h : x ∉ ps) : Cnt (putK (putK kvs (kk x) (.int 0)) (kk x) (.int (0 + 1))) (x :: ps) := by
  have no : ps.count x = 0 := List.count_eq_zero.mpr h
  have e := c.at_ x
  rw [if_pos no] at e
  have e1 : valV (putK kvs (kk x) (.int 0)) (kk x) = some (.int 0) := by rw [valV_put, if_pos rfl]
  refine ⟨by rw [keys_old e1]; exact nd_putK _ c.nd e, fun k m => ?_, fun y => ?_⟩
  · rw [keys_old e1, putK_new _ e, List.map_append, List.mem_append] at m
    rcases m with m | m
    · obtain ⟨y, my, ey⟩ := c.ks k m
      exact ⟨y, List.mem_cons_of_mem _ my, ey⟩
    · exact ⟨x, List.mem_cons_self, by simpa using m⟩
  · rw [valV_put, valV_put, List.count_cons]
    by_cases z : y = x
    · subst z
      rw [if_pos rfl, no, if_neg (by simp)]
      simp
    · rw [if_neg (fun q => z (kk_inj q)), if_neg (fun q => z (kk_inj q)), c.at_ y]
      have e2 : (x == y) = false := beq_eq_false_iff_ne.mpr (fun q => z q.symm)
      rw [e2]
      simp
theorem Cnt.less {kvs : List (List L2.Key × V)} {ps : List P2} (c : Cnt kvs ps) {x : P2} (h : 2 ≤ ps.count x) : Cnt (putK kvs (kk x) (.int ((ps.count x : Int) - 1))) (ps.erase x) := by
  have e := c.at_ x
  rw [if_neg (by omega)] at e
  have inn : ∀ y ∈ ps, y ∈ ps.erase x := fun y m => by
    by_cases z : y = x
    · subst z
      exact List.count_pos_iff.mp (by rw [List.count_erase_self]; omega)
    · exact (List.mem_erase_of_ne z).mpr m
  refine ⟨by rw [keys_old e]; exact c.nd, fun k m => ?_, fun y => ?_⟩
  · rw [keys_old e] at m
    obtain ⟨y, my, ey⟩ := c.ks k m
    exact ⟨y, inn y my, ey⟩
  · rw [valV_put]
    by_cases z : y = x
    · subst z
      rw [if_pos rfl, List.count_erase_self, if_neg (by omega)]
      congr 2
      omega
    · rw [if_neg (fun q => z (kk_inj q)), c.at_ y, List.count_erase_of_ne z]
theorem Cnt.last {kvs : List (List L2.Key × V)} {ps : List P2} (c : Cnt kvs ps) {x : P2} {v : V} (h : ps.count x = 1) : Cnt (dropK (putK kvs (kk x) v) (kk x)) (ps.erase x) := by
  have e := c.at_ x
  rw [if_neg (by omega)] at e
  refine ⟨nd_dropK (by rw [keys_old e]; exact c.nd), fun k m => ?_, fun y => ?_⟩
  · obtain ⟨m, ne⟩ := keys_drop m
    rw [keys_old e] at m
    obtain ⟨y, my, ey⟩ := c.ks k m
    refine ⟨y, (List.mem_erase_of_ne fun z => ne ?_).mpr my, ey⟩
    rw [ey, z]
  · rw [valV_drop]
    by_cases z : y = x
    · subst z
      rw [if_pos rfl, List.count_erase_self, h]
      rfl
    · rw [if_neg (fun q => z (kk_inj q)), valV_put, if_neg (fun q => z (kk_inj q)), c.at_ y, List.count_erase_of_ne z]
/-! the rising list -/
theorem plt_trans {x y z : P2} (a : plt x y) (b : plt y z) : plt x z := by unfold plt at *; omega
theorem plt_irr {x : P2} : ¬ plt x x := by unfold plt; omega
theorem plt_tri {x y : P2} (a : ¬ plt y x) (b : y ≠ x) : plt x y := by
  unfold plt at *
  have z : ¬ (y.1 = x.1 ∧ y.2 = x.2) := fun q => b (Prod.ext q.1 q.2)
  omega
abbrev items (bs : List (Addr × P2)) : List (Addr × List Int) := bs.map fun q => (q.1, li q.2)
theorem items_at {bs : List (Addr × P2)} {i : Nat} {q : Addr × List Int} (h : (items bs)[i]? = some q) : ∃ p, bs[i]? = some p ∧ q = (p.1, li p.2) := by
  rw [List.getElem?_map] at h
  obtain ⟨p, e, z⟩ := Option.map_eq_some_iff.mp h
  exact ⟨p, e, z.symm⟩
theorem at_items {bs : List (Addr × P2)} {i : Nat} {p : Addr × P2} (h : bs[i]? = some p) : (items bs)[i]? = some (p.1, li p.2) := by rw [List.getElem?_map, h]; rfl
theorem up_at {bs : List (Addr × P2)} (u : (bs.map (·.2)).Pairwise plt) {i j : Nat} {p q : Addr × P2} (h : i < j) (hi : bs[i]? = some p) (hj : bs[j]? = some q) : plt p.2 q.2 := by
  have z := List.pairwise_iff_getElem.mp (List.pairwise_map.mp u)
  obtain ⟨a, ea⟩ := List.getElem?_eq_some_iff.mp hi
  obtain ⟨b, eb⟩ := List.getElem?_eq_some_iff.mp hj
  have w := z i j a b h
  rwa [ea, eb] at w
theorem rise_pair {bs : List (Addr × P2)} (u : (bs.map (·.2)).Pairwise plt) (x : P2) : Rise (li x) (items bs) := by
  intro i j p q h hi hj l
  obtain ⟨p', ei, rfl⟩ := items_at hi
  obtain ⟨q', ej, rfl⟩ := items_at hj
  exact (lt_pair _ _).mpr (plt_trans (up_at u h ei ej) ((lt_pair _ _).mp l))
theorem rise_one {bs : List (Addr × P2)} (u : (bs.map (·.2)).Pairwise plt) (c : Int) : Rise [c] (items bs) := by
  intro i j p q h hi hj l
  obtain ⟨p', ei, rfl⟩ := items_at hi
  obtain ⟨q', ej, rfl⟩ := items_at hj
  have z := up_at u h ei ej
  have l := (lt_one _ _).mp l
  refine (lt_one _ _).mpr ?_
  unfold plt at z
  omega
theorem spot_len {ns : List Int} {bs : List (Addr × P2)} {k : Nat} (s : Spot ns (items bs) k) : k ≤ bs.length := by
  have z := s.le
  rwa [List.length_map] at z
theorem below_of {bs : List (Addr × P2)} {ns : List Int} {k : Nat} (s : Spot ns (items bs) k) : ∀ q ∈ bs.take k, HT.lexLt (li q.2) ns = true := fun q m => by
  obtain ⟨i, hi, e⟩ := List.getElem_of_mem m
  rw [List.length_take] at hi
  have e2 : bs[i]? = some q := by
    have z : (bs.take k)[i]? = some q := by rw [List.getElem?_eq_getElem (by rw [List.length_take]; exact hi), e]
    rwa [List.getElem?_take_of_lt (by omega)] at z
  exact s.below i _ (by omega) (at_items e2)
theorem above_of {bs : List (Addr × P2)} {ns : List Int} {k : Nat} (s : Spot ns (items bs) k) : ∀ q ∈ bs.drop k, HT.lexLt (li q.2) ns = false := fun q m => by
  obtain ⟨i, hi, e⟩ := List.getElem_of_mem m
  have e2 : bs[k + i]? = some q := by
    have z : (bs.drop k)[i]? = some q := by rw [List.getElem?_eq_getElem hi, e]
    rwa [List.getElem?_drop] at z
  exact s.above (k + i) _ (by omega) (at_items e2)
theorem up_insert {bs : List (Addr × P2)} (u : (bs.map (·.2)).Pairwise plt) {x : P2} {b : Addr} {k : Nat} (s : Spot (li x) (items bs) k) (new : x ∉ bs.map (·.2)) : ((bs.take k ++ [(b, x)] ++ bs.drop k).map (·.2)).Pairwise plt := by
  have u' := List.pairwise_map.mp u
  have cut : bs = bs.take k ++ bs.drop k := (List.take_append_drop k bs).symm
  rw [cut] at u'
  obtain ⟨u1, u2, u3⟩ := List.pairwise_append.mp u'
  refine List.pairwise_map.mpr (List.pairwise_append.mpr ⟨List.pairwise_append.mpr ⟨u1, List.pairwise_singleton _ _, fun p mp q mq => ?_⟩, u2, fun p mp q mq => ?_⟩)
  · rw [List.mem_singleton.mp mq]
    exact (lt_pair _ _).mp (below_of s p mp)
  · rcases List.mem_append.mp mp with mp | mp
    · exact u3 p mp q mq
    · rw [List.mem_singleton.mp mp]
      have nx : q.2 ≠ x := fun z => by
        have w := List.mem_map_of_mem (f := fun q : Addr × P2 => q.2) (List.mem_of_mem_drop mq)
        rw [z] at w
        exact new w
      refine plt_tri (fun z => ?_) nx
      have w := above_of s q mq
      rw [(lt_pair _ _).mpr z] at w
      cases w
theorem spot_at {bs : List (Addr × P2)} (u : (bs.map (·.2)).Pairwise plt) {x : P2} {k : Nat} (s : Spot (li x) (items bs) k) (h : x ∈ bs.map (·.2)) : ∃ q, bs[k]? = some q ∧ q.2 = x := by
  obtain ⟨q, mq, rfl⟩ := List.mem_map.mp h
  obtain ⟨j, hj, e⟩ := List.getElem_of_mem mq
  have ej : bs[j]? = some q := by rw [List.getElem?_eq_getElem hj, e]
  have nlt : HT.lexLt (li q.2) (li q.2) = false := by
    cases z : HT.lexLt (li q.2) (li q.2) with
    | false => rfl
    | true => exact absurd ((lt_pair _ _).mp z) plt_irr
  rcases Nat.lt_trichotomy j k with z | z | z
  · have w := s.below j _ z (at_items ej)
    rw [nlt] at w
    cases w
  · exact ⟨q, z ▸ ej, rfl⟩
  · have hk : k < bs.length := by omega
    have ek : bs[k]? = some bs[k] := List.getElem?_eq_getElem hk
    have w := s.above k _ (Nat.le_refl _) (at_items ek)
    rw [(lt_pair _ _).mpr (up_at u z ek ej)] at w
    cases w
theorem up_nodup {bs : List (Addr × P2)} (u : (bs.map (·.2)).Pairwise plt) : (bs.map (·.2)).Nodup := List.Pairwise.imp (fun {a b} h e => by rw [e] at h; exact plt_irr h) u
theorem up_erase {bs : List (Addr × P2)} (u : (bs.map (·.2)).Pairwise plt) {q : Addr × P2} {k : Nat} (h : bs[k]? = some q) : ((bs.eraseIdx k).map (·.2)).Pairwise plt ∧ ∀ x, x ∈ (bs.eraseIdx k).map (·.2) ↔ x ∈ bs.map (·.2) ∧ x ≠ q.2 := by
  refine ⟨List.pairwise_map.mpr (List.Pairwise.sublist (List.eraseIdx_sublist bs k) (List.pairwise_map.mp u)), fun x => ?_⟩
  constructor
  · intro m
    obtain ⟨p, mp, rfl⟩ := List.mem_map.mp m
    obtain ⟨i, ni, ei⟩ := List.mem_eraseIdx_iff_getElem?.mp mp
    refine ⟨List.mem_map_of_mem (List.mem_of_getElem? ei), fun z => ?_⟩
    rcases Nat.lt_or_gt_of_ne ni with w | w
    · have t := up_at u w ei h
      rw [z] at t
      exact plt_irr t
    · have t := up_at u w h ei
      rw [z] at t
      exact plt_irr t
  · rintro ⟨m, ne⟩
    obtain ⟨p, mp, rfl⟩ := List.mem_map.mp m
    obtain ⟨i, hi, ei⟩ := List.getElem_of_mem mp
    refine List.mem_map_of_mem (List.mem_eraseIdx_iff_getElem?.mpr ⟨i, fun z => ne ?_, by rw [List.getElem?_eq_getElem hi, ei]⟩)
    have w : bs[i]? = some p := by rw [List.getElem?_eq_getElem hi, ei]
    rw [z, h] at w
    rw [Option.some.inj w]
structure TxtX (K : PySem.W.Frag) (mg : Str → Option Value) (C : Addr) : Prop extends Txt mg where
  cl : Cls K C
  nM : NoAttr K C "many"
  nR : NoAttr K C "rising"
def spInit (C : Addr) : Sp := fun vs H Q _ => ∃ (p dx : Addr), vs = [.ref p] ∧ H p = some (.ins C dx []) ∧ ∀ (d r : Addr) (H' : Hp), H d = none → H r = none → IxAt C H' p d r [] → (∀ b o, H b = some o → b ≠ p → H' b = some o) → Q .non H'
def spAdd (C : Addr) : Sp := fun vs H Q _ => ∃ (p d r : Addr) (x : P2) (ps : List P2), vs = [.ref p, .int x.1, .int x.2] ∧ IxAt C H p d r ps ∧ ps.length ≤ 100000 ∧ ∀ H', KIx d r H H' → IxAt C H' p d r (x :: ps) → Q .non H'
def spLose (C : Addr) : Sp := fun vs H Q _ => ∃ (p d r : Addr) (x : P2) (ps : List P2), vs = [.ref p, .int x.1, .int x.2] ∧ IxAt C H p d r ps ∧ ps.length ≤ 100000 ∧ x ∈ ps ∧ ∀ H', KIx d r H H' → IxAt C H' p d r (ps.erase x) → Q .non H'
section
variable {P : Program} {w : World} {K : PySem.W.Frag} {mg : Str → Option Value} {base : Heap}
theorem scI : FnScope ["self"] ["self"] (defScope s_Index___init__) := ⟨rfl, rfl, rfl, by decide +kernel, rfl, by decide +kernel, by decide +kernel⟩
theorem ok_init {f C : Addr} {fd : FuncData} (F : Fun K "__init__" "Index.__init__" s_Index___init__ f fd) (T : TxtX K mg C) : FnOk P w K mg base CX0 1 f fd ["self"] (spInit C) := by
  refine F.ok scI (fun vs H Q E h => ?_) (fun cdv A outer s H vs Q E hr h => ?_)
  · obtain ⟨p, dx, rfl, _⟩ := h
    rfl
  · obtain ⟨p, dx, rfl, hp, k⟩ := h
    refine ⟨_, (pss_cons (ps_fld (pv 0) pe_dnewT rfl)
      (pss_one (ps_fld (pv 0) (pe_lst pa_nil) rfl))), ?_⟩
    intro d hd
    have npd : p ≠ d := ne_of_none hp hd
    refine ⟨_, rfl, p, C, dx, [], rfl, (by rw [upd_ne npd]; exact hp), T.cl, T.nM, (by show 0 < 1000; decide), (by show 0 ≤ sizeLine; decide), fun r hr0 => ?_⟩
    have nrp : r ≠ p := fun e => by rw [e, upd_same] at hr0; cases hr0
    have nrd : r ≠ d := fun e => by rw [e, upd_ne npd.symm, upd_same] at hr0; cases hr0
    have hr1 : H r = none := by rw [upd_ne nrp, upd_ne nrd] at hr0; exact hr0
    refine ⟨_, rfl, p, C, dx, _, rfl, (by rw [upd_ne nrp.symm]; exact upd_same), T.cl, T.nR, (by show 1 < 1000; decide), ?_⟩
    refine k d r _ hd hr1 ⟨⟨dx, upd_same⟩, ⟨[], by rw [upd_ne npd.symm, upd_ne nrd.symm, upd_ne npd.symm, upd_same], List.nodup_nil, fun k m => (by cases m), fun x => rfl⟩, [], by rw [upd_ne nrp, upd_same]; rfl, fun q m => (by cases m), List.Pairwise.nil, fun x => Iff.rfl⟩ fun b o e hb => ?_
    rw [upd_ne hb, upd_ne (ne_of_none e hr1), upd_ne hb, upd_ne (ne_of_none e hd)]
    exact e
theorem put_len (kvs : List (List L2.Key × V)) (k : List L2.Key) (v : V) : (putK kvs k v).length ≤ kvs.length + 1 := by
  unfold putK
  split
  · rw [List.length_map]; omega
  · rw [List.length_append]; exact Nat.le_refl _
theorem ix_dict {C p d r dx : Addr} {H : Hp} {qs : List P2} {kvs kvs' : List (List L2.Key × V)} {bs : List (Addr × P2)} (ob : H p = some (.ins C dx (flds d r))) (dc : H d = some (.dT kvs)) (rs : H r = some (.lst (bs.map fun q => V.ref q.1))) (ri : Rising H bs qs) (cn : Cnt kvs' qs) :
    IxAt C (upd H d (.dT kvs')) p d r qs := by
  have n1 : p ≠ d := ne_of ob dc (by intro z; cases z)
  have n2 : r ≠ d := ne_of rs dc (by intro z; cases z)
  exact ⟨⟨dx, by rw [upd_ne n1]; exact ob⟩, ⟨_, upd_same, cn⟩, bs, by rw [upd_ne n2]; exact rs, fun q m => by rw [upd_ne (ne_of (ri.tup q m) dc (by intro z; cases z))]; exact ri.tup q m, ri.up, ri.mem⟩
theorem scA : FnScope ["self", "worth", "key", "pair"] ["self", "worth", "key"] (defScope s_Index_add) := ⟨rfl, rfl, rfl, by decide +kernel, rfl, by decide +kernel, by decide +kernel⟩
theorem ok_add {f C fp : Addr} {fd fdp : FuncData} (F : Fun K "add" "Index.add" s_Index_add f fd) (T : TxtX K mg C) (Cplace_in : Cal P w K mg base 1 "place_in" ["items", "item"] (spPlaceT K) fp fdp) : FnOk P w K mg base CX0 2 f fd ["self", "worth", "key"] (spAdd C) := by
  refine F.ok scA (fun vs H Q E h => ?_) (fun cdv A outer s H vs Q E hr h => ?_)
  · obtain ⟨p, d, r, x, ps, rfl, _⟩ := h
    rfl
  · obtain ⟨p, d, r, x, ps, rfl, X, few, k⟩ := h
    have hr1 : Room 1 _ := hr
    refine ⟨_, (pss_cons (ps_set (i := 3) scA.nd rfl (Or.inl rfl) (pe_tup (pa_cons (pv 1) (pa_cons (pv 2) pa_nil))))
      (pss_cons (ps_if (pt_cmp (pc_dnotin (hu_of hr) (pv 3) (pe_fld (pv 0) rfl))) (pss_cons (ps_expr (pe_bm PySem.F.plainAttrs_list PySem.F.slot_list_insert PySem.F.type_list_insert mt_insert (pe_fld (pv 0) rfl) (pa_cons (pe_call Cplace_in.G hr1 (by rfl) Cplace_in.g Cplace_in.kp Cplace_in.b .nil pass0 (pa_cons (pe_fld (pv 0) rfl) (pa_cons (pv 3) pa_nil))) (pa_cons (pv 3) pa_nil))))
        (pss_one (ps_dput (hu_of hr) (pe_fld (pv 0) rfl) (pv 3) pe_int rfl))) pss_nil)
      (pss_one (ps_daug (hu_of hr) (pe_fld (pv 0) rfl) (pv 3) pe_int in_add (by intros; rfl))))), ?_⟩
    refine sa1 ?_
    refine ⟨_, rfl, _, rfl, (by show 2 ≤ sizeLine; decide), fun b0 hb0 => ?_⟩
    refine gn ?_
    have s1 := same_new (o := tup2 x) hb0
    have hb1 : (upd H b0 (tup2 x)) b0 = some (tup2 x) := upd_same
    have X1 := X.same s1
    obtain ⟨⟨dx, ob⟩, ⟨kvs, dc, cn⟩, bs, rs, ri⟩ := id X1
    generalize upd H b0 (tup2 x) = H1 at s1 hb1 X1 ob dc rs ri
    refine ⟨_, rfl, _, rfl, p, C, dx, _, _, rfl, ob, T.cl, T.nM, flds_many _ _, d, _, rfl, DGet.t (k := kk x) dc hb1, _, rfl, ?_⟩
    rw [cn.at_ x]
    by_cases c : ps.count x = 0
    · rw [if_pos c]
      refine iteT ?_
      have nx : x ∉ ps := List.count_eq_zero.mp c
      have nb : x ∉ bs.map (·.2) := fun m => nx ((ri.mem x).mp m)
      have few1 : bs.length ≤ ps.length := by
        have z := nodup_le (bs.map (·.2)) ps (up_nodup ri.up) fun y m => (ri.mem y).mp m
        rwa [List.length_map] at z
      have sq : SqL K H1 r ((items bs).map Ref) := by
        rw [List.map_map]
        exact SqL.of rs
      have tq : ∀ q ∈ items bs, SqT K H1 q.1 (q.2.map V.int) := fun q m => by
        obtain ⟨p', m', rfl⟩ := List.mem_map.mp m
        exact SqT.of (ri.tup p' m')
      refine sq1 ?_
      refine ⟨_, rfl, p, C, dx, _, _, rfl, ob, T.cl, T.nR, flds_rising _ _, .inl ⟨rfl, _, SqL.of rs⟩, _, rfl, p, C, dx, _, _, rfl, ob, T.cl, T.nR, flds_rising _ _, _, rfl, r, b0, items bs, li x, rfl, sq, tq, SqT.of hb1, (by rw [List.length_map]; omega), rise_pair ri.up x, fun k0 sp => ?_⟩
      have lk := spot_len sp
      refine ⟨_, rfl, r, _, k0, .ref b0, rfl, rfl, rs, Nat.lt_of_le_of_lt (show (bs.map fun q => V.ref q.1).length ≤ 100000 by rw [List.length_map]; omega) (by decide), by omega, by omega, ?_⟩
      have el : (bs.map fun q => V.ref q.1).take (k0 : Int).toNat ++ [V.ref b0] ++ (bs.map fun q => V.ref q.1).drop (k0 : Int).toNat = (bs.take k0 ++ [(b0, x)] ++ bs.drop k0).map fun q => V.ref q.1 := by
        rw [List.map_append, List.map_append, List.map_take, List.map_drop]
        rfl
      rw [el]
      have n1 : p ≠ r := ne_of ob rs (by intro z; cases z)
      have n2 : d ≠ r := ne_of dc rs (by intro z; cases z)
      have n3 : b0 ≠ r := ne_of hb1 rs (by intro z; cases z)
      have n4 : d ≠ b0 := ne_of dc hb1 (by intro z; cases z)
      have up := up_insert (b := b0) ri.up sp nb
      have tup : ∀ q ∈ bs.take k0 ++ [(b0, x)] ++ bs.drop k0, H1 q.1 = some (tup2 q.2) := fun q m => by
        rcases List.mem_append.mp m with m | m
        · rcases List.mem_append.mp m with m | m
          · exact ri.tup q (List.mem_of_mem_take m)
          · rw [List.mem_singleton.mp m]; exact hb1
        · exact ri.tup q (List.mem_of_mem_drop m)
      have mem : ∀ y, y ∈ (bs.take k0 ++ [(b0, x)] ++ bs.drop k0).map (·.2) ↔ y ∈ x :: ps := fun y => by
        rw [List.mem_cons, ← ri.mem y]
        have cut : bs.map (·.2) = (bs.take k0).map (·.2) ++ (bs.drop k0).map (·.2) := by rw [← List.map_append, List.take_append_drop]
        rw [cut, List.map_append, List.map_append, List.mem_append, List.mem_append, List.mem_append]
        constructor
        · rintro ((h | h) | h)
          · exact .inr (.inl h)
          · exact .inl (by simpa using h)
          · exact .inr (.inr h)
        · rintro (h | h | h)
          · exact .inl (.inr (by simpa using h))
          · exact .inl (.inl h)
          · exact .inr h
      generalize bs.take k0 ++ [(b0, x)] ++ bs.drop k0 = cs at up tup mem
      have ob2 : (upd H1 r (.lst (cs.map fun q => V.ref q.1))) p = some (.ins C dx (flds d r)) := by rw [upd_ne n1]; exact ob
      have dc2 : (upd H1 r (.lst (cs.map fun q => V.ref q.1))) d = some (.dT kvs) := by rw [upd_ne n2]; exact dc
      have hb2 : (upd H1 r (.lst (cs.map fun q => V.ref q.1))) b0 = some (tup2 x) := by rw [upd_ne n3]; exact hb1
      have rs2 : (upd H1 r (.lst (cs.map fun q => V.ref q.1))) r = some (.lst (cs.map fun q => V.ref q.1)) := upd_same
      have ri2 : Rising (upd H1 r (.lst (cs.map fun q => V.ref q.1))) cs (x :: ps) := ⟨fun q m => by rw [upd_ne (ne_of (tup q m) rs (by intro z; cases z))]; exact tup q m, up, mem⟩
      have k2 : KIx d r H (upd H1 r (.lst (cs.map fun q => V.ref q.1))) := fun y o h1 h2 e => by rw [upd_ne h2]; exact s1 _ _ e
      generalize upd H1 r (.lst (cs.map fun q => V.ref q.1)) = H2 at ob2 dc2 hb2 rs2 ri2 k2
      have lv : kvs.length ≤ 100000 := Nat.le_trans cn.few few
      refine ⟨_, rfl, p, C, dx, _, _, rfl, ob2, T.cl, T.nM, flds_many _ _, _, rfl, d, _, rfl, DPut.t (k := kk x) dc2 hb2 (Nat.lt_of_le_of_lt lv (by decide)), ?_⟩
      have n5 : p ≠ d := ne_of ob2 dc2 (by intro z; cases z)
      have n6 : r ≠ d := ne_of rs2 dc2 (by intro z; cases z)
      have hb3 : (upd H2 d (.dT (putK kvs (kk x) (.int 0)))) b0 = some (tup2 x) := by rw [upd_ne n4.symm]; exact hb2
      have g3 : DGet (upd H2 d (.dT (putK kvs (kk x) (.int 0)))) d (.ref b0) (some (.int 0)) := by
        have e : valV (putK kvs (kk x) (.int 0)) (kk x) = some (V.int 0) := by rw [valV_put, if_pos rfl]
        rw [← e]
        exact DGet.t (k := kk x) upd_same hb3
      refine ⟨_, rfl, p, C, dx, _, _, rfl, (by rw [upd_ne n5]; exact ob2), T.cl, T.nM, flds_many _ _, _, rfl, d, _, rfl, g3, _, _, rfl, rfl, _, DPut.t (k := kk x) upd_same hb3 (Nat.lt_of_le_of_lt (Nat.le_trans (put_len kvs (kk x) (.int 0)) (Nat.succ_le_succ lv)) (by decide)), ?_⟩
      rw [upd_upd]
      exact k _ (fun y o h1 h2 e => by rw [upd_ne h1]; exact k2 y o h1 h2 e) (ix_dict ob2 dc2 rs2 ri2 (cn.first nx))
    · rw [if_neg c]
      refine iteF ?_
      have mx : x ∈ ps := List.count_pos_iff.mp (Nat.pos_of_ne_zero c)
      have lv : kvs.length ≤ 100000 := Nat.le_trans cn.few few
      have g1 : DGet H1 d (.ref b0) (some (.int (ps.count x))) := by
        have e := cn.at_ x
        rw [if_neg c] at e
        rw [← e]
        exact DGet.t (k := kk x) dc hb1
      refine ⟨_, rfl, p, C, dx, _, _, rfl, ob, T.cl, T.nM, flds_many _ _, _, rfl, d, _, rfl, g1, _, _, rfl, rfl, _, DPut.t (k := kk x) dc hb1 (Nat.lt_of_le_of_lt lv (by decide)), ?_⟩
      exact k _ (fun y o h1 h2 e => by rw [upd_ne h1]; exact s1 _ _ e) (ix_dict ob dc rs ⟨ri.tup, ri.up, fun y => (ri.mem y).trans ⟨List.mem_cons_of_mem _, fun m => (List.mem_cons.mp m).elim (fun z => z ▸ mx) id⟩⟩ (cn.more mx))
end

end GS

set_option linter.all false
set_option maxHeartbeats 4000000
namespace GS
open PySem L2 HX
/-! ### a table: its data and where they stand -/
abbrev Row := List Int
abbrev Ver := Int × Option Row
def RowAt (H : Hp) : Option Row → V → Prop
  | none, v => v = .non
  | some ns, v => ∃ q, v = .ref q ∧ H q = some (.tup (ns.map V.int))
def VerAt (H : Hp) (x : Ver) (v : V) : Prop := ∃ p rv, v = .ref p ∧ H p = some (.tup [.int x.1, rv]) ∧ RowAt H x.2 rv
/-- tuples stay -/
def TupO : HO → Prop
  | .tup _ => True
  | .frz _ (.tup _) => True
  | _ => False
def TK (H H' : Hp) : Prop := ∀ a u, TupO u → H a = some u → H' a = some u
theorem TK.same {H H' : Hp} (s : Same H H') : TK H H' := fun a u _ h => s a u h
theorem TK.trans {H H1 H2 : Hp} (a : TK H H1) (b : TK H1 H2) : TK H H2 := fun c u t h => b c u t (a c u t h)
theorem TK.refl (H : Hp) : TK H H := fun _ _ _ h => h
theorem TK.tup {H H' : Hp} (k : TK H H') {a : Addr} {xs : List V} (h : H a = some (.tup xs)) : H' a = some (.tup xs) := k a _ trivial h
/-- a tuple that no dict hangs on -/
structure BT (K : PySem.W.Frag) (H : Hp) (p : Addr) (xs : List V) : Prop where
  sq : SqT K H p xs
  bare : (∃ o ys, H p = some (.frz o (.tup ys)) ∧ o.cls = .type "tuple" ∧ o.dict = none) ∨ ∃ o, K.lookup p = some o ∧ o.cls = .type "tuple" ∧ o.dict = none
theorem sqt_keep {K : PySem.W.Frag} {H H' : Hp} (k : TK H H') {p : Addr} {xs : List V} (h : SqT K H p xs) : SqT K H' p xs := by
  rcases h with (h | ⟨o, h⟩) | h
  · exact .inl (.inl (k p _ trivial h))
  · exact .inl (.inr ⟨o, k p _ trivial h⟩)
  · exact .inr h
theorem BT.keep {K : PySem.W.Frag} {H H' : Hp} (k : TK H H') {p : Addr} {xs : List V} (h : BT K H p xs) : BT K H' p xs :=
  ⟨sqt_keep k h.sq, h.bare.imp (fun ⟨o, ys, e, c⟩ => ⟨o, ys, k p _ trivial e, c⟩) id⟩
theorem RowAt.keep {H H' : Hp} (k : TK H H') : ∀ {r : Option Row} {v : V}, RowAt H r v → RowAt H' r v
  | none, _, h => h
  | some _, _, ⟨q, e, h⟩ => ⟨q, e, k.tup h⟩
theorem VerAt.keep {H H' : Hp} (k : TK H H') {x : Ver} {v : V} (h : VerAt H x v) : VerAt H' x v := by
  obtain ⟨p, rv, e, h1, h2⟩ := h
  exact ⟨p, rv, e, k.tup h1, h2.keep k⟩
abbrev Chn := Int × Addr × List Ver
abbrev Ixn := Str × (Addr × Addr × Addr) × List P2
structure TC where
  num : Int
  fields : List Str
  tf : Addr
  ch : Addr
  ri : Addr
  ix : Addr
  md : Addr
  cl : List Chn
  ks : List Int
  il : List Ixn
  made : List (Str × Int)
abbrev tfl (c : TC) : List (Str × V) := putF "made" (.ref c.md) (putF "indexes" (.ref c.ix) (putF "rising" (.ref c.ri) (putF "chains" (.ref c.ch) (putF "fields" (.ref c.tf) (putF "number" (.int c.num) [])))))
def ckv (cl : List Chn) : List (Key × V) := cl.map fun x => (Sum.inl x.1, V.ref x.2.1)
def ikv (il : List Ixn) : List (Key × V) := il.map fun i => (Sum.inr i.1, V.ref i.2.1.1)
def mkv (m : List (Str × Int)) : List (Key × V) := m.map fun m => (Sum.inr m.1, V.int m.2)
def ifp (i : Ixn) : List Addr := [i.2.1.1, i.2.1.2.1, i.2.1.2.2]
def TC.fp (c : TC) (tb : Addr) : List Addr := tb :: c.ch :: c.ri :: c.ix :: c.md :: (c.cl.map (fun x => x.2.1) ++ c.il.flatMap ifp)
structure TAt (K : PySem.W.Frag) (CT CI : Addr) (H : Hp) (tb : Addr) (c : TC) : Prop where
  ob : ∃ dx, H tb = some (.ins CT dx (tfl c))
  tf : BT K H c.tf (c.fields.map V.str)
  ch : H c.ch = some (.dK (ckv c.cl))
  cv : ∀ x ∈ c.cl, ∃ vs, H x.2.1 = some (.lst vs) ∧ Paired (VerAt H) x.2.2 vs
  ri : H c.ri = some (.lst (c.ks.map V.int))
  ix : H c.ix = some (.dK (ikv c.il))
  iv : ∀ i ∈ c.il, IxAt CI H i.2.1.1 i.2.1.2.1 i.2.1.2.2 i.2.2
  md : H c.md = some (.dK (mkv c.made))
  nd : (c.fp tb).Nodup
structure TC.Ok (c : TC) (m : Nat) : Prop where
  kd : (c.cl.map (fun x => x.1)).Nodup
  up : c.ks.Pairwise (· < ·)
  km : ∀ k, k ∈ c.ks ↔ k ∈ c.cl.map (fun x => x.1)
  ind : (c.il.map (fun x => x.1)).Nodup
  inf : ∀ i ∈ c.il, i.1 ∈ c.fields
  n1 : c.cl.length ≤ m
  n2 : (c.cl.map (fun x => x.2.2.length)).sum ≤ m
  n3 : ∀ i ∈ c.il, i.2.2.length ≤ m
/-- what stands apart -/
structure Ndf (c : TC) (tb : Addr) : Prop where
  a1 : tb ≠ c.ch ∧ tb ≠ c.ri ∧ tb ≠ c.ix ∧ tb ≠ c.md
  a2 : c.ch ≠ c.ri ∧ c.ch ≠ c.ix ∧ c.ch ≠ c.md
  a3 : c.ri ≠ c.ix ∧ c.ri ≠ c.md
  a4 : c.ix ≠ c.md
  b : ∀ x ∈ c.cl, x.2.1 ≠ tb ∧ x.2.1 ≠ c.ch ∧ x.2.1 ≠ c.ri ∧ x.2.1 ≠ c.ix ∧ x.2.1 ≠ c.md
  i : ∀ x ∈ c.il, ∀ a ∈ ifp x, a ≠ tb ∧ a ≠ c.ch ∧ a ≠ c.ri ∧ a ≠ c.ix ∧ a ≠ c.md
  bi : ∀ x ∈ c.cl, ∀ y ∈ c.il, ∀ a ∈ ifp y, x.2.1 ≠ a
  bb : (c.cl.map (fun x => x.2.1)).Nodup
  ii : (c.il.flatMap ifp).Nodup
theorem ndf_of {c : TC} {tb : Addr} (h : (c.fp tb).Nodup) : Ndf c tb := by
  unfold TC.fp at h
  obtain ⟨h1, h⟩ := List.nodup_cons.mp h
  obtain ⟨h2, h⟩ := List.nodup_cons.mp h
  obtain ⟨h3, h⟩ := List.nodup_cons.mp h
  obtain ⟨h4, h⟩ := List.nodup_cons.mp h
  obtain ⟨h5, h⟩ := List.nodup_cons.mp h
  obtain ⟨h6, h7, h8⟩ := List.nodup_append.mp h
  have mc : ∀ x ∈ c.cl, x.2.1 ∈ c.cl.map (fun x => x.2.1) := fun x m => List.mem_map_of_mem m
  have mi : ∀ x ∈ c.il, ∀ a ∈ ifp x, a ∈ c.il.flatMap ifp := fun x m a ma => List.mem_flatMap.mpr ⟨x, m, ma⟩
  simp only [List.mem_cons, List.mem_append, not_or] at h1 h2 h3 h4 h5
  refine ⟨⟨h1.1, h1.2.1, h1.2.2.1, h1.2.2.2.1⟩, ⟨h2.1, h2.2.1, h2.2.2.1⟩, ⟨h3.1, h3.2.1⟩, h4.1, fun x m => ⟨fun e => h1.2.2.2.2.1 (e ▸ mc x m), fun e => h2.2.2.2.1 (e ▸ mc x m), fun e => h3.2.2.1 (e ▸ mc x m), fun e => h4.2.1 (e ▸ mc x m), fun e => h5.1 (e ▸ mc x m)⟩,
    fun x m a ma => ⟨fun e => h1.2.2.2.2.2 (e ▸ mi x m a ma), fun e => h2.2.2.2.2 (e ▸ mi x m a ma), fun e => h3.2.2.2 (e ▸ mi x m a ma), fun e => h4.2.2 (e ▸ mi x m a ma), fun e => h5.2 (e ▸ mi x m a ma)⟩, fun x m y n a ma => h8 _ (mc x m) _ (mi y n a ma), h6, h7⟩
theorem fp_mem {c : TC} {tb b : Addr} : b ∈ c.fp tb ↔ b = tb ∨ b = c.ch ∨ b = c.ri ∨ b = c.ix ∨ b = c.md ∨ (∃ x ∈ c.cl, b = x.2.1) ∨ ∃ i ∈ c.il, b ∈ ifp i := by
  unfold TC.fp
  simp only [List.mem_cons, List.mem_append, List.mem_map, List.mem_flatMap]
  constructor
  · rintro (h | h | h | h | h | ⟨x, m, h⟩ | h)
    · exact .inl h
    · exact .inr (.inl h)
    · exact .inr (.inr (.inl h))
    · exact .inr (.inr (.inr (.inl h)))
    · exact .inr (.inr (.inr (.inr (.inl h))))
    · exact .inr (.inr (.inr (.inr (.inr (.inl ⟨x, m, h.symm⟩)))))
    · exact .inr (.inr (.inr (.inr (.inr (.inr h)))))
  · rintro (h | h | h | h | h | ⟨x, m, h⟩ | h)
    · exact .inl h
    · exact .inr (.inl h)
    · exact .inr (.inr (.inl h))
    · exact .inr (.inr (.inr (.inl h)))
    · exact .inr (.inr (.inr (.inr (.inl h))))
    · exact .inr (.inr (.inr (.inr (.inr (.inl ⟨x, m, h.symm⟩)))))
    · exact .inr (.inr (.inr (.inr (.inr (.inr h)))))
theorem IxAt.keep {C : Addr} {H H' : Hp} {p d r : Addr} {ps : List P2} (x : IxAt C H p d r ps) (k : ∀ b ∈ [p, d, r], ∀ o, H b = some o → H' b = some o) (t : TK H H') : IxAt C H' p d r ps := by
  obtain ⟨⟨dx, h1⟩, ⟨kvs, h2, h3⟩, bs, h4, h5⟩ := x
  exact ⟨⟨dx, k p (by simp) _ h1⟩, ⟨kvs, k d (by simp) _ h2, h3⟩, bs, k r (by simp) _ h4, fun q m => t.tup (h5.tup q m), h5.up, h5.mem⟩
theorem pw_ver {H H' : Hp} (t : TK H H') {xs : List Ver} {vs : List V} (h : Paired (VerAt H) xs vs) : Paired (VerAt H') xs vs := pw_imp (fun _ _ q => q.keep t) h
/-- a table stays where its places stay -/
theorem TAt.keep {K : PySem.W.Frag} {CT CI : Addr} {H H' : Hp} {tb : Addr} {c : TC} (x : TAt K CT CI H tb c) (k : ∀ b ∈ c.fp tb, ∀ o, H b = some o → H' b = some o) (t : TK H H') : TAt K CT CI H' tb c := by
  have m := @fp_mem c tb
  obtain ⟨dx, ob⟩ := x.ob
  refine ⟨⟨dx, k _ (m.mpr (.inl rfl)) _ ob⟩, x.tf.keep t, k _ (m.mpr (.inr (.inl rfl))) _ x.ch, fun y hy => ?_, k _ (m.mpr (.inr (.inr (.inl rfl)))) _ x.ri, k _ (m.mpr (.inr (.inr (.inr (.inl rfl))))) _ x.ix, fun i hi => (x.iv i hi).keep (fun b hb => k b (m.mpr (.inr (.inr (.inr (.inr (.inr (.inr ⟨i, hi, hb⟩)))))))) t, k _ (m.mpr (.inr (.inr (.inr (.inr (.inl rfl)))))) _ x.md, x.nd⟩
  obtain ⟨vs, h1, h2⟩ := x.cv y hy
  exact ⟨vs, k _ (m.mpr (.inr (.inr (.inr (.inr (.inr (.inl ⟨y, hy, rfl⟩))))))) _ h1, pw_ver t h2⟩
theorem TAt.same {K : PySem.W.Frag} {CT CI : Addr} {H H' : Hp} {tb : Addr} {c : TC} (x : TAt K CT CI H tb c) (s : Same H H') : TAt K CT CI H' tb c := x.keep (fun b _ o h => s b o h) (TK.same s)
/-- what stands at a table's places is no tuple -/
theorem TAt.notup {K : PySem.W.Frag} {CT CI : Addr} {H : Hp} {tb : Addr} {c : TC} (x : TAt K CT CI H tb c) {b : Addr} (hb : b ∈ c.fp tb) : ∃ o, H b = some o ∧ ¬ TupO o := by
  rcases fp_mem.mp hb with h | h | h | h | h | ⟨y, hy, h⟩ | ⟨i, hi, h⟩
  · obtain ⟨dx, ob⟩ := x.ob
    exact ⟨_, h ▸ ob, by intro z; exact z⟩
  · exact ⟨_, h ▸ x.ch, by intro z; exact z⟩
  · exact ⟨_, h ▸ x.ri, by intro z; exact z⟩
  · exact ⟨_, h ▸ x.ix, by intro z; exact z⟩
  · exact ⟨_, h ▸ x.md, by intro z; exact z⟩
  · obtain ⟨vs, h1, _⟩ := x.cv y hy
    exact ⟨_, h ▸ h1, by intro z; exact z⟩
  · obtain ⟨⟨dx, h1⟩, ⟨kvs, h2, _⟩, bs, h3, _⟩ := x.iv i hi
    simp only [ifp, List.mem_cons, List.not_mem_nil, or_false] at h
    rcases h with h | h | h
    · exact ⟨_, h ▸ h1, by intro z; exact z⟩
    · exact ⟨_, h ▸ h2, by intro z; exact z⟩
    · exact ⟨_, h ▸ h3, by intro z; exact z⟩
/-- all but the places fp stays -/
def KF (fp : List Addr) (H H' : Hp) : Prop := ∀ b o, b ∉ fp → H b = some o → H' b = some o
theorem KF.same {fp : List Addr} {H H' : Hp} (s : Same H H') : KF fp H H' := fun b o _ h => s b o h
theorem KF.trans {fp : List Addr} {H H1 H2 : Hp} (a : KF fp H H1) (b : KF fp H1 H2) : KF fp H H2 := fun c o n h => b c o n (a c o n h)
theorem KF.mono {fp fp' : List Addr} {H H' : Hp} (a : KF fp H H') (h : ∀ b ∈ fp, b ∈ fp') : KF fp' H H' := fun c o n e => a c o (fun m => n (h c m)) e
theorem KF.upd {fp : List Addr} {H : Hp} {a : Addr} {o : HO} (h : a ∈ fp ∨ H a = none) : KF fp H (upd H a o) := fun b u n e => by
  rcases h with h | h
  · rw [upd_ne (fun (z : b = a) => n (by rw [z]; exact h))]; exact e
  · rw [upd_ne (ne_of_none e h)]; exact e
theorem KF.tk {K : PySem.W.Frag} {CT CI : Addr} {H H' : Hp} {tb : Addr} {c : TC} (x : TAt K CT CI H tb c) (k : KF (c.fp tb) H H') : TK H H' := fun a u hu h => by
  refine k a _ (fun m => ?_) h
  obtain ⟨o, h1, h2⟩ := x.notup m
  rw [h] at h1
  exact h2 (Option.some.inj h1 ▸ hu)
/-- the chain of a key -/
theorem valV_ckv (k : Int) : ∀ cl : List Chn, valV (ckv cl) (Sum.inl k) = (cl.find? fun x => decide (x.1 = k)).map fun x => V.ref x.2.1
  | [] => rfl
  | x :: cl => by
    have ih := valV_ckv k cl
    by_cases e : x.1 = k
    · rw [List.find?_cons_of_pos (by simpa using e)]
      exact valV_pos (p := (Sum.inl x.1, V.ref x.2.1)) (by rw [e])
    · rw [List.find?_cons_of_neg (by simpa using e), ← ih]
      exact valV_neg (p := (Sum.inl x.1, V.ref x.2.1)) (fun z => e (Sum.inl.inj z))
theorem ckv_len (cl : List Chn) : (ckv cl).length = cl.length := List.length_map ..
end GS

set_option linter.all false
set_option maxHeartbeats 4000000
namespace GS
open PySem L2 HX
/-! ### a chain begins -/
def insI (ks : List Int) (j : Nat) (k : Int) : List Int := ks.take j ++ [k] ++ ks.drop j
theorem nodup_inj {α β : Type} {f : α → β} : ∀ {l : List α} {x y : α}, (l.map f).Nodup → x ∈ l → y ∈ l → f x = f y → x = y
  | z :: l, x, y, nd, hx, hy, e => by
    obtain ⟨n1, n2⟩ := List.nodup_cons.mp nd
    rcases List.mem_cons.mp hx with hx | hx
    · rcases List.mem_cons.mp hy with hy | hy
      · rw [hx, hy]
      · exact absurd (by rw [← hx, e]; exact List.mem_map_of_mem hy) n1
    · rcases List.mem_cons.mp hy with hy | hy
      · exact absurd (by rw [← hy, ← e]; exact List.mem_map_of_mem hx) n1
      · exact nodup_inj n2 hx hy e
theorem up_ins {ks : List Int} {j : Nat} {k : Int} (u : ks.Pairwise (· < ·)) (n : k ∉ ks) (lo : ∀ x ∈ ks.take j, x < k) (hi : ∀ x ∈ ks.drop j, ¬ x < k) : (insI ks j k).Pairwise (· < ·) := by
  unfold insI
  have e : ks = ks.take j ++ ks.drop j := (List.take_append_drop j ks).symm
  have u2 := u
  rw [e] at u2
  obtain ⟨p1, p2, p3⟩ := List.pairwise_append.mp u2
  refine List.pairwise_append.mpr ⟨List.pairwise_append.mpr ⟨p1, List.pairwise_singleton _ _, fun a ma b mb => by rw [List.mem_singleton.mp mb]; exact lo a ma⟩, p2, fun a ma b mb => ?_⟩
  rcases List.mem_append.mp ma with ma | ma
  · exact p3 a ma b mb
  · rw [List.mem_singleton.mp ma]
    have h1 := hi b mb
    have h2 : b ≠ k := fun z => n (z ▸ List.mem_of_mem_drop mb)
    omega
theorem mem_ins {ks : List Int} {j : Nat} {k x : Int} : x ∈ insI ks j k ↔ x = k ∨ x ∈ ks := by
  unfold insI
  rw [List.mem_append, List.mem_append, List.mem_singleton]
  constructor
  · rintro ((h | h) | h)
    · exact .inr (List.mem_of_mem_take h)
    · exact .inl h
    · exact .inr (List.mem_of_mem_drop h)
  · rintro (h | h)
    · exact .inl (.inr h)
    · rw [← List.take_append_drop j ks, List.mem_append] at h
      rcases h with h | h
      · exact .inl (.inl h)
      · exact .inr h
def openC (c : TC) (k : Int) (j : Nat) (a : Addr) : TC := { c with cl := c.cl ++ [(k, a, [])], ks := insI c.ks j k }
theorem fp_open {c : TC} {tb a b : Addr} {k : Int} {j : Nat} : b ∈ (openC c k j a).fp tb ↔ b ∈ c.fp tb ∨ b = a := by
  rw [fp_mem, fp_mem]
  constructor
  · rintro (h | h | h | h | h | ⟨x, m, h⟩ | h)
    · exact .inl (.inl h)
    · exact .inl (.inr (.inl h))
    · exact .inl (.inr (.inr (.inl h)))
    · exact .inl (.inr (.inr (.inr (.inl h))))
    · exact .inl (.inr (.inr (.inr (.inr (.inl h)))))
    · rcases List.mem_append.mp m with m | m
      · exact .inl (.inr (.inr (.inr (.inr (.inr (.inl ⟨x, m, h⟩))))))
      · rw [List.mem_singleton.mp m] at h
        exact .inr h
    · exact .inl (.inr (.inr (.inr (.inr (.inr (.inr h))))))
  · rintro ((h | h | h | h | h | ⟨x, m, h⟩ | h) | h)
    · exact .inl h
    · exact .inr (.inl h)
    · exact .inr (.inr (.inl h))
    · exact .inr (.inr (.inr (.inl h)))
    · exact .inr (.inr (.inr (.inr (.inl h))))
    · exact .inr (.inr (.inr (.inr (.inr (.inl ⟨x, List.mem_append_left _ m, h⟩)))))
    · exact .inr (.inr (.inr (.inr (.inr (.inr h)))))
    · exact .inr (.inr (.inr (.inr (.inr (.inl ⟨_, List.mem_append_right _ (List.mem_singleton.mpr rfl), h⟩)))))
theorem nd_open {c : TC} {tb a : Addr} {k : Int} {j : Nat} (h : (c.fp tb).Nodup) (n : a ∉ c.fp tb) : ((openC c k j a).fp tb).Nodup := by
  have e : List.Perm ((openC c k j a).fp tb) (a :: c.fp tb) := by
    unfold TC.fp openC
    simp only [List.map_append, List.map_cons, List.map_nil, List.append_assoc]
    refine List.Perm.trans ?_ (List.Perm.trans (List.perm_middle (a := a) (l₁ := tb :: c.ch :: c.ri :: c.ix :: c.md :: c.cl.map (fun x => x.2.1)) (l₂ := c.il.flatMap ifp)) ?_)
    · simp
    · simp
  exact e.nodup_iff.mpr (List.nodup_cons.mpr ⟨n, h⟩)
theorem TC.Ok.open {c : TC} {m : Nat} {k : Int} {j : Nat} {a : Addr} (o : c.Ok m) (n : k ∉ c.cl.map (fun x => x.1)) (lo : ∀ x ∈ c.ks.take j, x < k) (hi : ∀ x ∈ c.ks.drop j, ¬ x < k) : (openC c k j a).Ok (m + 1) := by
  have nk : k ∉ c.ks := fun z => n ((o.km k).mp z)
  refine ⟨?_, up_ins o.up nk lo hi, fun x => ?_, o.ind, o.inf, ?_, ?_, fun i hi => Nat.le_succ_of_le (o.n3 i hi)⟩
  · show ((c.cl ++ [((k, a, []) : Chn)]).map (fun x : Chn => x.1)).Nodup
    rw [List.map_append]
    exact List.nodup_append.mpr ⟨o.kd, List.nodup_cons.mpr ⟨List.not_mem_nil, List.nodup_nil⟩, fun x hx y hy z => n (by rw [List.mem_singleton.mp hy] at z; have z : x = k := z; rw [← z]; exact hx)⟩
  · show x ∈ insI c.ks j k ↔ x ∈ (c.cl ++ [((k, a, []) : Chn)]).map (fun x : Chn => x.1)
    rw [mem_ins, o.km, List.map_append, List.mem_append]
    simp only [List.map_cons, List.map_nil, List.mem_singleton]
    exact Or.comm
  · show (c.cl ++ [(k, a, [])]).length ≤ m + 1
    rw [List.length_append]
    exact Nat.succ_le_succ o.n1
  · show ((c.cl ++ [((k, a, []) : Chn)]).map (fun x : Chn => x.2.2.length)).sum ≤ m + 1
    rw [List.map_append, List.sum_append]
    exact Nat.le_succ_of_le o.n2
theorem TAt.open {K : PySem.W.Frag} {CT CI : Addr} {H : Hp} {tb : Addr} {c : TC} {k : Int} {j : Nat} {a : Addr} (x : TAt K CT CI H tb c) (ha : H a = none) (nk : valV (ckv c.cl) (Sum.inl k) = none) :
    TAt K CT CI (upd (upd (upd H c.ri (.lst ((insI c.ks j k).map V.int))) a (.lst [])) c.ch (.dK (putK (ckv c.cl) (Sum.inl k) (.ref a)))) tb (openC c k j a) := by
  have f := ndf_of x.nd
  have na : ∀ b o, H b = some o → b ≠ a := fun b o e => ne_of_none e ha
  have hfp : ∀ b ∈ c.fp tb, b ≠ a := fun b m => by
    obtain ⟨o, e, _⟩ := x.notup m
    exact na b o e
  have other : ∀ b o, b ≠ c.ri → b ≠ c.ch → H b = some o → (upd (upd (upd H c.ri (.lst ((insI c.ks j k).map V.int))) a (.lst [])) c.ch (.dK (putK (ckv c.cl) (Sum.inl k) (.ref a)))) b = some o := fun b o n1 n2 e => by
    rw [upd_ne n2, upd_ne (na b o e), upd_ne n1]
    exact e
  have tk : TK H (upd (upd (upd H c.ri (.lst ((insI c.ks j k).map V.int))) a (.lst [])) c.ch (.dK (putK (ckv c.cl) (Sum.inl k) (.ref a)))) := fun b u hu e => other b _ (ne_of e x.ri (by intro z; subst z; exact hu)) (ne_of e x.ch (by intro z; subst z; exact hu)) e
  obtain ⟨dx, ob⟩ := x.ob
  have chri : c.ch ≠ c.ri := f.a2.1
  have ria : c.ri ≠ a := na _ _ x.ri
  refine ⟨⟨dx, other _ _ f.a1.2.1 f.a1.1 ob⟩, x.tf.keep tk, ?_, fun y hy => ?_, ?_, other _ _ (Ne.symm f.a3.1) (Ne.symm f.a2.2.1) x.ix, fun i hi => (x.iv i hi).keep (fun b hb o e => other b o (f.i i hi b hb).2.2.1 (f.i i hi b hb).2.1 e) tk, other _ _ (Ne.symm f.a3.2) (Ne.symm f.a2.2.2) x.md, nd_open x.nd fun m => hfp a m rfl⟩
  · refine (upd_same (a := c.ch)).trans ?_
    rw [putK_new _ nk]
    show _ = some (HO.dK (ckv (c.cl ++ [((k, a, []) : Chn)])))
    unfold ckv
    rw [List.map_append]
    rfl
  · rcases List.mem_append.mp (show y ∈ c.cl ++ [(k, a, [])] from hy) with hy | hy
    · obtain ⟨vs, h1, h2⟩ := x.cv y hy
      exact ⟨vs, other _ _ (f.b y hy).2.2.1 (f.b y hy).2.1 h1, pw_ver tk h2⟩
    · rw [List.mem_singleton.mp hy]
      exact ⟨[], by rw [upd_ne (Ne.symm (na _ _ x.ch)), upd_same], .nil⟩
  · exact (upd_ne (Ne.symm chri)).trans ((upd_ne ria).trans upd_same)
/-! ### a version behind -/
def pushC (c : TC) (k : Int) (x : Ver) : TC := { c with cl := c.cl.map fun y => if y.1 = k then (y.1, y.2.1, y.2.2 ++ [x]) else y }
theorem push_map {β : Type} (f : Int → Addr → β) (cl : List Chn) (k : Int) (x : Ver) : (cl.map fun y => if y.1 = k then (y.1, y.2.1, y.2.2 ++ [x]) else y).map (fun y => f y.1 y.2.1) = cl.map fun y => f y.1 y.2.1 := by
  rw [List.map_map]
  refine List.map_congr_left fun y _ => ?_
  show f (if y.1 = k then (y.1, y.2.1, y.2.2 ++ [x]) else y).1 (if y.1 = k then (y.1, y.2.1, y.2.2 ++ [x]) else y).2.1 = _
  split <;> rfl
theorem fp_push {c : TC} {tb : Addr} {k : Int} {x : Ver} : (pushC c k x).fp tb = c.fp tb := by
  unfold TC.fp pushC
  dsimp only
  rw [push_map (fun _ a => a)]
theorem sum_push {k : Int} {x : Ver} : ∀ {cl : List Chn}, (cl.map (fun x => x.1)).Nodup → ((cl.map fun y => if y.1 = k then (y.1, y.2.1, y.2.2 ++ [x]) else y).map (fun x => x.2.2.length)).sum ≤ (cl.map (fun x => x.2.2.length)).sum + 1
  | [], _ => Nat.zero_le _
  | y :: cl, nd => by
    obtain ⟨n1, n2⟩ := List.nodup_cons.mp nd
    rw [List.map_cons, List.map_cons, List.sum_cons, List.map_cons, List.sum_cons]
    by_cases e : y.1 = k
    · have z : (cl.map fun y => if y.1 = k then (y.1, y.2.1, y.2.2 ++ [x]) else y) = cl := by
        have : ∀ y' ∈ cl, (if y'.1 = k then (y'.1, y'.2.1, y'.2.2 ++ [x]) else y') = y' := fun y' m => if_neg fun e' => n1 (by show y.1 ∈ _; rw [e, ← e']; exact List.mem_map_of_mem (f := fun x : Chn => x.1) m)
        rw [List.map_congr_left this, List.map_id']
      rw [z, if_pos e]
      show (y.2.2 ++ [x]).length + (cl.map (fun x : Chn => x.2.2.length)).sum ≤ y.2.2.length + (cl.map (fun x : Chn => x.2.2.length)).sum + 1
      rw [List.length_append]
      exact Nat.le_of_eq (Nat.add_right_comm _ _ _)
    · have ih := sum_push (k := k) (x := x) n2
      rw [if_neg e]
      omega
theorem TC.Ok.push {c : TC} {m : Nat} {k : Int} {x : Ver} (o : c.Ok m) : (pushC c k x).Ok (m + 1) := by
  have e1 : (pushC c k x).cl.map (fun x => x.1) = c.cl.map (fun x => x.1) := push_map (fun k _ => k) c.cl k x
  refine ⟨by rw [e1]; exact o.kd, o.up, fun k' => by rw [e1]; exact o.km k', o.ind, o.inf, ?_, Nat.le_trans (sum_push o.kd) (Nat.succ_le_succ o.n2), fun i hi => Nat.le_succ_of_le (o.n3 i hi)⟩
  show (c.cl.map _).length ≤ m + 1
  rw [List.length_map]
  exact Nat.le_succ_of_le o.n1
theorem TAt.push {K : PySem.W.Frag} {CT CI : Addr} {H : Hp} {tb : Addr} {c : TC} {k : Int} {y : Chn} {x : Ver} {vs : List V} {v : V} (t : TAt K CT CI H tb c) (hy : y ∈ c.cl) (ek : y.1 = k) (kd : (c.cl.map (fun x => x.1)).Nodup) (hv : H y.2.1 = some (.lst vs)) (pw : Paired (VerAt H) y.2.2 vs) (hx : VerAt H x v) :
    TAt K CT CI (upd H y.2.1 (.lst (vs ++ [v]))) tb (pushC c k x) := by
  have f := ndf_of t.nd
  have fy := f.b y hy
  have tk : TK H (upd H y.2.1 (.lst (vs ++ [v]))) := fun b u hu e => by rw [upd_ne (ne_of e hv (by intro z; subst z; exact hu))]; exact e
  obtain ⟨dx, ob⟩ := t.ob
  refine ⟨⟨dx, by rw [upd_ne (Ne.symm fy.1)]; exact ob⟩, t.tf.keep tk, ?_, fun z hz => ?_, (upd_ne (Ne.symm fy.2.2.1)).trans t.ri, (upd_ne (Ne.symm fy.2.2.2.1)).trans t.ix, fun i hi => (t.iv i hi).keep (fun b hb o e => by rw [upd_ne (Ne.symm (f.bi y hy i hi b hb))]; exact e) tk, (upd_ne (Ne.symm fy.2.2.2.2)).trans t.md, by rw [fp_push]; exact t.nd⟩
  · refine (upd_ne (Ne.symm fy.2.1)).trans (t.ch.trans ?_)
    show some (HO.dK (ckv c.cl)) = some (HO.dK (ckv (c.cl.map _)))
    unfold ckv
    rw [push_map (fun k a => ((Sum.inl k : Key), V.ref a))]
  · obtain ⟨z0, hz0, rfl⟩ := List.mem_map.mp (show z ∈ c.cl.map (fun y => if y.1 = k then (y.1, y.2.1, y.2.2 ++ [x]) else y) from hz)
    by_cases e : z0.1 = k
    · have ez : z0 = y := nodup_inj kd hz0 hy (by rw [e, ek])
      rw [if_pos e, ez]
      exact ⟨vs ++ [v], upd_same, pw_app (pw_ver tk pw) (.cons (hx.keep tk) .nil)⟩
    · rw [if_neg e]
      obtain ⟨ws, h1, h2⟩ := t.cv z0 hz0
      have ne : z0.2.1 ≠ y.2.1 := fun q => e (by rw [nodup_inj f.bb hz0 hy q, ek])
      exact ⟨ws, by rw [upd_ne ne]; exact h1, pw_ver tk h2⟩
end GS

set_option linter.all false
set_option maxHeartbeats 4000000
namespace GS
open PySem L2 HX
/-! ### an instance's fields are laid -/
structure TI (C : Addr) (H H' : Hp) (tb dx : Addr) (fs : List (Str × V)) (as : List (Addr × HO)) : Prop where
  ob : H' tb = some (.ins C dx fs)
  al : ∀ x ∈ as, H' x.1 = some x.2 ∧ x.1 ≠ tb
  kf : KF [tb] H H'
  nd : (as.map (·.1)).Nodup
  nw : ∀ x ∈ as, H x.1 = none
theorem TI.fld {C : Addr} {H H' : Hp} {tb dx : Addr} {fs fs' : List (Str × V)} {as : List (Addr × HO)} (t : TI C H H' tb dx fs as) : TI C H (upd H' tb (.ins C dx fs')) tb dx fs' as :=
  ⟨upd_same, fun x m => ⟨by rw [upd_ne (t.al x m).2]; exact (t.al x m).1, (t.al x m).2⟩, t.kf.trans (KF.upd (.inl (List.mem_singleton.mpr rfl))), t.nd, t.nw⟩
theorem TI.new {C : Addr} {H H' : Hp} {tb dx a : Addr} {fs : List (Str × V)} {as : List (Addr × HO)} {o : HO} (t : TI C H H' tb dx fs as) (h : H' a = none) (h0 : H tb ≠ none) : TI C H (upd H' a o) tb dx fs ((a, o) :: as) := by
  have na : a ≠ tb := fun e => by rw [e, t.ob] at h; cases h
  refine ⟨by rw [upd_ne (Ne.symm na)]; exact t.ob, fun x m => ?_, t.kf.trans (KF.upd (.inr h)), List.nodup_cons.mpr ⟨fun m => ?_, t.nd⟩, fun x m => ?_⟩
  · rcases List.mem_cons.mp m with e | m
    · subst e; exact ⟨upd_same, na⟩
    · have z := t.al x m
      exact ⟨by rw [upd_ne (ne_of_none z.1 h)]; exact z.1, z.2⟩
  · obtain ⟨x, mx, e⟩ := List.mem_map.mp m
    have z := (t.al x mx).1
    have e : x.1 = a := e
    rw [e, h] at z
    cases z
  · rcases List.mem_cons.mp m with e | m
    · subst e
      cases q : H a with
      | none => rfl
      | some u => rw [t.kf a u (fun m => na (List.mem_singleton.mp m)) q] at h; cases h
    · exact t.nw x m
theorem TI.start {C : Addr} {H : Hp} {tb dx : Addr} (h : H tb = some (.ins C dx [])) : TI C H H tb dx [] [] := ⟨h, fun x m => (by cases m), fun b o _ e => e, List.nodup_nil, fun x m => (by cases m)⟩
theorem putF_len (f : Str) (v : V) : ∀ fs : List (Str × V), (putF f v fs).length ≤ fs.length + 1
  | [] => Nat.le_refl _
  | (g, x) :: r => by
    unfold putF
    split
    · exact Nat.le_succ _
    · exact Nat.succ_le_succ (putF_len f v r)
/-- the reading of o.f = v -/
theorem sfld {K : PySem.W.Frag} {C a dx : Addr} {fs : List (Str × V)} {te : TE} {f : Str} {i : Nat} {v : V} {H H1 : Hp} {D : Ends} {σ : L2.St} (h0 : σ[i]? = some (some (.ref a))) (ob : H a = some (.ins C dx fs)) (cl : Cls K C) (na : NoAttr K C f) (few : fs.length < 1000) (k : D.nx σ (upd H a (.ins C dx (putF f v fs)))) : (∃ a' C' dx' fs', V.ref a = .ref a' ∧ H a' = some (.ins C' dx' fs') ∧ Cls K C' ∧ NoAttr K C' f ∧ fs'.length < 1000 ∧ D.nx σ (upd H a' (.ins C' dx' (putF f v fs')))) :=
  ⟨a, C, dx, fs, rfl, ob, cl, na, few, k⟩
/-! ### what a table has -/
structure TxtT (K : PySem.W.Frag) (C : Addr) : Prop where
  cl : Cls K C
  n1 : NoAttr K C "number"
  n2 : NoAttr K C "fields"
  n3 : NoAttr K C "chains"
  n4 : NoAttr K C "rising"
  n5 : NoAttr K C "indexes"
  n6 : NoAttr K C "made"
theorem lk1 (c : TC) : (tfl c).lookup ("number" : Str) = some (.int c.num) := by
  simp only [tfl, lookup_putF]; rw [if_neg (by decide +kernel), if_neg (by decide +kernel), if_neg (by decide +kernel), if_neg (by decide +kernel), if_neg (by decide +kernel), if_pos trivial]
theorem lk2 (c : TC) : (tfl c).lookup ("fields" : Str) = some (.ref c.tf) := by
  simp only [tfl, lookup_putF]; rw [if_neg (by decide +kernel), if_neg (by decide +kernel), if_neg (by decide +kernel), if_neg (by decide +kernel), if_pos trivial]
theorem lk3 (c : TC) : (tfl c).lookup ("chains" : Str) = some (.ref c.ch) := by
  simp only [tfl, lookup_putF]; rw [if_neg (by decide +kernel), if_neg (by decide +kernel), if_neg (by decide +kernel), if_pos trivial]
theorem lk4 (c : TC) : (tfl c).lookup ("rising" : Str) = some (.ref c.ri) := by
  simp only [tfl, lookup_putF]; rw [if_neg (by decide +kernel), if_neg (by decide +kernel), if_pos trivial]
theorem lk5 (c : TC) : (tfl c).lookup ("indexes" : Str) = some (.ref c.ix) := by
  simp only [tfl, lookup_putF]; rw [if_neg (by decide +kernel), if_pos trivial]
theorem lk6 (c : TC) : (tfl c).lookup ("made" : Str) = some (.ref c.md) := by
  simp only [tfl, lookup_putF]; rw [if_pos trivial]
theorem lk_no (c : TC) {m : Str} (h : m ≠ ("number" : Str) ∧ m ≠ "fields" ∧ m ≠ "chains" ∧ m ≠ "rising" ∧ m ≠ "indexes" ∧ m ≠ "made") : (tfl c).lookup m = none := by
  simp only [tfl, lookup_putF]
  rw [if_neg h.2.2.2.2.2, if_neg h.2.2.2.2.1, if_neg h.2.2.2.1, if_neg h.2.2.1, if_neg h.2.1, if_neg h.1]
  rfl
/-- the reading of a table's field, behind its name -/
theorem fT {K : PySem.W.Frag} {CT CI tb : Addr} {H : Hp} {c : TC} {m : Str} {v : V} {Q : VK} (x : TAt K CT CI H tb c) (cl : Cls K CT) (na : NoAttr K CT m) (l : (tfl c).lookup m = some v) (k : Q v H) :
    ∃ a C dx fs v0, V.ref tb = .ref a ∧ H a = some (.ins C dx fs) ∧ Cls K C ∧ NoAttr K C m ∧ fs.lookup m = some v0 ∧ Q v0 H := by
  obtain ⟨dx, ob⟩ := x.ob
  exact ⟨tb, CT, dx, _, v, rfl, ob, cl, na, l, k⟩
/-- a table's data -/
structure TD where
  num : Int
  fields : List Str
  cl : List (Int × List Ver)
  il : List (Str × List P2)
  made : List (Str × Int)
def TC.dat (c : TC) : TD := ⟨c.num, c.fields, c.cl.map fun x => (x.1, x.2.2), c.il.map fun i => (i.1, i.2.2), c.made⟩
def spTInit (K : PySem.W.Frag) (CT CI : Addr) : Sp := fun vs H Q _ => ∃ (tb dx tf : Addr) (n : Int) (fields : List Str), vs = [.ref tb, .int n, .ref tf] ∧ H tb = some (.ins CT dx []) ∧ BT K H tf (fields.map V.str) ∧
  ∀ (c : TC) (H' : Hp), TAt K CT CI H' tb c → c.dat = ⟨n, fields, [], [], []⟩ → c.tf = tf → c.Ok 0 → (∀ b ∈ c.fp tb, b = tb ∨ H b = none) → KF [tb] H H' → Q .non H'
section
variable {P : Program} {w : World} {K : PySem.W.Frag} {mg : Str → Option Value} {base : Heap}
theorem scTI : FnScope ["self", "number", "fields"] ["self", "number", "fields"] (defScope s_Table___init__) := ⟨rfl, rfl, rfl, by decide +kernel, rfl, by decide +kernel, by decide +kernel⟩
theorem ok_tinit {f CT CI : Addr} {fd : FuncData} (F : Fun K "__init__" "Table.__init__" s_Table___init__ f fd) (T : TxtT K CT) : FnOk P w K mg base CX0 1 f fd ["self", "number", "fields"] (spTInit K CT CI) := by
  refine F.ok scTI (fun vs H Q E h => ?_) (fun cdv A outer s H vs Q E hr h => ?_)
  · obtain ⟨tb, dx, tf, n, fields, rfl, _⟩ := h
    rfl
  · obtain ⟨tb, dx, tf, n, fields, rfl, hp, ht, k⟩ := h
    refine ⟨_, (pss_cons (ps_fld (pv 0) (pv 1) rfl)
      (pss_cons (ps_fld (pv 0) (pv 2) rfl)
      (pss_cons (ps_fld (pv 0) pe_dnewK rfl)
      (pss_cons (ps_fld (pv 0) (pe_lst pa_nil) rfl)
      (pss_cons (ps_fld (pv 0) pe_dnewK rfl)
      (pss_one (ps_fld (pv 0) pe_dnewK rfl))))))), ?_⟩
    have h0 : H tb ≠ none := fun e => by rw [e] at hp; cases hp
    have t0 := TI.start hp
    have few : ∀ (fs : List (Str × V)) (m v j), fs.length ≤ j → (putF m v fs).length ≤ j + 1 := fun fs m v j l => Nat.le_trans (putF_len m v fs) (Nat.succ_le_succ l)
    have l0 : ([] : List (Str × V)).length ≤ 0 := Nat.le_refl _
    have l1 := few _ "number" (.int n) _ l0
    have l2 := few _ "fields" (.ref tf) _ l1
    refine ⟨_, rfl, _, rfl, tb, CT, dx, _, rfl, t0.ob, T.cl, T.n1, Nat.lt_of_le_of_lt l0 (by decide), ?_⟩
    have t1 := t0.fld (fs' := putF "number" (.int n) [])
    refine ⟨_, rfl, _, rfl, tb, CT, dx, _, rfl, t1.ob, T.cl, T.n2, Nat.lt_of_le_of_lt l1 (by decide), ?_⟩
    have t2 := t1.fld (fs' := putF "fields" (.ref tf) (putF "number" (.int n) []))
    intro ch hch
    have t3 := t2.new (o := .dK []) hch h0
    refine ⟨_, rfl, tb, CT, dx, _, rfl, t3.ob, T.cl, T.n3, Nat.lt_of_le_of_lt l2 (by decide), ?_⟩
    have l3 := few _ "chains" (.ref ch) _ l2
    have t4 := t3.fld (fs' := putF "chains" (.ref ch) (putF "fields" (.ref tf) (putF "number" (.int n) [])))
    refine ⟨by show 0 ≤ sizeLine; decide, fun ri hri => ?_⟩
    have t5 := t4.new (o := .lst []) hri h0
    refine ⟨_, rfl, tb, CT, dx, _, rfl, t5.ob, T.cl, T.n4, Nat.lt_of_le_of_lt l3 (by decide), ?_⟩
    have l4 := few _ "rising" (.ref ri) _ l3
    have t6 := t5.fld (fs' := putF "rising" (.ref ri) (putF "chains" (.ref ch) (putF "fields" (.ref tf) (putF "number" (.int n) []))))
    intro ix hix
    have t7 := t6.new (o := .dK []) hix h0
    refine ⟨_, rfl, tb, CT, dx, _, rfl, t7.ob, T.cl, T.n5, Nat.lt_of_le_of_lt l4 (by decide), ?_⟩
    have l5 := few _ "indexes" (.ref ix) _ l4
    have t8 := t7.fld (fs' := putF "indexes" (.ref ix) (putF "rising" (.ref ri) (putF "chains" (.ref ch) (putF "fields" (.ref tf) (putF "number" (.int n) [])))))
    intro md hmd
    have t9 := t8.new (o := .dK []) hmd h0
    refine ⟨_, rfl, tb, CT, dx, _, rfl, t9.ob, T.cl, T.n6, Nat.lt_of_le_of_lt l5 (by decide), ?_⟩
    have ta := t9.fld (fs' := putF "made" (.ref md) (putF "indexes" (.ref ix) (putF "rising" (.ref ri) (putF "chains" (.ref ch) (putF "fields" (.ref tf) (putF "number" (.int n) []))))))
    have tk : TK H _ := fun b u hu e => ta.kf b u (fun m => by rw [List.mem_singleton.mp m, hp] at e; rw [← Option.some.inj e] at hu; exact hu) e
    have a1 := ta.al (ch, .dK []) (by simp)
    have a2 := ta.al (ri, .lst []) (by simp)
    have a3 := ta.al (ix, .dK []) (by simp)
    have a4 := ta.al (md, .dK []) (by simp)
    have nd := ta.nd
    simp only [List.map_cons, List.map_nil, List.nodup_cons, List.mem_cons, List.not_mem_nil, or_false, not_or, not_false_eq_true, List.nodup_nil, and_true, true_and] at nd
    obtain ⟨⟨d1, d2, d3⟩, ⟨d4, d5⟩, d6⟩ := nd
    refine k ⟨n, fields, tf, ch, ri, ix, md, [], [], [], []⟩ _ ⟨⟨dx, ta.ob⟩, ht.keep tk, a1.1, fun x m => (by cases m), a2.1, a3.1, fun i m => (by cases m), a4.1, ?_⟩ rfl rfl ⟨List.nodup_nil, List.Pairwise.nil, fun x => Iff.rfl, List.nodup_nil, fun i m => (by cases m), Nat.zero_le _, Nat.zero_le _, fun i m => (by cases m)⟩ (fun b m => ?_) ta.kf
    · show [tb, ch, ri, ix, md].Nodup
      simp only [List.nodup_cons, List.mem_cons, List.not_mem_nil, or_false, not_or, not_false_eq_true, List.nodup_nil, and_true, true_and]
      exact ⟨⟨Ne.symm a1.2, Ne.symm a2.2, Ne.symm a3.2, Ne.symm a4.2⟩, ⟨Ne.symm d6, Ne.symm d5, Ne.symm d3⟩, ⟨Ne.symm d4, Ne.symm d2⟩, Ne.symm d1⟩
    · have m : b ∈ [tb, ch, ri, ix, md] := m
      have n1 := ta.nw (ch, .dK []) (by simp)
      have n2 := ta.nw (ri, .lst []) (by simp)
      have n3 := ta.nw (ix, .dK []) (by simp)
      have n4 := ta.nw (md, .dK []) (by simp)
      simp only [List.mem_cons, List.not_mem_nil, or_false] at m
      rcases m with m | m | m | m | m
      · exact .inl m
      · exact .inr (m ▸ n1)
      · exact .inr (m ▸ n2)
      · exact .inr (m ▸ n3)
      · exact .inr (m ▸ n4)
end
end GS

set_option linter.all false
set_option maxHeartbeats 4000000
namespace GS
open PySem L2 HX
namespace BTX
variable {X : Cx}
def tyTup (K : PySem.W.Frag) (x : V) (H : Hp) : Prop := ∃ p xs, x = .ref p ∧ BT K H p xs
theorem ty_tup : TyOk X "tuple" (tyTup X.K) := by
  intro pins σ H s x v I r ty
  obtain ⟨p, xs, rfl, b⟩ := ty
  cases r
  have z : ∃ o, s.heap.get? p = some o ∧ o.cls = .type "tuple" ∧ o.dict = none := by
    rcases b.bare with ⟨o, ys, e, c, d⟩ | ⟨o, e, c, d⟩
    · exact ⟨o, (I.hok p _ e).1, c, d⟩
    · exact ⟨o, I.kIn p o e, c, d⟩
  obtain ⟨o, e, c, d⟩ := z
  exact ⟨⟨o, e, c⟩, fun a h => by cases h; exact ⟨o, e, d⟩⟩
variable {K : PySem.W.Frag} {o e : Expr} {es : List Expr} {to : TE} {t : TA} {name : Str} {apos cpos : Pos} {id : String} {r : V → List V → Hp → VK → Prop}
theorem mG (pa : PlainAttrs "tuple") (slot : Slot "tuple" name id) (hty : typeOf (.builtin id) = pure (.type "method_descriptor")) (hm : MtR X id r) (ho : PE X o to) (ha : PA X (e :: es) t) (hK : X.K = K := by rfl)
    (hbase : attributeBase o name X.env (eval o X.env) = eval o X.env := by rfl)
    (hfew : ((backTo cpos (starEach (e :: es) X.env)).all (fun x => !x.1) && (backToKw cpos (keywordEach [] X.env)).all (fun x => x.1.isSome)
      && decide ((e :: es).length + ([] : List Keyword).length + (if ([] : List Keyword).isEmpty then 0 else 1) < 30)) = true := by rfl)
    (hline : (apos.endLine == cpos.line) = true := by rfl) (hs : starEach (e :: es) X.env = (false, eval e X.env) :: starEach es X.env := by rfl) (hplain : (backTo cpos (starEach es X.env)).any (·.1) = false := by rfl) :
    PE X (.Call (.Attribute o name apos) (e :: es) [] cpos) (tMG (tyTup K) r to t) := by subst hK; exact pe_mG ty_tup pa slot hty hm ho ha hbase hfew hline hs hplain
end BTX
structure CalM (P : Program) (w : World) (K : PySem.W.Frag) (mg : Str → Option Value) (base : Heap) (k : Nat) (C : Addr) (m : Str) (ps : List Str) (sp : Sp) (f : Addr) (fd : FuncData) : Prop where
  mt : Meth K C m f
  b : Binds K fd ps []
  G : FnOk P w K mg base CX0 k f fd ps sp
/-! ### a version is laid: the data -/
def wo (fields : List Str) (ns : List Int) (z : Str) : Int := (ns[fields.idxOf z]?).getD 0
def addI (fields : List Str) (ns : List Int) (k : Int) (i : Ixn) : Ixn := (i.1, i.2.1, (wo fields ns i.1, k) :: i.2.2)
def openD (cl : List (Int × List Ver)) (k : Int) : List (Int × List Ver) := if k ∈ cl.map (fun x => x.1) then cl else cl ++ [(k, [])]
def pushD (cl : List (Int × List Ver)) (k : Int) (x : Ver) : List (Int × List Ver) := cl.map fun y => if y.1 = k then (y.1, y.2 ++ [x]) else y
def layD (t : TD) (n k : Int) (row : Option Row) : TD := { t with
  cl := pushD (openD t.cl k) k (n, row)
  il := match row with
    | none => t.il
    | some ns => t.il.map fun i => (i.1, (wo t.fields ns i.1, k) :: i.2) }
theorem key_cases (c : TC) (k : Int) : (∃ y ∈ c.cl, y.1 = k ∧ valV (ckv c.cl) (Sum.inl k) = some (.ref y.2.1)) ∨ (k ∉ c.cl.map (fun x => x.1) ∧ valV (ckv c.cl) (Sum.inl k) = none) := by
  rw [valV_ckv]
  cases e : c.cl.find? fun x => decide (x.1 = k) with
  | none =>
    refine .inr ⟨fun m => ?_, rfl⟩
    obtain ⟨x, mx, ex⟩ := List.mem_map.mp m
    have z := List.find?_eq_none.mp e x mx
    exact z (decide_eq_true ex)
  | some y =>
    exact .inl ⟨y, List.mem_of_find?_eq_some e, of_decide_eq_true (by simpa using List.find?_some e), rfl⟩
theorem keys_dat (c : TC) : c.dat.cl.map (fun x => x.1) = c.cl.map (fun x => x.1) := by
  show (c.cl.map _).map _ = _
  rw [List.map_map]
  rfl
theorem dat_push {c : TC} {k : Int} {x : Ver} : (pushC c k x).dat = { c.dat with cl := pushD c.dat.cl k x } := by
  unfold TC.dat pushC pushD
  dsimp only
  congr 1
  rw [List.map_map, List.map_map]
  refine List.map_congr_left fun y _ => ?_
  show ((if y.1 = k then (y.1, y.2.1, y.2.2 ++ [x]) else y).1, (if y.1 = k then (y.1, y.2.1, y.2.2 ++ [x]) else y).2.2) = if y.1 = k then (y.1, y.2.2 ++ [x]) else (y.1, y.2.2)
  split <;> rfl
theorem dat_open {c : TC} {k : Int} {j : Nat} {a : Addr} (h : k ∉ c.cl.map (fun x => x.1)) : (openC c k j a).dat = { c.dat with cl := openD c.dat.cl k } := by
  have e : openD c.dat.cl k = c.dat.cl ++ [(k, [])] := if_neg (by rw [keys_dat]; exact h)
  rw [e]
  unfold TC.dat openC
  dsimp only
  rw [List.map_append]
  rfl
theorem dat_old {c : TC} {k : Int} (h : k ∈ c.cl.map (fun x => x.1)) : c.dat = { c.dat with cl := openD c.dat.cl k } := by
  have e : openD c.dat.cl k = c.dat.cl := if_pos (by rw [keys_dat]; exact h)
  rw [e]
theorem le_sum {l : List Nat} : ∀ {x : Nat}, x ∈ l → x ≤ l.sum := by
  induction l with
  | nil => intro x h; cases h
  | cons y l ih =>
    intro x h
    rw [List.sum_cons]
    rcases List.mem_cons.mp h with e | h
    · omega
    · have := ih h; omega
/-- how a table came to be another -/
structure Mid (K : PySem.W.Frag) (CT CI : Addr) (tb : Addr) (c : TC) (H H1 : Hp) (c1 : TC) (m : Nat) (d : TD) : Prop where
  at_ : TAt K CT CI H1 tb c1
  ok : c1.Ok m
  dat : c1.dat = d
  tf : c1.tf = c.tf
  fp : ∀ b ∈ c1.fp tb, b ∈ c.fp tb ∨ H b = none
  kf : KF (c.fp tb) H H1
theorem Mid.step {K : PySem.W.Frag} {CT CI : Addr} {tb : Addr} {c : TC} {H H1 H2 : Hp} {c1 c2 : TC} {m m2 : Nat} {d d2 : TD} (h : Mid K CT CI tb c H H1 c1 m d) (h2 : Mid K CT CI tb c1 H1 H2 c2 m2 d2) : Mid K CT CI tb c H H2 c2 m2 d2 := by
  refine ⟨h2.at_, h2.ok, h2.dat, h2.tf.trans h.tf, fun b hb => ?_, fun b o n e => ?_⟩
  · rcases h2.fp b hb with q | q
    · exact h.fp b q
    · cases e : H b with
      | none => exact .inr rfl
      | some o =>
        by_cases mem : b ∈ c.fp tb
        · exact .inl mem
        · rw [h.kf b o mem e] at q; cases q
  · have e1 := h.kf b o n e
    refine h2.kf b o (fun mb => ?_) e1
    rcases h.fp b mb with q | q
    · exact n q
    · rw [e] at q; cases q
theorem Mid.refl {K : PySem.W.Frag} {CT CI : Addr} {tb : Addr} {c : TC} {H : Hp} {m : Nat} (x : TAt K CT CI H tb c) (o : c.Ok m) : Mid K CT CI tb c H H c m c.dat := ⟨x, o, rfl, rfl, fun b m => .inl m, fun b o _ e => e⟩
theorem TC.Ok.le {c : TC} {m m' : Nat} (o : c.Ok m) (h : m ≤ m') : c.Ok m' := ⟨o.kd, o.up, o.km, o.ind, o.inf, Nat.le_trans o.n1 h, Nat.le_trans o.n2 h, fun i hi => Nat.le_trans (o.n3 i hi) h⟩
/-- one index stands otherwise -/
def setI (c : TC) (f : Ixn → Ixn) (i : Nat) : TC := { c with il := (c.il.take i).map f ++ c.il.drop i }
theorem fp_setI {c : TC} {f : Ixn → Ixn} (hf : ∀ i, (f i).2.1 = i.2.1) {i : Nat} {tb : Addr} : (setI c f i).fp tb = c.fp tb := by
  unfold TC.fp setI
  dsimp only
  have e : ∀ l : List Ixn, (l.map f).flatMap ifp = l.flatMap ifp := fun l => by
    rw [List.flatMap_map]
    have z : (fun a => ifp (f a)) = ifp := funext fun a => by unfold ifp; rw [hf]
    rw [z]
  rw [List.flatMap_append, e, ← List.flatMap_append, List.take_append_drop]
theorem setI_zero (c : TC) (f : Ixn → Ixn) : setI c f 0 = c := rfl
theorem ikv_setI {c : TC} {f : Ixn → Ixn} (h1 : ∀ i, (f i).1 = i.1) (h2 : ∀ i, (f i).2.1 = i.2.1) {i : Nat} : ikv (setI c f i).il = ikv c.il := by
  unfold setI ikv
  dsimp only
  rw [List.map_append, List.map_map]
  have z : ((fun i : Ixn => ((Sum.inr i.1 : Key), V.ref i.2.1.1)) ∘ f) = fun i : Ixn => ((Sum.inr i.1 : Key), V.ref i.2.1.1) := funext fun a => by
    show ((Sum.inr (f a).1 : Key), V.ref (f a).2.1.1) = _
    rw [h1, h2]
  rw [z, ← List.map_append, List.take_append_drop]
theorem TAt.stepI {K : PySem.W.Frag} {CT CI : Addr} {H H' : Hp} {tb : Addr} {c : TC} {f : Ixn → Ixn} (h1 : ∀ i, (f i).1 = i.1) (h2 : ∀ i, (f i).2.1 = i.2.1) {i : Nat} {q : Ixn} (x : TAt K CT CI H tb (setI c f i)) (hq : c.il[i]? = some q)
    (k : ∀ b o, b ≠ q.2.1.2.1 → b ≠ q.2.1.2.2 → H b = some o → H' b = some o) (new : IxAt CI H' q.2.1.1 q.2.1.2.1 q.2.1.2.2 (f q).2.2) : TAt K CT CI H' tb (setI c f (i + 1)) := by
  have nd : Ndf (setI c f i) tb := ndf_of x.nd
  have li : i < c.il.length := (List.getElem?_eq_some_iff.mp hq).1
  have dr : c.il.drop i = q :: c.il.drop (i + 1) := by
    rw [List.drop_eq_getElem_cons li]
    congr 1
    rw [List.getElem?_eq_getElem li] at hq
    exact Option.some.inj hq
  have tk1 : (c.il.take (i + 1)).map f = (c.il.take i).map f ++ [f q] := by rw [List.take_add_one, hq, List.map_append]; rfl
  have old : (setI c f i).il = (c.il.take i).map f ++ q :: c.il.drop (i + 1) := by unfold setI; dsimp only; rw [dr]
  have nw : (setI c f (i + 1)).il = (c.il.take i).map f ++ f q :: c.il.drop (i + 1) := by unfold setI; dsimp only; rw [tk1, List.append_assoc]; rfl
  have mq : q ∈ (setI c f i).il := by rw [old]; exact List.mem_append_right _ (List.mem_cons_self ..)
  have iq := nd.i q mq
  have dq := iq q.2.1.2.1 (by simp [ifp])
  have rq := iq q.2.1.2.2 (by simp [ifp])
  have bi : ∀ y ∈ c.cl, y.2.1 ≠ q.2.1.2.1 ∧ y.2.1 ≠ q.2.1.2.2 := fun y hy => ⟨nd.bi y hy q mq _ (by simp [ifp]), nd.bi y hy q mq _ (by simp [ifp])⟩
  obtain ⟨dx0, _, ⟨kvs0, hd0, _⟩, bs0, hr0, _⟩ : ∃ dx0, H q.2.1.1 = some (.ins CI dx0 (flds q.2.1.2.1 q.2.1.2.2)) ∧ (∃ kvs, H q.2.1.2.1 = some (.dT kvs) ∧ Cnt kvs q.2.2) ∧ ∃ bs : List (Addr × P2), H q.2.1.2.2 = some (.lst (bs.map fun q => V.ref q.1)) ∧ Rising H bs q.2.2 := by
    obtain ⟨⟨dx, h1⟩, h2, bs, h3, h4⟩ := x.iv q mq
    exact ⟨dx, h1, h2, bs, h3, h4⟩
  have tk : TK H H' := fun a u hu e => k a _ (ne_of e hd0 (by intro z; subst z; exact hu)) (ne_of e hr0 (by intro z; subst z; exact hu)) e
  have ii : ∀ z ∈ (c.il.take i).map f ++ c.il.drop (i + 1), ∀ a ∈ ifp z, a ≠ q.2.1.2.1 ∧ a ≠ q.2.1.2.2 := fun z hz a ha => by
    have n := nd.ii
    rw [old] at n
    have p : List.Perm (((c.il.take i).map f ++ q :: c.il.drop (i + 1)).flatMap ifp) ((q :: ((c.il.take i).map f ++ c.il.drop (i + 1))).flatMap ifp) := List.Perm.flatMap_right _ List.perm_middle
    have n2 := (p.nodup_iff).mp n
    rw [List.flatMap_cons] at n2
    have d := (List.nodup_append.mp n2).2.2
    have ma : a ∈ ((c.il.take i).map f ++ c.il.drop (i + 1)).flatMap ifp := List.mem_flatMap.mpr ⟨z, hz, ha⟩
    exact ⟨fun e => d _ (by simp [ifp] : q.2.1.2.1 ∈ ifp q) _ ma e.symm, fun e => d _ (by simp [ifp] : q.2.1.2.2 ∈ ifp q) _ ma e.symm⟩
  obtain ⟨dx, ob⟩ := x.ob
  refine ⟨⟨dx, k _ _ (Ne.symm dq.1) (Ne.symm rq.1) ob⟩, x.tf.keep tk, k _ _ (Ne.symm dq.2.1) (Ne.symm rq.2.1) x.ch, fun y hy => ?_, k _ _ (Ne.symm dq.2.2.1) (Ne.symm rq.2.2.1) x.ri, ?_, fun z hz => ?_, k _ _ (Ne.symm dq.2.2.2.2) (Ne.symm rq.2.2.2.2) x.md, ?_⟩
  · obtain ⟨vs, e1, e2⟩ := x.cv y hy
    exact ⟨vs, k _ _ (bi y hy).1 (bi y hy).2 e1, pw_ver tk e2⟩
  · have z := x.ix
    rw [ikv_setI h1 h2] at z
    rw [ikv_setI h1 h2]
    exact k _ _ (Ne.symm dq.2.2.2.1) (Ne.symm rq.2.2.2.1) z
  · rw [nw] at hz
    rcases List.mem_append.mp hz with m | m
    · have m2 : z ∈ (c.il.take i).map f ++ c.il.drop (i + 1) := List.mem_append_left _ m
      exact (x.iv z (by rw [old]; exact List.mem_append_left _ m)).keep (fun b hb o e => k b o (ii z m2 b hb).1 (ii z m2 b hb).2 e) tk
    · rcases List.mem_cons.mp m with m | m
      · subst m
        rw [h2]
        exact new
      · have m2 : z ∈ (c.il.take i).map f ++ c.il.drop (i + 1) := List.mem_append_right _ m
        exact (x.iv z (by rw [old]; exact List.mem_append_right _ (List.mem_cons_of_mem _ m))).keep (fun b hb o e => k b o (ii z m2 b hb).1 (ii z m2 b hb).2 e) tk
  · rw [fp_setI h2]
    have z := x.nd
    rw [fp_setI h2] at z
    exact z
end GS

set_option linter.all false
set_option maxHeartbeats 4000000
namespace GS
open PySem L2 HX
def spLay (K : PySem.W.Frag) (CT CI : Addr) : Sp := fun vs H Q _ => ∃ (tb : Addr) (n k : Int) (rv : V) (c : TC) (m : Nat) (row : Option Row), vs = [.ref tb, .int n, .int k, rv] ∧ TAt K CT CI H tb c ∧ c.Ok m ∧ m + 2 ≤ 100000 ∧ RowAt H row rv ∧ (∀ ns, row = some ns → ns.length = c.fields.length) ∧
  ∀ c' H', Mid K CT CI tb c H H' c' (m + 2) (layD c.dat n k row) → Q .non H'
theorem wo_at {fields : List Str} {ns : List Int} {z : Str} (l : ns.length = fields.length) (h : z ∈ fields) : fields[fields.idxOf z]? = some z ∧ (∀ m, m < fields.idxOf z → fields[m]? ≠ some z) ∧ (ns.map V.int)[fields.idxOf z]? = some (.int (wo fields ns z)) := by
  have lt : fields.idxOf z < fields.length := List.idxOf_lt_length_of_mem h
  refine ⟨by rw [List.getElem?_eq_getElem lt, List.getElem_idxOf], fun m hm e => ?_, ?_⟩
  · have h1 := List.not_of_lt_findIdx (p := fun x => x == z) (xs := fields) (i := m) hm
    obtain ⟨lm, em⟩ := List.getElem?_eq_some_iff.mp e
    rw [em] at h1
    simp at h1
  · unfold wo
    rw [List.getElem?_map, List.getElem?_eq_getElem (l ▸ lt)]
    rfl
section
variable {P : Program} {w : World} {K : PySem.W.Frag} {mg : Str → Option Value} {base : Heap}
theorem scLa : FnScope ["self", "number", "key", "row", "field", "index"] ["self", "number", "key", "row"] (defScope s_Table_lay) := ⟨rfl, rfl, rfl, by decide +kernel, rfl, by decide +kernel, by decide +kernel⟩
theorem ok_lay {f CT CI fp fa : Addr} {fd fdp fda : FuncData} (F : Fun K "lay" "Table.lay" s_Table_lay f fd) (T : Txt mg) (TT : TxtT K CT) (cli : Cls K CI) (Cplace_in : Cal P w K mg base 1 "place_in" ["items", "item"] (spPlace K) fp fdp) (Cadd : CalM P w K mg base 2 CI "add" ["self", "worth", "key"] (spAdd CI) fa fda) : FnOk P w K mg base CX0 3 f fd ["self", "number", "key", "row"] (spLay K CT CI) := by
  refine F.ok scLa (fun vs H Q E h => ?_) (fun cdv A outer s H vs Q E hr h => ?_)
  · obtain ⟨tb, n, k, rv, c, m, row, rfl, _⟩ := h
    rfl
  · obtain ⟨tb, n, k, rv, c, m, row, rfl, x, ok, few, hrow, wid, kk⟩ := h
    have hr2 : Room 2 _ := hr
    have hr1 : Room 1 _ := hr2.mono (Nat.le_succ 1)
    obtain ⟨dxx, obx⟩ := x.ob
    have big : (100000 : Nat) < sizeLine := by decide
    refine ⟨_, (pss_cons (ps_if (pt_cmp (pc_dnotin (hu_of hr) (pv 2) (pe_fld (pv 0) rfl))) (pss_cons (ps_expr (pe_bm PySem.F.plainAttrs_list PySem.F.slot_list_insert PySem.F.type_list_insert mt_insert (pe_fld (pv 0) rfl) (pa_cons (pe_call Cplace_in.G hr1 rfl Cplace_in.g Cplace_in.kp Cplace_in.b .nil pass0 (pa_cons (pe_fld (pv 0) rfl) (pa_cons (pv 2) pa_nil))) (pa_cons (pv 2) pa_nil))))
        (pss_one (ps_dput (hu_of hr) (pe_fld (pv 0) rfl) (pv 2) (pe_lst pa_nil) rfl))) pss_nil)
      (pss_cons (ps_expr (pe_bm PySem.F.plainAttrs_list PySem.F.slot_list_append PySem.F.type_list_append mt_append (pe_dget (hu_of hr) (pe_fld (pv 0) rfl) (pv 2) (fun _ _ => rfl)) (pa_cons (pe_tup (pa_cons (pv 1) (pa_cons (pv 3) pa_nil))) pa_nil)))
      (pss_one (ps_if (pt_cmpR op_notN (pv 3) pe_non (nomark _)) (pss_one (ps_lock (ps_for PassesOwn.never rfl (pi_items (pe_fld (pv 0) rfl)) (RK.pgTup (K := K) (n := 2) rfl (pgs_cons (pg_name (i := 4) scLa.nd rfl (Or.inl rfl)) (pgs_cons (pg_name (i := 5) scLa.nd rfl (Or.inl rfl)) pgs_nil)))
          (pss_one (ps_expr (pe_meth (pv 5) cli Cadd.mt Cadd.G hr2 Cadd.b .nil pass0 (pa_cons (pe_ix (RK.ixT (K := K)) (pv 3) (BTX.mG (K := K) PySem.F.plainAttrs_tuple PySem.F.slot_tuple_index PySem.F.type_tuple_index mt_tup_index (pe_fld (pv 0) rfl) (pa_cons (pv 4) pa_nil)) (fun _ _ => rfl)) (pa_cons (pv 2) pa_nil)))))))) pss_nil)))), ?_⟩
    refine sifR (fun σ' H' => σ' = [some (.ref tb), some (.int n), some (.int k), some rv, none, none] ∧ ∃ c1, Mid K CT CI tb c H H' c1 (m + 1) { c.dat with cl := openD c.dat.cl k } ∧ (∃ y ∈ c1.cl, y.1 = k) ∧ ∀ i ∈ c1.il, i.2.2.length ≤ m) ?_ (fun rest => ?_)
    · rintro σ1 H1 ⟨rfl, c1, md, ⟨y, hy, ek⟩, n3⟩
      obtain ⟨dxm, obm⟩ := md.at_.ob
      refine sq1 ?_
      have pos : ∃ y ∈ c1.cl, y.1 = k ∧ valV (ckv c1.cl) (Sum.inl k) = some (.ref y.2.1) := by
        rcases key_cases c1 k with z | ⟨z, _⟩
        · exact z
        · exact absurd (List.mem_map.mpr ⟨y, hy, ek⟩) z
      obtain ⟨y, hy, ek, ev⟩ := pos
      obtain ⟨vs, hv, pw⟩ := md.at_.cv y hy
      have lv : vs.length ≤ 100000 := by
        rw [← pw_len pw]
        have z : y.2.2.length ≤ (c1.cl.map (fun x => x.2.2.length)).sum := le_sum (List.mem_map_of_mem (f := fun x : Chn => x.2.2.length) hy)
        have z2 := md.ok.n2
        omega
      refine ⟨_, rfl, tb, CT, dxm, _, _, rfl, obm, TT.cl, TT.n3, lk3 c1, _, rfl, c1.ch, .ref y.2.1, rfl, ev ▸ DGet.k (k := Sum.inl k) md.at_.ch, .inl ⟨rfl, _, SqL.of hv⟩, _, rfl, _, rfl, (by show 2 ≤ sizeLine; decide), fun p hp => ?_⟩
      have np : ∀ b o, H1 b = some o → b ≠ p := fun b o e => ne_of_none e hp
      have same := same_new (o := .tup [.int n, rv]) hp
      refine ⟨y.2.1, vs, .ref p, rfl, rfl, (upd_ne (np _ _ hv)).trans hv, Nat.lt_of_le_of_lt lv big, ?_⟩
      have hrow1 : RowAt (upd H1 p (.tup [.int n, rv])) row rv := by
        refine hrow.keep (TK.trans (KF.tk x md.kf) (TK.same same))
      have at2 := (md.at_.same same).push hy ek md.ok.kd ((upd_ne (np _ _ hv)).trans hv) (pw_ver (TK.same same) pw) (x := (n, row)) (v := .ref p) ⟨p, rv, rfl, upd_same, hrow1⟩
      have md2 : Mid K CT CI tb c1 H1 (upd (upd H1 p (.tup [.int n, rv])) y.2.1 (.lst (vs ++ [.ref p]))) (pushC c1 k (n, row)) (m + 2) { c1.dat with cl := pushD c1.dat.cl k (n, row) } :=
        ⟨at2, md.ok.push, dat_push, rfl, fun b hb => .inl (by rw [fp_push] at hb; exact hb), (KF.same same).trans (KF.upd (.inl (fp_mem.mpr (.inr (.inr (.inr (.inr (.inr (.inl ⟨y, hy, rfl⟩)))))))))⟩
      have md3 := md.step md2
      rw [md.dat] at md3
      have n3' : ∀ i ∈ (pushC c1 k (n, row)).il, i.2.2.length ≤ m := n3
      have fe : (pushC c1 k (n, row)).fields = c.fields := by
        have z := md.dat
        have z2 : c1.dat.fields = c.dat.fields := by rw [z]
        exact z2
      generalize upd (upd H1 p (.tup [.int n, rv])) y.2.1 (.lst (vs ++ [.ref p])) = H2 at md3
      generalize pushC c1 k (n, row) = c2 at md3 n3' fe
      refine ifs ⟨_, rfl, rfl, _, rfl, ?_⟩
      cases row with
      | none =>
        obtain rfl : rv = .non := hrow
        exact iteF (kk c2 H2 md3)
      | some ns =>
        obtain ⟨q, rfl, hq⟩ := hrow
        refine iteT ?_
        have hq2 : H2 q = some (.tup (ns.map V.int)) := (KF.tk x md3.kf).tup hq
        have ix := md3.at_.ix
        refine ⟨c2.ix, _, ix, trivial, fun od => ?_⟩
        have nf : ∀ b o, b ≠ c2.ix → (upd H2 c2.ix (.frz od (.dK (ikv c2.il)))) b = some o → H2 b = some o := fun b o nb e => by rwa [upd_ne nb] at e
        have back : upd (upd H2 c2.ix (.frz od (.dK (ikv c2.il)))) c2.ix (.dK (ikv c2.il)) = H2 := by
          funext b
          by_cases e : b = c2.ix
          · rw [e, upd_same, ix]
          · rw [upd_ne e, upd_ne e]
        have nd2 := ndf_of md3.at_.nd
        obtain ⟨dx, ob⟩ := md3.at_.ob
        have ob' : (upd H2 c2.ix (.frz od (.dK (ikv c2.il)))) tb = some (.ins CT dx (tfl c2)) := (upd_ne nd2.a1.2.2.1).trans ob
        refine ⟨_, rfl, tb, CT, dx, _, _, rfl, ob', TT.cl, TT.n5, lk5 c2, c2.ix, od, _, rfl, upd_same, ?_⟩
        have len : (ikv c2.il).length = c2.il.length := List.length_map ..
        have f1 : ∀ i, (addI c.fields ns k i).1 = i.1 := fun _ => rfl
        have f2 : ∀ i, (addI c.fields ns k i).2.1 = i.2.1 := fun _ => rfl
        refine for_it walk_items (fun i σ H' => ∃ v4 v5, σ = [some (.ref tb), some (.int n), some (.int k), some (.ref q), v4, v5] ∧ H' c2.ix = some (.frz od (.dK (ikv c2.il))) ∧ TAt K CT CI (upd H' c2.ix (.dK (ikv c2.il))) tb (setI c2 (addI c.fields ns k) i) ∧ KF (c2.fp tb) H2 (upd H' c2.ix (.dK (ikv c2.il))))
          ⟨none, none, rfl, upd_same, by rw [back]; exact md3.at_, by rw [back]; exact fun b o _ e => e⟩ (fun i σ H' _ ⟨_, _, _, z, _⟩ => z) ?_ ?_
        · rintro i x σ H0 H' hi ⟨v4, v5, rfl, fz, ta, kf⟩ ⟨t, x1, y1, rfl, ht, rfl, e1, e2⟩
          have hi2 : i < c2.il.length := len ▸ hi
          have hq0 : c2.il[i]? = some c2.il[i] := List.getElem?_eq_getElem hi2
          generalize c2.il[i] = qi at hq0
          have ek0 : (ikv c2.il)[i]? = some (Sum.inr qi.1, V.ref qi.2.1.1) := by unfold ikv; rw [List.getElem?_map, hq0]; rfl
          obtain rfl : x1 = .str qi.1 := by
            have z : ((ikv c2.il)[i]?.map fun kv => kV kv.1) = some x1 := e1
            rw [ek0] at z
            exact (Option.some.inj z).symm
          obtain rfl : y1 = .ref qi.2.1.1 := by
            have z : ((ikv c2.il)[i]?.map Prod.snd) = some y1 := e2
            rw [ek0] at z
            exact (Option.some.inj z).symm
          have mq : qi ∈ c2.il := List.mem_of_getElem? hq0
          have nt : ∀ b o, H0 b = some o → b ≠ t := fun b o e => ne_of_none e ht
          -- the heap of the turn: its index dict open again
          have tix : t ≠ c2.ix := fun e => by rw [e, fz] at ht; cases ht
          have ta1 : TAt K CT CI (upd (upd H0 t (.tup [.str qi.1, .ref qi.2.1.1])) c2.ix (.dK (ikv c2.il))) tb (setI c2 (addI c.fields ns k) i) := by
            refine ta.same fun b o e => ?_
            by_cases eb : b = c2.ix
            · rw [eb, upd_same] at e ⊢; exact e
            · rw [upd_ne eb] at e
              rw [upd_ne eb, upd_ne (nt b o e)]
              exact e
          have kf1 : KF (c2.fp tb) H2 (upd (upd H0 t (.tup [.str qi.1, .ref qi.2.1.1])) c2.ix (.dK (ikv c2.il))) := fun b o n e => by
            have z := kf b o n e
            have nb : b ≠ c2.ix := fun z => n (z ▸ fp_mem.mpr (.inr (.inr (.inr (.inl rfl)))))
            rw [upd_ne nb] at z
            rw [upd_ne nb, upd_ne (nt b o z)]
            exact z
          have fz1 : (upd H0 t (.tup [.str qi.1, .ref qi.2.1.1])) c2.ix = some (.frz od (.dK (ikv c2.il))) := (upd_ne (Ne.symm tix)).trans fz
          have pairAt : (upd H0 t (.tup [.str qi.1, .ref qi.2.1.1])) t = some (.tup [.str qi.1, .ref qi.2.1.1]) := upd_same
          refine ⟨t, _, rfl, SqT.of pairAt, rfl, _, _, rfl, _, _, rfl, rfl, ?_⟩
          generalize upd H0 t (.tup [.str qi.1, .ref qi.2.1.1]) = H3 at ta1 kf1 fz1 pairAt
          have un : ∀ b o, b ≠ c2.ix → (upd H3 c2.ix (.dK (ikv c2.il))) b = some o → H3 b = some o := fun b o nb e => by rwa [upd_ne nb] at e
          have ndi := ndf_of ta1.nd
          have mqi : (qi.1, qi.2.1, qi.2.2) ∈ (setI c2 (addI c.fields ns k) i).il := by
            unfold setI
            dsimp only
            refine List.mem_append_right _ ?_
            rw [List.drop_eq_getElem_cons hi2]
            rw [List.getElem?_eq_getElem hi2] at hq0
            rw [Option.some.inj hq0]
            exact List.mem_cons_self ..
          have iqi := ndi.i _ mqi
          have ia0 := ta1.iv _ mqi
          have tkun : TK (upd H3 c2.ix (.dK (ikv c2.il))) H3 := fun a u hu e => by
            refine un a _ (fun z => ?_) e
            rw [z, upd_same] at e; rw [← Option.some.inj e] at hu; exact hu
          have ia : IxAt CI H3 qi.2.1.1 qi.2.1.2.1 qi.2.1.2.2 qi.2.2 := ia0.keep (fun b hb o e => un b o (iqi b hb).2.2.2.1 e) tkun
          obtain ⟨⟨dxi, obi⟩, _⟩ := id ia
          obtain ⟨dx3, ob3⟩ := ta1.ob
          have ob3 := un tb _ ndi.a1.2.2.1 ob3
          have tf3 : BT K H3 c2.tf (c2.fields.map V.str) := ta1.tf.keep tkun
          have hq3 : H3 q = some (.tup (ns.map V.int)) := tkun.tup ((KF.tk md3.at_ kf1).tup hq2)
          have inf : qi.1 ∈ c.fields := fe ▸ md3.ok.inf qi mq
          obtain ⟨w1, w2, w3⟩ := wo_at (wid ns rfl) inf
          have lkq : (flds qi.2.1.2.1 qi.2.1.2.2).lookup ("add" : Str) = none := flds_no _ _ (by decide +kernel) (by decide +kernel)
          refine ⟨_, rfl, qi.2.1.1, dxi, _, rfl, obi, lkq, ?_⟩
          refine ⟨_, rfl, _, rfl, tb, CT, dx3, _, _, rfl, ob3, TT.cl, TT.n2, lk2 _, ⟨_, _, rfl, tf3⟩, _, rfl, c2.tf, c2.fields, qi.1, c2.fields.idxOf qi.1, rfl, rfl, tf3.sq, (by rw [fe]; exact w1), (by rw [fe]; exact w2), ?_⟩
          refine ⟨q, ns.map V.int, _, .int (wo c.fields ns qi.1), rfl, rfl, SqT.of hq3, atI_nat (by rw [fe]; exact w3), _, rfl, ?_⟩
          refine ⟨qi.2.1.1, qi.2.1.2.1, qi.2.1.2.2, (wo c.fields ns qi.1, k), qi.2.2, rfl, ia, Nat.le_trans (n3' qi mq) (by omega), fun H4 kix ia4 => ?_⟩
          have dix : c2.ix ≠ qi.2.1.2.1 := Ne.symm (iqi qi.2.1.2.1 (by simp [ifp])).2.2.2.1
          have rix : c2.ix ≠ qi.2.1.2.2 := Ne.symm (iqi qi.2.1.2.2 (by simp [ifp])).2.2.2.1
          have fz4 : H4 c2.ix = some (.frz od (.dK (ikv c2.il))) := kix _ _ dix rix fz1
          refine ⟨_, _, rfl, fz4, ta1.stepI f1 f2 hq0 (fun b o n1 n2 e => ?_) (ia4.keep (fun b hb o e => ?_) fun a u hu e => ?_), fun b o n e => ?_⟩
          · by_cases eb : b = c2.ix
            · rw [eb, upd_same] at e ⊢; exact e
            · rw [upd_ne eb] at e ⊢
              exact kix b o n1 n2 e
          · exact (upd_ne (show b ≠ c2.ix from (iqi b hb).2.2.2.1)).trans e
          · refine (upd_ne fun z => ?_).trans e
            rw [z, fz4] at e; rw [← Option.some.inj e] at hu; exact hu
          · have z := kf1 b o n e
            have nb : b ≠ c2.ix := fun z => n (z ▸ fp_mem.mpr (.inr (.inr (.inr (.inl rfl)))))
            rw [upd_ne nb] at z
            rw [upd_ne nb]
            have mm : ∀ a ∈ ifp qi, a ∈ c2.fp tb := fun a ha => fp_mem.mpr (.inr (.inr (.inr (.inr (.inr (.inr ⟨qi, mq, ha⟩))))))
            exact kix b o (fun z => n (z ▸ mm _ (by simp [ifp]))) (fun z => n (z ▸ mm _ (by simp [ifp]))) z
        · rintro σ H0 ⟨v4, v5, rfl, fz, ta, kf⟩
          refine ⟨fz, ?_⟩
          rw [len] at ta
          have eil : (setI c2 (addI c.fields ns k) c2.il.length).il = c2.il.map (addI c.fields ns k) := by
            unfold setI
            dsimp only
            rw [List.take_length, List.drop_length, List.append_nil]
          refine kk (setI c2 (addI c.fields ns k) c2.il.length) _ (md3.step ⟨ta, ?_, ?_, rfl, fun b hb => .inl (by rw [fp_setI f2] at hb; exact hb), kf⟩)
          · have o := md3.ok
            refine ⟨o.kd, o.up, o.km, ?_, ?_, o.n1, o.n2, ?_⟩
            · rw [eil, List.map_map]; exact o.ind
            · rw [eil]
              intro i hi
              obtain ⟨j, mj, rfl⟩ := List.mem_map.mp hi
              exact o.inf j mj
            · rw [eil]
              intro i hi
              obtain ⟨j, mj, rfl⟩ := List.mem_map.mp hi
              show ((wo c.fields ns j.1, k) :: j.2.2).length ≤ m + 2
              rw [List.length_cons]
              have z := n3' j mj
              omega
          · have e : (setI c2 (addI c.fields ns k) c2.il.length).dat = { c2.dat with il := c2.dat.il.map fun i => (i.1, (wo c.fields ns i.1, k) :: i.2) } := by
              unfold TC.dat
              rw [eil, List.map_map, List.map_map]
              rfl
            rw [e, md3.dat]
            rfl
    · refine ⟨_, rfl, ?_⟩
      refine ⟨_, rfl, tb, CT, dxx, _, _, rfl, obx, TT.cl, TT.n3, lk3 c, c.ch, _, rfl, DGet.k (k := Sum.inl k) x.ch, _, rfl, ?_⟩
      rcases key_cases c k with ⟨y, hy, ek, ev⟩ | ⟨nk, ev⟩
      · rw [ev]
        refine iteF (rest _ _ ⟨rfl, c, ?_, ⟨y, hy, ek⟩, ok.n3⟩)
        have z := Mid.refl x (ok.le (Nat.le_succ m))
        rw [dat_old (List.mem_map.mpr ⟨y, hy, ek⟩)] at z
        exact z
      · rw [ev]
        refine iteT (sq1 ?_)
        refine ⟨_, rfl, tb, CT, dxx, _, _, rfl, obx, TT.cl, TT.n4, lk4 c, .inl ⟨rfl, _, SqL.of x.ri⟩, _, rfl, tb, CT, dxx, _, _, rfl, obx, TT.cl, TT.n4, lk4 c, ?_⟩
        have lks : c.ks.length ≤ m := by
          have z := nodup_le c.ks (c.cl.map (fun x => x.1)) (List.Pairwise.imp (fun {a b} h e => by omega) ok.up) fun y m => (ok.km y).mp m
          rw [List.length_map] at z
          exact Nat.le_trans z ok.n1
        refine ⟨_, rfl, c.ri, .int k, c.ks.map V.int, fun i => match c.ks[i]? with | some x => decide (x < k) | none => false, rfl, SqL.of x.ri, fun i x0 e Q' q => ?_, fun i j lij lj e => ?_, fun j lj lo hi => ?_⟩
        · rw [List.getElem?_map] at e
          cases eq : c.ks[i]? with
          | none => rw [eq] at e; cases e
          | some p =>
            rw [eq] at e
            obtain rfl := Option.some.inj e
            dsimp only at q
            rw [eq] at q
            exact .inl ⟨p, k, rfl, rfl, q⟩
        · rw [List.length_map] at lj
          dsimp only at e ⊢
          have li : i < c.ks.length := by omega
          rw [List.getElem?_eq_getElem lj] at e
          rw [List.getElem?_eq_getElem li]
          have z := List.pairwise_iff_getElem.mp ok.up i j li lj lij
          have z2 := of_decide_eq_true e
          exact decide_eq_true (by omega)
        · rw [List.length_map] at lj
          refine ⟨_, rfl, c.ri, _, j, .int k, rfl, rfl, x.ri, Nat.lt_of_le_of_lt (show (c.ks.map V.int).length ≤ 100000 by rw [List.length_map]; omega) big, by omega, by omega, ?_⟩
          have lo' : ∀ x ∈ c.ks.take j, x < k := fun x hx => by
            obtain ⟨i, li, e⟩ := List.getElem_of_mem hx
            rw [List.length_take] at li
            have z := lo i (by omega)
            dsimp only at z
            rw [List.getElem?_eq_getElem (by omega)] at z
            rw [List.getElem_take] at e
            rw [← e]
            exact of_decide_eq_true z
          have hi' : ∀ x ∈ c.ks.drop j, ¬ x < k := fun x hx => by
            obtain ⟨i, li, e⟩ := List.getElem_of_mem hx
            rw [List.length_drop] at li
            have z := hi (j + i) (by omega) (by rw [List.length_map]; omega)
            dsimp only at z
            rw [List.getElem?_eq_getElem (by omega)] at z
            rw [List.getElem_drop] at e
            rw [← e]
            exact of_decide_eq_false z
          have el : (c.ks.map V.int).take (j : Int).toNat ++ [V.int k] ++ (c.ks.map V.int).drop (j : Int).toNat = (insI c.ks j k).map V.int := by
            unfold insI
            rw [List.map_append, List.map_append, List.map_take, List.map_drop]
            rfl
          rw [el]
          have nd := ndf_of x.nd
          refine ⟨(by show 0 ≤ sizeLine; decide), fun a ha => ?_⟩
          have ha0 : H a = none := by
            by_cases e : a = c.ri
            · rw [e, upd_same] at ha; cases ha
            · rw [upd_ne e] at ha; exact ha
          have na : ∀ b o, H b = some o → b ≠ a := fun b o e => ne_of_none e ha0
          obtain ⟨dx, ob⟩ := x.ob
          have lc : (ckv c.cl).length ≤ 100000 := by rw [ckv_len]; have z := ok.n1; omega
          refine ⟨_, rfl, tb, CT, dx, _, _, rfl, (by rw [upd_ne (na _ _ ob), upd_ne nd.a1.2.1]; exact ob), TT.cl, TT.n3, lk3 c, _, rfl, c.ch, _, rfl, DPut.k (k := Sum.inl k) (by rw [upd_ne (na _ _ x.ch), upd_ne nd.a2.1]; exact x.ch) (Nat.lt_of_le_of_lt lc big), ?_⟩
          refine rest _ _ ⟨rfl, openC c k j a, ⟨x.open ha0 ev, ok.open nk lo' hi', dat_open nk, rfl, fun b hb => (fp_open.mp hb).imp id fun (e : b = a) => by rw [e]; exact ha0, ?_⟩, ⟨(k, a, []), List.mem_append_right _ (List.mem_singleton.mpr rfl), rfl⟩, ok.n3⟩
          exact ((KF.upd (.inl (fp_mem.mpr (.inr (.inr (.inl rfl)))))).trans (KF.upd (.inr ha))).trans (KF.upd (.inl (fp_mem.mpr (.inr (.inl rfl)))))
end
end GS

set_option linter.all false
set_option maxHeartbeats 4000000
namespace GS
open PySem L2 HX
structure CalC (P : Program) (w : World) (K : PySem.W.Frag) (mg : Str → Option Value) (base : Heap) (k : Nat) (x : Str) (C : Addr) (ps : List Str) (sp : Sp) (f : Addr) (fd : FuncData) : Prop where
  M : Mk K C f
  g : mg x = some (.ref C)
  b : Binds K fd ps []
  G : FnOk P w K mg base CX0 k f fd ps sp
/-! ### an index is made -/
def ixC (fields : List Str) (z : Str) (k : Int) (acc : List P2) (ch : List Ver) : List P2 := ch.foldl (fun acc x => match x.2 with
  | none => acc
  | some ns => (wo fields ns z, k) :: acc) acc
def ixA (fields : List Str) (z : Str) (acc : List P2) (cl : List (Int × List Ver)) : List P2 := cl.foldl (fun acc x => ixC fields z x.1 acc x.2) acc
theorem ixC_len (fields : List Str) (z : Str) (k : Int) : ∀ (ch : List Ver) (acc : List P2), (ixC fields z k acc ch).length ≤ acc.length + ch.length
  | [], acc => Nat.le_refl _
  | x :: ch, acc => by
    have e : ixC fields z k acc (x :: ch) = ixC fields z k (match x.2 with | none => acc | some ns => (wo fields ns z, k) :: acc) ch := rfl
    rw [e]
    have ih := ixC_len fields z k ch (match x.2 with | none => acc | some ns => (wo fields ns z, k) :: acc)
    refine Nat.le_trans ih ?_
    rw [List.length_cons]
    cases x.2 with
    | none => dsimp only; omega
    | some ns => dsimp only; rw [List.length_cons]; omega
theorem ixA_len (fields : List Str) (z : Str) : ∀ (cl : List (Int × List Ver)) (acc : List P2), (ixA fields z acc cl).length ≤ acc.length + (cl.map fun x => x.2.length).sum
  | [], acc => Nat.le_refl _
  | x :: cl, acc => by
    have e : ixA fields z acc (x :: cl) = ixA fields z (ixC fields z x.1 acc x.2) cl := rfl
    rw [e, List.map_cons, List.sum_cons]
    have ih := ixA_len fields z cl (ixC fields z x.1 acc x.2)
    have l := ixC_len fields z x.1 x.2 acc
    omega
theorem ixC_step {fields : List Str} {z : Str} {k : Int} {acc : List P2} {ch : List Ver} {j : Nat} {x : Ver} (h : ch[j]? = some x) : ixC fields z k acc (ch.take (j + 1)) = match x.2 with | none => ixC fields z k acc (ch.take j) | some ns => (wo fields ns z, k) :: ixC fields z k acc (ch.take j) := by
  rw [List.take_add_one, h]
  unfold ixC
  rw [List.foldl_append]
  rfl
theorem ixA_step {fields : List Str} {z : Str} {acc : List P2} {cl : List (Int × List Ver)} {j : Nat} {x : Int × List Ver} (h : cl[j]? = some x) : ixA fields z acc (cl.take (j + 1)) = ixC fields z x.1 (ixA fields z acc (cl.take j)) x.2 := by
  rw [List.take_add_one, h]
  unfold ixA
  rw [List.foldl_append]
  rfl
def moreC (c : TC) (z : Str) (n : Int) (p d r : Addr) (ps : List P2) : TC := { c with il := c.il ++ [(z, (p, d, r), ps)], made := c.made ++ [(z, n)] }
def indexD (t : TD) (n : Int) (z : Str) : TD := { t with il := t.il ++ [(z, ixA t.fields z [] t.cl)], made := t.made ++ [(z, n)] }
theorem valV_none {κ : Type} [DecidableEq κ] {k : κ} : ∀ {kvs : List (κ × V)}, k ∉ kvs.map (·.1) → valV kvs k = none
  | [], _ => rfl
  | p :: kvs, h => by
    rw [List.map_cons, List.mem_cons, not_or] at h
    exact (valV_neg (p := p) (fun e => h.1 e.symm)).trans (valV_none h.2)
theorem ikv_keys {il : List Ixn} {z : Str} (h : z ∉ il.map (fun x => x.1)) : (Sum.inr z : Key) ∉ (ikv il).map (·.1) := fun m => by
  unfold ikv at m
  rw [List.map_map] at m
  obtain ⟨i, mi, e⟩ := List.mem_map.mp m
  exact h (List.mem_map.mpr ⟨i, mi, Sum.inr.inj e⟩)
theorem mkv_keys {l : List (Str × Int)} {z : Str} (h : z ∉ l.map (fun x => x.1)) : (Sum.inr z : Key) ∉ (mkv l).map (·.1) := fun m => by
  unfold mkv at m
  rw [List.map_map] at m
  obtain ⟨i, mi, e⟩ := List.mem_map.mp m
  exact h (List.mem_map.mpr ⟨i, mi, Sum.inr.inj e⟩)
theorem fp_more {c : TC} {z : Str} {n : Int} {p d r tb b : Addr} {ps : List P2} : b ∈ (moreC c z n p d r ps).fp tb ↔ b ∈ c.fp tb ∨ b ∈ [p, d, r] := by
  unfold TC.fp moreC
  dsimp only
  rw [List.flatMap_append]
  simp only [List.mem_cons, List.mem_append, List.flatMap_cons, List.flatMap_nil, List.append_nil, ifp, List.not_mem_nil, or_false, or_assoc]
theorem TAt.more {K : PySem.W.Frag} {CT CI : Addr} {H H2 : Hp} {tb : Addr} {c : TC} {z : Str} {n : Int} {p d r : Addr} {ps : List P2} (x : TAt K CT CI H tb c) (s : Same H H2) (ia : IxAt CI H2 p d r ps) (hp : H p = none) (hd : H d = none) (hr : H r = none) (nz : z ∉ c.il.map (fun x => x.1)) (nm : z ∉ c.made.map (fun x => x.1)) :
    TAt K CT CI (upd (upd H2 c.ix (.dK (putK (ikv c.il) (Sum.inr z) (.ref p)))) c.md (.dK (putK (mkv c.made) (Sum.inr z) (.int n)))) tb (moreC c z n p d r ps) := by
  have f := ndf_of x.nd
  have old : ∀ b ∈ c.fp tb, b ≠ p ∧ b ≠ d ∧ b ≠ r := fun b m => by
    obtain ⟨o, e, _⟩ := x.notup m
    exact ⟨ne_of_none e hp, ne_of_none e hd, ne_of_none e hr⟩
  have mix : c.ix ∈ c.fp tb := fp_mem.mpr (.inr (.inr (.inr (.inl rfl))))
  have mmd : c.md ∈ c.fp tb := fp_mem.mpr (.inr (.inr (.inr (.inr (.inl rfl)))))
  have keep : ∀ b o, b ≠ c.ix → b ≠ c.md → H2 b = some o → (upd (upd H2 c.ix (.dK (putK (ikv c.il) (Sum.inr z) (.ref p)))) c.md (.dK (putK (mkv c.made) (Sum.inr z) (.int n)))) b = some o := fun b o n1 n2 e => by rw [upd_ne n2, upd_ne n1]; exact e
  have ix2 := s _ _ x.ix
  have md2 := s _ _ x.md
  have tk2 : TK H2 (upd (upd H2 c.ix (.dK (putK (ikv c.il) (Sum.inr z) (.ref p)))) c.md (.dK (putK (mkv c.made) (Sum.inr z) (.int n)))) := fun b u hu e => keep b u (ne_of e ix2 (by intro z; subst z; exact hu)) (ne_of e md2 (by intro z; subst z; exact hu)) e
  have tk : TK H (upd (upd H2 c.ix (.dK (putK (ikv c.il) (Sum.inr z) (.ref p)))) c.md (.dK (putK (mkv c.made) (Sum.inr z) (.int n)))) := TK.trans (TK.same s) tk2
  obtain ⟨dx, ob⟩ := x.ob
  refine ⟨⟨dx, keep _ _ f.a1.2.2.1 f.a1.2.2.2 (s _ _ ob)⟩, x.tf.keep tk, keep _ _ f.a2.2.1 f.a2.2.2 (s _ _ x.ch), fun y hy => ?_, keep _ _ f.a3.1 f.a3.2 (s _ _ x.ri), ?_, fun i hi => ?_, ?_, ?_⟩
  · obtain ⟨vs, h1, h2⟩ := x.cv y hy
    have fy := f.b y hy
    exact ⟨vs, keep _ _ fy.2.2.2.1 fy.2.2.2.2 (s _ _ h1), pw_ver tk h2⟩
  · refine (upd_ne f.a4).trans (upd_same.trans ?_)
    rw [putK_new _ (valV_none (ikv_keys nz))]
    show some (HO.dK _) = some (HO.dK (ikv (c.il ++ [((z, (p, d, r), ps) : Ixn)])))
    unfold ikv
    rw [List.map_append]
    rfl
  · have hi : i ∈ c.il ++ [((z, (p, d, r), ps) : Ixn)] := hi
    rcases List.mem_append.mp hi with m | m
    · exact (x.iv i m).keep (fun b hb o e => keep b o (f.i i m b hb).2.2.2.1 (f.i i m b hb).2.2.2.2 (s _ _ e)) tk
    · rw [List.mem_singleton.mp m]
      refine ia.keep (fun b hb o e => keep b o ?_ ?_ e) tk2
      · have q := old _ mix
        simp only [List.mem_cons, List.not_mem_nil, or_false] at hb
        rcases hb with h | h | h
        · rw [h]; exact Ne.symm q.1
        · rw [h]; exact Ne.symm q.2.1
        · rw [h]; exact Ne.symm q.2.2
      · have q := old _ mmd
        simp only [List.mem_cons, List.not_mem_nil, or_false] at hb
        rcases hb with h | h | h
        · rw [h]; exact Ne.symm q.1
        · rw [h]; exact Ne.symm q.2.1
        · rw [h]; exact Ne.symm q.2.2
  · refine upd_same.trans ?_
    rw [putK_new _ (valV_none (mkv_keys nm))]
    show some (HO.dK _) = some (HO.dK (mkv (c.made ++ [((z, n) : Str × Int)])))
    unfold mkv
    rw [List.map_append]
    rfl
  · obtain ⟨⟨dxi, i1⟩, ⟨kvs, i2, _⟩, bs, i3, _⟩ := ia
    have n12 : p ≠ d := ne_of i1 i2 (by intro z; cases z)
    have n13 : p ≠ r := ne_of i1 i3 (by intro z; cases z)
    have n23 : d ≠ r := ne_of i2 i3 (by intro z; cases z)
    have e : (moreC c z n p d r ps).fp tb = c.fp tb ++ [p, d, r] := by
      unfold TC.fp moreC
      dsimp only
      rw [List.flatMap_append]
      simp [ifp]
    rw [e]
    refine List.nodup_append.mpr ⟨x.nd, by simp [n12, n13, n23], fun a ha b hb e => ?_⟩
    subst e
    have q := old a ha
    simp only [List.mem_cons, List.not_mem_nil, or_false] at hb
    rcases hb with h | h | h
    · exact q.1 h
    · exact q.2.1 h
    · exact q.2.2 h
theorem dat_more {c : TC} {z : Str} {n : Int} {p d r : Addr} {ps : List P2} : (moreC c z n p d r ps).dat = { c.dat with il := c.dat.il ++ [(z, ps)], made := c.dat.made ++ [(z, n)] } := by
  unfold TC.dat moreC
  dsimp only
  rw [List.map_append]
  rfl
theorem TC.Ok.more {c : TC} {m : Nat} {z : Str} {n : Int} {p d r : Addr} {ps : List P2} (o : c.Ok m) (nz : z ∉ c.il.map (fun x => x.1)) (hz : z ∈ c.fields) (l : ps.length ≤ m) : (moreC c z n p d r ps).Ok m := by
  refine ⟨o.kd, o.up, o.km, ?_, fun i hi => ?_, o.n1, o.n2, fun i hi => ?_⟩
  · show ((c.il ++ [((z, (p, d, r), ps) : Ixn)]).map (fun x : Ixn => x.1)).Nodup
    rw [List.map_append]
    exact List.nodup_append.mpr ⟨o.ind, List.nodup_cons.mpr ⟨List.not_mem_nil, List.nodup_nil⟩, fun a ha b hb e => nz (by rw [List.mem_singleton.mp hb] at e; have e : a = z := e; rw [← e]; exact ha)⟩
  · have hi : i ∈ c.il ++ [((z, (p, d, r), ps) : Ixn)] := hi
    rcases List.mem_append.mp hi with h | h
    · exact o.inf i h
    · rw [List.mem_singleton.mp h]; exact hz
  · have hi : i ∈ c.il ++ [((z, (p, d, r), ps) : Ixn)] := hi
    rcases List.mem_append.mp hi with h | h
    · exact o.n3 i h
    · rw [List.mem_singleton.mp h]; exact l
def Wid (c : TC) : Prop := ∀ x ∈ c.cl, ∀ v ∈ x.2.2, ∀ ns, v.2 = some ns → ns.length = c.fields.length
def spMI (K : PySem.W.Frag) (CT CI : Addr) : Sp := fun vs H Q _ => ∃ (tb : Addr) (n : Int) (z : Str) (c : TC) (m : Nat), vs = [.ref tb, .int n, .str z] ∧ TAt K CT CI H tb c ∧ c.Ok m ∧ m ≤ 100000 ∧ Wid c ∧ z ∈ c.fields ∧ z ∉ c.il.map (fun x => x.1) ∧ z ∉ c.made.map (fun x => x.1) ∧ c.il.length ≤ 100000 ∧ c.made.length ≤ 100000 ∧
  ∀ c' H', Mid K CT CI tb c H H' c' m (indexD c.dat n z) → Q .non H'
section
variable {P : Program} {w : World} {K : PySem.W.Frag} {mg : Str → Option Value} {base : Heap}
theorem scMI : FnScope ["self", "number", "field", "index", "at", "key", "chain", "_", "row"] ["self", "number", "field"] (defScope s_Table_make_index) := ⟨rfl, rfl, rfl, by decide +kernel, rfl, by decide +kernel, by decide +kernel⟩
theorem ok_mi {f CT CI fi fa : Addr} {fd fdi fda : FuncData} (F : Fun K "make_index" "Table.make_index" s_Table_make_index f fd) (T : Txt mg) (TT : TxtT K CT) (cli : Cls K CI) (MI : CalC P w K mg base 1 "Index" CI ["self"] (spInit CI) fi fdi) (Cadd : CalM P w K mg base 2 CI "add" ["self", "worth", "key"] (spAdd CI) fa fda) : FnOk P w K mg base CX0 3 f fd ["self", "number", "field"] (spMI K CT CI) := by
  refine F.ok scMI (fun vs H Q E h => ?_) (fun cdv A outer s H vs Q E hr h => ?_)
  · obtain ⟨tb, n, z, c, m, rfl, _⟩ := h
    rfl
  · obtain ⟨tb, n, z, c, m, rfl, x, ok, few, wid, hz, nz, nm, li, lm, kk⟩ := h
    have hr2 : Room 2 _ := hr
    have big : (100000 : Nat) < sizeLine := by decide
    refine ⟨_, (pss_cons (ps_set (i := 3) scMI.nd rfl (Or.inl rfl) (pe_make0 MI.M MI.G hr2 rfl MI.g MI.b .nil pass0))
      (pss_cons (ps_set (i := 4) scMI.nd rfl (Or.inl rfl) (BTX.mG (K := K) PySem.F.plainAttrs_tuple PySem.F.slot_tuple_index PySem.F.type_tuple_index mt_tup_index (pe_fld (pv 0) rfl) (pa_cons (pv 2) pa_nil)))
      (pss_cons (ps_lock (ps_for PassesOwn.never rfl (pi_items (pe_fld (pv 0) rfl)) (RK.pgTup (K := K) (n := 2) rfl (pgs_cons (pg_name (i := 5) scMI.nd rfl (Or.inl rfl)) (pgs_cons (pg_name (i := 6) scMI.nd rfl (Or.inl rfl)) pgs_nil)))
        (pss_one (ps_for PassesOwn.never rfl (RK.piL (K := K) (pv 6)) (RK.pgTup (K := K) (n := 2) rfl (pgs_cons (pg_name (i := 7) scMI.nd rfl (Or.inl rfl)) (pgs_cons (pg_name (i := 8) scMI.nd rfl (Or.inl rfl)) pgs_nil)))
          (pss_one (ps_if (pt_cmpR op_notN (pv 8) pe_non (nomark _)) (pss_one (ps_expr (pe_meth (pv 3) cli Cadd.mt Cadd.G hr2 Cadd.b .nil pass0 (pa_cons (pe_ix (RK.ixT (K := K)) (pv 8) (pv 4) (fun _ _ => rfl)) (pa_cons (pv 5) pa_nil))))) pss_nil))))))
      (pss_cons (ps_dput (hu_of hr) (pe_fld (pv 0) rfl) (pv 2) (pv 3) rfl)
      (pss_one (ps_dput (hu_of hr) (pe_fld (pv 0) rfl) (pv 2) (pv 1) rfl)))))), ?_⟩
    refine sa1 ?_
    intro p dxp hp hdxp ndp
    refine ⟨p, dxp, rfl, upd_same, fun d r H1 hd hr0 ia keep => ⟨rfl, gn ?_⟩⟩
    have s1 : Same H H1 := fun b o e => keep b o (by rw [upd_ne (ne_of_none e hp), upd_ne (ne_of_none e hdxp)]; exact e) (ne_of_none e hp)
    have dn : ∀ {b : Addr}, (upd (upd H dxp (.own p)) p (.ins CI dxp [])) b = none → H b = none := fun {b} e => by
      cases q : H b with
      | none => rfl
      | some o => rw [upd_ne (ne_of_none q hp), upd_ne (ne_of_none q hdxp), q] at e; cases e
    have hd := dn hd
    have hr0 := dn hr0
    generalize upd (upd H dxp (.own p)) p (.ins CI dxp []) = H0 at keep
    clear keep H0
    obtain ⟨dx, ob⟩ := x.ob
    obtain ⟨w1, w2, _⟩ := wo_at (fields := c.fields) (ns := c.fields.map fun _ => 0) (z := z) (List.length_map ..) hz
    refine sa1 ⟨_, rfl, tb, CT, dx, _, _, rfl, s1 _ _ ob, TT.cl, TT.n2, lk2 _, ⟨_, _, rfl, x.tf.keep (TK.same s1)⟩, _, rfl, c.tf, c.fields, z, c.fields.idxOf z, rfl, rfl, (x.tf.keep (TK.same s1)).sq, w1, w2, gn ?_⟩
    -- the loop
    refine ⟨c.ch, _, s1 _ _ x.ch, trivial, fun od => ?_⟩
    have nd := ndf_of x.nd
    refine ⟨_, rfl, tb, CT, dx, _, _, rfl, (upd_ne nd.a1.1).trans (s1 _ _ ob), TT.cl, TT.n3, lk3 c, c.ch, od, _, rfl, upd_same, ?_⟩
    have len : (ckv c.cl).length = c.cl.length := ckv_len _
    have nch : c.ch ≠ p ∧ c.ch ≠ d ∧ c.ch ≠ r := ⟨ne_of_none x.ch hp, ne_of_none x.ch hd, ne_of_none x.ch hr0⟩
    have tkch : TK H1 (upd H1 c.ch (.frz od (.dK (ckv c.cl)))) := fun b u hu e => by rw [upd_ne (ne_of e (s1 _ _ x.ch) (by intro z; subst z; exact hu))]; exact e
    have ia1 : IxAt CI (upd H1 c.ch (.frz od (.dK (ckv c.cl)))) p d r [] := ia.keep (fun b hb o e => by
      refine (upd_ne fun q => ?_).trans e
      simp only [List.mem_cons, List.not_mem_nil, or_false] at hb
      rcases hb with h | h | h
      · exact nch.1 (q.symm.trans h)
      · exact nch.2.1 (q.symm.trans h)
      · exact nch.2.2 (q.symm.trans h)) tkch
    refine for_it walk_items (fun i σ H' => ∃ v5 v6 v7 v8, σ = [some (.ref tb), some (.int n), some (.str z), some (.ref p), some (.int (c.fields.idxOf z : Nat)), v5, v6, v7, v8] ∧ H' c.ch = some (.frz od (.dK (ckv c.cl))) ∧ (∀ b o, H b = some o → b ≠ c.ch → H' b = some o) ∧ IxAt CI H' p d r (ixA c.fields z [] (c.dat.cl.take i)))
      ⟨none, none, none, none, rfl, upd_same, fun b o e nb => by rw [upd_ne nb]; exact s1 _ _ e, ia1⟩ (fun i σ H' _ ⟨_, _, _, _, _, q, _⟩ => q) ?_ ?_
    · rintro i x0 σ Ha H' hi ⟨v5, v6, v7, v8, rfl, fz, kp, ia2⟩ ⟨t, x1, y1, rfl, ht, rfl, e1, e2⟩
      have hi2 : i < c.cl.length := len ▸ hi
      have hq0 : c.cl[i]? = some c.cl[i] := List.getElem?_eq_getElem hi2
      generalize c.cl[i] = y at hq0
      have my : y ∈ c.cl := List.mem_of_getElem? hq0
      have ek0 : (ckv c.cl)[i]? = some (Sum.inl y.1, V.ref y.2.1) := by unfold ckv; rw [List.getElem?_map, hq0]; rfl
      obtain rfl : x1 = .int y.1 := by
        have z : ((ckv c.cl)[i]?.map fun kv => kV kv.1) = some x1 := e1
        rw [ek0] at z
        exact (Option.some.inj z).symm
      obtain rfl : y1 = .ref y.2.1 := by
        have z : ((ckv c.cl)[i]?.map Prod.snd) = some y1 := e2
        rw [ek0] at z
        exact (Option.some.inj z).symm
      have nt : ∀ b o, Ha b = some o → b ≠ t := fun b o e => ne_of_none e ht
      have st := same_new (o := .tup [.int y.1, .ref y.2.1]) ht
      have pairAt : (upd Ha t (.tup [.int y.1, .ref y.2.1])) t = some (.tup [.int y.1, .ref y.2.1]) := upd_same
      have fz := st _ _ fz
      have kp : ∀ b o, H b = some o → b ≠ c.ch → (upd Ha t (.tup [.int y.1, .ref y.2.1])) b = some o := fun b o e nb => st _ _ (kp b o e nb)
      have ia2 := ia2.same st
      refine ⟨t, _, rfl, SqT.of pairAt, rfl, _, _, rfl, _, _, rfl, rfl, ?_⟩
      generalize upd Ha t (.tup [.int y.1, .ref y.2.1]) = Hb at fz kp ia2
      obtain ⟨vs, hv, pw⟩ := x.cv y my
      have hv2 := kp _ _ hv (nd.b y my).2.1
      have edat : c.dat.cl[i]? = some (y.1, y.2.2) := by
        show (c.cl.map _)[i]? = _
        rw [List.getElem?_map, hq0]; rfl
      have lenv := pw_len pw
      have tot : (ixA c.fields z [] (c.dat.cl.take i)).length + y.2.2.length ≤ m := by
        have a1 := ixA_len c.fields z (c.dat.cl.take i) []
        have a2 := ok.n2
        have a3 : (c.cl.map fun x => x.2.2.length) = c.dat.cl.map fun x => x.2.length := by
          show _ = (c.cl.map _).map _
          rw [List.map_map]; rfl
        rw [a3] at a2
        have a4 : ((c.dat.cl.take (i + 1)).map fun x => x.2.length).sum ≤ (c.dat.cl.map fun x => x.2.length).sum := by
          have e := List.take_append_drop (i + 1) c.dat.cl
          have e2 : (c.dat.cl.map fun x => x.2.length) = ((c.dat.cl.take (i + 1)).map fun x => x.2.length) ++ ((c.dat.cl.drop (i + 1)).map fun x => x.2.length) := by rw [← List.map_append, e]
          rw [e2, List.sum_append]
          exact Nat.le_add_right _ _
        rw [List.take_add_one, edat, List.map_append, List.sum_append] at a4
        have a5 : (List.map (fun x : Int × List Ver => x.2.length) ((some (y.1, y.2.2) : Option (Int × List Ver)).toList)).sum = y.2.2.length := by simp
        rw [a5] at a4
        have a6 : ([] : List P2).length = 0 := rfl
        omega
      refine ⟨_, rfl, y.2.1, rfl, ⟨vs, SqL.of hv2⟩, ?_⟩
      refine for_it walk_list (fun j σ H' => ∃ v7 v8, σ = [some (.ref tb), some (.int n), some (.str z), some (.ref p), some (.int (c.fields.idxOf z : Nat)), some (.int y.1), some (.ref y.2.1), v7, v8] ∧ H' c.ch = some (.frz od (.dK (ckv c.cl))) ∧ (∀ b o, H b = some o → b ≠ c.ch → H' b = some o) ∧ IxAt CI H' p d r (ixC c.fields z y.1 (ixA c.fields z [] (c.dat.cl.take i)) (y.2.2.take j)))
        ⟨v7, v8, rfl, fz, kp, ia2⟩ (fun j σ H' _ ⟨_, _, _, _, q, _⟩ => SqL.of (q _ _ hv (nd.b y my).2.1)) ?_ ?_
      · rintro j x1 σ Hc H' hj ⟨v7, v8, rfl, fz, kp, ia3⟩ ⟨rfl, ex⟩
        obtain ⟨ver, ev, t, rv, rfl, h1, h2⟩ := pw_get pw ex
        have tkc : TK H H' := fun b u hu e => kp b u e (ne_of e x.ch (by intro z; subst z; exact hu))
        refine ⟨t, _, rfl, SqT.of (tkc.tup h1), rfl, _, _, rfl, _, _, rfl, rfl, ?_⟩
        refine ifs ⟨_, rfl, rfl, _, rfl, ?_⟩
        have stp := ixC_step (fields := c.fields) (z := z) (k := y.1) (acc := ixA c.fields z [] (c.dat.cl.take i)) ev
        rcases ver with ⟨num, row⟩
        cases row with
        | none =>
          obtain rfl : rv = .non := h2
          exact iteF ⟨_, _, rfl, fz, kp, by rw [stp]; exact ia3⟩
        | some ns =>
          obtain ⟨q, rfl, hq⟩ := h2
          refine iteT ?_
          obtain ⟨⟨dxi, obi⟩, _⟩ := id ia3
          have lkq : (flds d r).lookup ("add" : Str) = none := flds_no _ _ (by decide +kernel) (by decide +kernel)
          obtain ⟨_, _, w3⟩ := wo_at (wid y my _ (List.mem_of_getElem? ev) ns rfl) hz
          have lj := ixC_len c.fields z y.1 (y.2.2.take j) (ixA c.fields z [] (c.dat.cl.take i))
          have lt := List.length_take_le j y.2.2
          refine ⟨_, rfl, p, dxi, _, rfl, obi, lkq, ?_⟩
          refine ⟨_, rfl, _, rfl, q, ns.map V.int, _, .int (wo c.fields ns z), rfl, rfl, SqT.of (tkc.tup hq), atI_nat w3, _, rfl, ?_⟩
          refine ⟨p, d, r, (wo c.fields ns z, y.1), _, rfl, ia3, by omega, fun H4 kix ia4 => ?_⟩
          refine ⟨_, _, rfl, kix _ _ nch.2.1 nch.2.2 fz, fun b o e nb => kix b o (ne_of_none e hd) (ne_of_none e hr0) (kp b o e nb), by rw [stp]; exact ia4⟩
      · rintro σ Hc ⟨v7, v8, rfl, fz, kp, ia3⟩
        refine ⟨_, _, _, _, rfl, fz, kp, ?_⟩
        rw [ixA_step edat]
        rw [← lenv, List.take_length] at ia3
        exact ia3
    · rintro σ Ha ⟨v5, v6, v7, v8, rfl, fz, kp, ia2⟩
      refine ⟨fz, ?_⟩
      have ltake : c.dat.cl.take (ckv c.cl).length = c.dat.cl := by
        have e : (ckv c.cl).length = c.dat.cl.length := by rw [len]; exact (List.length_map ..).symm
        rw [e, List.take_length]
      rw [ltake] at ia2
      have s2 : Same H (upd Ha c.ch (.dK (ckv c.cl))) := fun b o e => by
        by_cases eb : b = c.ch
        · rw [eb, x.ch] at e
          rw [eb, upd_same, e]
        · rw [upd_ne eb]; exact kp b o e eb
      have ia5 : IxAt CI (upd Ha c.ch (.dK (ckv c.cl))) p d r (ixA c.fields z [] c.dat.cl) := ia2.keep (fun b hb o e => by
        refine (upd_ne fun q => ?_).trans e
        simp only [List.mem_cons, List.not_mem_nil, or_false] at hb
        rcases hb with h | h | h
        · exact nch.1 (q.symm.trans h)
        · exact nch.2.1 (q.symm.trans h)
        · exact nch.2.2 (q.symm.trans h)) (fun b u hu e => by rw [upd_ne (ne_of e fz (by intro z; subst z; exact hu))]; exact e)
      generalize upd Ha c.ch (.dK (ckv c.cl)) = Hd at s2 ia5
      have fin := x.more (n := n) s2 ia5 hp hd hr0 nz nm
      have lki : (ikv c.il).length < sizeLine := Nat.lt_of_le_of_lt (show (ikv c.il).length ≤ 100000 by unfold ikv; rw [List.length_map]; exact li) big
      have lkm : (mkv c.made).length < sizeLine := Nat.lt_of_le_of_lt (show (mkv c.made).length ≤ 100000 by unfold mkv; rw [List.length_map]; exact lm) big
      refine ⟨_, rfl, _, rfl, tb, CT, dx, _, _, rfl, s2 _ _ ob, TT.cl, TT.n5, lk5 c, _, rfl, c.ix, _, rfl, DPut.k (k := Sum.inr z) (s2 _ _ x.ix) lki, ?_⟩
      refine ⟨_, rfl, _, rfl, tb, CT, dx, _, _, rfl, (upd_ne nd.a1.2.2.1).trans (s2 _ _ ob), TT.cl, TT.n6, lk6 c, _, rfl, c.md, _, rfl, DPut.k (k := Sum.inr z) ((upd_ne (Ne.symm nd.a4)).trans (s2 _ _ x.md)) lkm, ?_⟩
      have lps : (ixA c.fields z [] c.dat.cl).length ≤ m := by
        have a1 := ixA_len c.fields z c.dat.cl []
        have a2 := ok.n2
        have a3 : (c.cl.map fun x => x.2.2.length) = c.dat.cl.map fun x => x.2.length := by
          show _ = (c.cl.map _).map _
          rw [List.map_map]; rfl
        rw [a3] at a2
        have a6 : ([] : List P2).length = 0 := rfl
        omega
      refine kk _ _ ⟨fin, ok.more nz hz lps, dat_more, rfl, fun b hb => ?_, fun b o nb e => ?_⟩
      · rcases fp_more.mp hb with h | h
        · exact .inl h
        · simp only [List.mem_cons, List.not_mem_nil, or_false] at h
          rcases h with h | h | h
          · rw [h]; exact .inr hp
          · rw [h]; exact .inr hd
          · rw [h]; exact .inr hr0
      · have n1 : b ≠ c.ix := fun q => nb (q ▸ fp_mem.mpr (.inr (.inr (.inr (.inl rfl)))))
        have n2 : b ≠ c.md := fun q => nb (q ▸ fp_mem.mpr (.inr (.inr (.inr (.inr (.inl rfl))))))
        rw [upd_ne n2, upd_ne n1]
        exact s2 b o e
end
end GS

set_option linter.all false
set_option maxHeartbeats 4000000
namespace GS
open PySem L2 HX
abbrev Span := Option Int × Option Int
def oV : Option Int → V
  | none => .non
  | some i => .int i
/-- at f the tuple of the fields -/
abbrev FsAt (K : PySem.W.Frag) (H : Hp) (f : Addr) (fs : List Str) : Prop := SqT K H f (fs.map V.str)
def BdRel (K : PySem.W.Frag) (H : Hp) (kv : Key × V) (p : Str × Span) : Prop := kv.1 = .inr p.1 ∧ ∃ t, kv.2 = .ref t ∧ SqT K H t [oV p.2.1, oV p.2.2]
/-- at d the dict of such spans -/
def BdAt (K : PySem.W.Frag) (H : Hp) (d : Addr) (bs : List (Str × Span)) : Prop := ∃ kvs, H d = some (.dK kvs) ∧ Paired (BdRel K H) kvs bs
theorem sqT_mono {K : PySem.W.Frag} {H H' : Hp} {a : Addr} {xs : List V} (k : ∀ o, (∀ ys, o ≠ .lst ys) → H a = some o → H' a = some o) (h : SqT K H a xs) : SqT K H' a xs := by
  rcases h with (h | ⟨o, h⟩) | h
  · exact .inl (.inl (k _ (fun _ e => nomatch e) h))
  · exact .inl (.inr ⟨o, k _ (fun _ e => nomatch e) h⟩)
  · exact .inr h
/-- all that is no list stays -/
def KeepN (H H' : Hp) : Prop := ∀ x o, (∀ ys, o ≠ .lst ys) → H x = some o → H' x = some o
theorem KeepN.of {H H' : Hp} (s : Same H H') : KeepN H H' := fun x o _ h => s x o h
theorem KeepN.trans {H H1 H2 : Hp} (p : KeepN H H1) (q : KeepN H1 H2) : KeepN H H2 := fun x o no h => q x o no (p x o no h)
theorem KeepN.t {K : PySem.W.Frag} {H H' : Hp} (k : KeepN H H') {a : Addr} {xs : List V} (h : SqT K H a xs) : SqT K H' a xs := sqT_mono (k a) h
theorem paired_mono {K : PySem.W.Frag} {H H' : Hp} (k : KeepN H H') : ∀ {kvs : List (Key × V)} {bs : List (Str × Span)}, Paired (BdRel K H) kvs bs → Paired (BdRel K H') kvs bs
  | _, _, .nil => .nil
  | _, _, .cons ⟨e, t, e2, h⟩ r => .cons ⟨e, t, e2, k.t h⟩ (paired_mono k r)
theorem KeepN.d {K : PySem.W.Frag} {H H' : Hp} (k : KeepN H H') {d : Addr} {bs : List (Str × Span)} (h : BdAt K H d bs) : BdAt K H' d bs := by
  obtain ⟨kvs, hd, p⟩ := h
  exact ⟨kvs, k d _ (fun _ e => nomatch e) hd, paired_mono k p⟩
theorem look_bd {K : PySem.W.Frag} {H : Hp} (f : Str) : ∀ {kvs : List (Key × V)} {bs : List (Str × Span)}, Paired (BdRel K H) kvs bs →
    (bs.lookup f = none ∧ valV kvs (.inr f) = none) ∨ ∃ sp t, bs.lookup f = some sp ∧ valV kvs (.inr f) = some (.ref t) ∧ SqT K H t [oV sp.1, oV sp.2]
  | _, _, .nil => .inl ⟨rfl, rfl⟩
  | (k, v) :: kvs, (g, sp) :: bs, .cons ⟨e, t, e2, h⟩ r => by
    have e : k = .inr g := e
    have e2 : v = .ref t := e2
    subst e; subst e2
    by_cases q : f = g
    · subst q
      refine .inr ⟨sp, t, by simp [List.lookup], valV_pos rfl, h⟩
    · have n1 : ((f == g) : Bool) = false := by simpa using q
      have n2 : ¬ ((Sum.inr g : Key) = .inr f) := fun z => q (Sum.inr.inj z).symm
      rw [show valV ((Sum.inr g, V.ref t) :: kvs) (.inr f) = valV kvs (.inr f) from valV_neg n2]
      rw [show List.lookup f ((g, sp) :: bs) = List.lookup f bs by simp [List.lookup, n1]]
      exact look_bd f r
/-- a number within a span -/
def inSpan (sp : Span) (n : Int) : Bool := (match sp.1 with | none => true | some lo => decide (lo ≤ n)) && (match sp.2 with | none => true | some hi => decide (n ≤ hi))
def inOpt (o : Option Span) (n : Int) : Bool := match o with | none => true | some sp => inSpan sp n
/-- a row within bounds -/
def within (bs : List (Str × Span)) (fs : List Str) (ns : List Int) : Bool := (fs.zip ns).all fun p => inOpt (bs.lookup p.1) p.2

def spIsIn (K : PySem.W.Frag) : Sp := fun vs H Q _ => (∃ (r f d : Addr) (fs : List Str) (ns : List Int) (bs : List (Str × Span)), vs = [.ref r, .ref f, .ref d] ∧ SqT K H r (ns.map V.int) ∧ FsAt K H f fs ∧ ns.length = fs.length ∧ fs.length ≤ 4 ∧ fs.Nodup ∧ BdAt K H d bs ∧ (bs.map (·.1)).Nodup ∧
  ∀ H', Same H H' → Q (.bl (within bs fs ns)) H') ∨ ∃ f d, vs = [.non, .ref f, .ref d] ∧ ∀ H', Same H H' → Q (.bl false) H'
def hiOk : Option Int → Int → Bool
  | none, _ => true
  | some h, n => decide (n ≤ h)
def loOk : Option Int → Int → Bool
  | none, _ => true
  | some h, n => decide (h ≤ n)
def spBetween : Sp := fun vs H Q _ => ∃ (n : Int) (lo hi : Option Int), vs = [.int n, oV lo, oV hi] ∧ Q (.bl (inSpan (lo, hi) n)) H
structure Txt3 (mg : Str → Option Value) : Prop where
  all : mg "all" = none
  any : mg "any" = none
  enumerate : mg "enumerate" = none
section
variable {P : Program} {w : World} {K : PySem.W.Frag} {mg : Str → Option Value} {base : Heap}
theorem scBetween : FnScope ["number", "low", "high"] ["number", "low", "high"] (defScope s_is_between) := ⟨rfl, rfl, rfl, by decide +kernel, rfl, by decide +kernel, by decide +kernel⟩
theorem ok_between {f : Addr} {fd : FuncData} (F : Fun K "is_between" "is_between" s_is_between f fd) : FnOk P w K mg base CX0 1 f fd ["number", "low", "high"] spBetween := by
  refine F.ok scBetween (fun vs H Q E h => ?_) (fun cdv A outer s H vs Q E hr h => ?_)
  · obtain ⟨n, lo, hi, rfl, _⟩ := h
    rfl
  · obtain ⟨n, lo, hi, rfl, k⟩ := h
    refine ⟨_, (pss_one (ps_ret (pe_and (pe_or (pe_cmpR op_isN (pv 1) pe_non (nomark _)) (pe_one (pe_cmpR op_ge (pv 0) (pv 1) (nomark _)))) (pe_one (pe_or (pe_cmpR op_isN (pv 2) pe_non (nomark _)) (pe_one (pe_cmpR op_le (pv 0) (pv 2) (nomark _)))))))), ?_⟩
    replace k : Q (.bl (loOk lo n && hiOk hi n)) H := by cases lo <;> cases hi <;> exact k
    have second : ∀ Qx : VK, Qx (.bl (hiOk hi n)) H → tOrV (tOp (fun x y H Q => y = V.non ∧ Q (V.bl (decide (x = V.non))) H) (tVar 2) (tC V.non)) (tOp (rI0 fun i j => V.bl (decide (i ≤ j))) (tVar 0) (tVar 2)) [some (.int n), some (oV lo), some (oV hi)] H Qx := fun Qx q => by
      cases hi with
      | none => exact ⟨_, rfl, rfl, _, rfl, iteT q⟩
      | some m => exact ⟨_, rfl, rfl, _, rfl, iteF ⟨_, rfl, _, rfl, _, _, rfl, rfl, q⟩⟩
    cases lo with
    | none => exact ⟨_, rfl, rfl, _, rfl, iteT ⟨_, rfl, iteT (second _ k)⟩⟩
    | some l =>
      refine ⟨_, rfl, rfl, _, rfl, iteF ⟨_, rfl, _, rfl, _, _, rfl, rfl, _, rfl, ?_⟩⟩
      by_cases c : l ≤ n
      · have e : decide (l ≤ n) = true := decide_eq_true c
        replace k : Q (.bl (decide (l ≤ n) && hiOk hi n)) H := k
        simp only [e, Bool.true_and] at k
        exact (if_pos (decide_eq_true (show n ≥ l from c))) ▸ second _ k
      · have e : decide (l ≤ n) = false := decide_eq_false c
        replace k : Q (.bl (decide (l ≤ n) && hiOk hi n)) H := k
        simp only [e, Bool.false_and] at k
        rw [if_neg (by simpa using c)]
        exact k
theorem scIn : FnScope ["row", "fields", "bounds", "at", "field"] ["row", "fields", "bounds"] (defScope s_is_in) := ⟨rfl, rfl, rfl, by decide +kernel, rfl, by decide +kernel, by decide +kernel⟩
theorem ok_in {f fb : Addr} {fd fdb : FuncData} (F : Fun K "is_in" "is_in" s_is_in f fd) (T : Txt3 mg) (Cis_between : Cal P w K mg base 2 "is_between" ["number", "low", "high"] spBetween fb fdb) :
    FnOk P w K mg base CX0 3 f fd ["row", "fields", "bounds"] (spIsIn K) := by
  refine F.ok scIn (fun vs H Q E h => ?_) (fun cdv A outer s H vs Q E hr h => ?_)
  · rcases h with ⟨r, f, d, fs, ns, bs, rfl, _⟩ | ⟨f, d, rfl, _⟩
    · rfl
    · rfl
  · have hr1 : Room 2 _ := hr.mono (by decide)
    refine ⟨_, (pss_cons (ps_if (PW.pt (pw_or (pt_cmpR op_isN (pv 0) pe_non (nomark _)) (pw_or1 (pt_cmpR op_isN (pv 2) pe_non (nomark _))))) (pss_one (ps_ret pe_bl)) pss_nil)
      (pss_cons (ps_for PassesOwn.never rfl (EN.pi_enumT (K := K) (by rfl) T.enumerate (pa_cons (pv 1) pa_nil)) (RK.pgTup (K := K) (n := 2) rfl (pgs_cons (pg_name (i := 3) scIn.nd rfl (Or.inl rfl)) (pgs_cons (pg_name (i := 4) scIn.nd rfl (Or.inl rfl)) pgs_nil)))
        (pss_one (ps_if (PW.pt (pw_and (pt_cmp (pc_din (hu_of hr) (pv 4) (pv 2))) (pw_and1 (pt_not (pt_val (pe_call Cis_between.G hr1 rfl Cis_between.g Cis_between.kp Cis_between.b .nil pass0 (pa_cons (pe_ix (RK.ixT (K := K)) (pv 0) (pv 3) (fun _ _ => rfl)) (pa_cons (pe_ix (RK.ixT (K := K)) (pe_dget (hu_of hr) (pv 2) (pv 4) (fun _ _ => rfl)) pe_int (fun _ _ => rfl)) (pa_cons (pe_ix (RK.ixT (K := K)) (pe_dget (hu_of hr) (pv 2) (pv 4) (fun _ _ => rfl)) pe_int (fun _ _ => rfl)) pa_nil))))))))) (pss_one (ps_ret pe_bl)) pss_nil)))
      (pss_one (ps_ret pe_bl)))), ?_⟩
    rcases h with ⟨r, fA, d, fs, ns, bs, rfl, hr0, hf, hl, h4, nd, hd, nb, k⟩ | ⟨fA, d, rfl, k⟩
    · refine sif ⟨_, rfl, rfl, _, rfl, iteF ⟨_, rfl, rfl, _, rfl, iteF ?_⟩⟩
      have lf : (fs.map V.str).length = fs.length := List.length_map ..
      refine ⟨_, rfl, fA, _, rfl, hf, for_it EN.walk_enumT (fun i σ H' => ∃ v3 v4, σ = [some (.ref r), some (.ref fA), some (.ref d), v3, v4] ∧ Same H H' ∧ within bs (fs.take i) (ns.take i) = true)
        ⟨none, none, rfl, Same.refl H, rfl⟩ (fun i σ H' _ ⟨_, _, _, sm, _⟩ => (KeepN.of sm).t hf) ?_ ?_⟩
      · rintro i x σ H0 H' hi ⟨v3, v4, rfl, sm, wi⟩ ⟨T, x1, y1, rfl, hT, rfl, e1, e2⟩
        cases e1
        have hi1 : i < fs.length := lf ▸ hi
        have hi2 : i < ns.length := hl ▸ hi1
        have ef : y1 = .str fs[i] := by
          replace e2 : (fs.map V.str)[i]? = some y1 := e2
          rw [List.getElem?_map, List.getElem?_eq_getElem hi1] at e2
          exact (Option.some.inj e2).symm
        subst ef
        have st := same_new (o := .tup [.int ((i : Nat) : Int), .str fs[i]]) hT
        have s2 := sm.trans st
        have kn := KeepN.of s2
        obtain ⟨kvs, hd1, pr⟩ := kn.d hd
        have en : atI (ns.map V.int) ((i : Nat) : Int) = some (.int ns[i]) := atI_nat (by rw [List.getElem?_map, List.getElem?_eq_getElem hi2]; rfl)
        have step : within bs (fs.take (i + 1)) (ns.take (i + 1)) = inOpt (bs.lookup fs[i]) ns[i] := by
          have h1 : fs.take (i + 1) = fs.take i ++ [fs[i]] := by rw [List.take_add_one, List.getElem?_eq_getElem hi1]; rfl
          have h2 : ns.take (i + 1) = ns.take i ++ [ns[i]] := by rw [List.take_add_one, List.getElem?_eq_getElem hi2]; rfl
          unfold within at wi ⊢
          rw [h1, h2, List.zip_append (by rw [List.length_take, List.length_take]; omega), List.all_append, wi]
          simp
        refine ⟨T, _, rfl, SqT.of upd_same, rfl, _, _, rfl, _, _, rfl, rfl, ?_⟩
        refine ⟨_, rfl, _, rfl, d, _, rfl, DGet.k (k := Sum.inr fs[i]) hd1, _, rfl, ?_⟩
        rcases look_bd fs[i] pr with ⟨z1, z2⟩ | ⟨sp, t, z1, z2, ht⟩
        · rw [z2]
          refine iteF (iteF ⟨_, _, rfl, s2, ?_⟩)
          rw [step, z1]
          rfl
        · rw [z2]
          refine iteT ?_
          have dg : DGet (upd H0 T (.tup [.int ((i : Nat) : Int), .str fs[i]])) d (.str fs[i]) (some (.ref t)) := z2 ▸ DGet.k (k := Sum.inr fs[i]) hd1
          refine ⟨_, rfl, _, rfl, r, _, _, _, rfl, rfl, kn.t hr0, en, _, rfl, _, rfl, d, _, rfl, dg, t, _, _, _, rfl, rfl, ht, rfl, _, rfl, _, rfl, d, _, rfl, dg, t, _, _, _, rfl, rfl, ht, rfl, ns[i], sp.1, sp.2, rfl, _, rfl, ?_⟩
          cases c : inSpan (sp.1, sp.2) ns[i] with
          | true =>
            refine iteF ⟨_, _, rfl, s2, ?_⟩
            rw [step, z1]
            exact c
          | false =>
            refine iteT ?_
            have nowi : within bs fs ns = false := by
              have h1 : fs = fs.take (i + 1) ++ fs.drop (i + 1) := (List.take_append_drop ..).symm
              have h2 : ns = ns.take (i + 1) ++ ns.drop (i + 1) := (List.take_append_drop ..).symm
              rw [z1] at step
              have z3 := step.trans c
              unfold within at z3 ⊢
              rw [h1, h2, List.zip_append (by rw [List.length_take, List.length_take]; omega), List.all_append, z3]
              rfl
            have q := k _ s2
            rw [nowi] at q
            exact q
      · rintro σ H' ⟨v3, v4, rfl, sm, wi⟩
        have q := k H' sm
        rw [lf, List.take_length, ← hl, List.take_length] at wi
        rw [wi] at q
        exact q
    · exact sif ⟨_, rfl, rfl, _, rfl, iteT (iteT (k H (Same.refl H)))⟩
end
end GS

set_option linter.all false
set_option maxHeartbeats 4000000
namespace GS
open PySem L2 HX
theorem sIx_nat {n d k : Nat} (h : k ≤ n) : HT.sIx n d (some (k : Int)) = k := by
  rw [HT.sIx_nat]
  omega
theorem cut_eq {xs : List V} {k1 k2 : Nat} (h1 : k1 ≤ xs.length) (h2 : k2 ≤ xs.length) : cutV xs (some (k1 : Int)) (some (k2 : Int)) = (xs.take k2).drop k1 := by
  unfold cutV
  rw [sIx_nat h1, sIx_nat h2, List.drop_take]
theorem teR {te : TE} {σ : L2.St} {H : Hp} {Q : VK} (R : V → Hp → Prop) (h1 : ∀ v H', R v H' → Q v H') (h : (∀ v H', R v H' → Q v H') → te σ H Q) : te σ H Q := h h1
/-- the place of a key among all -/
theorem te_place {K : PySem.W.Frag} {CT CI tb : Addr} {H : Hp} {c : TC} {m : Nat} {te : TE} {σ : L2.St} {y : Int} {Q : VK} {E : XK} (x : TAt K CT CI H tb c) (ok : c.Ok m) (TT : TxtT K CT) (h0 : σ[0]? = some (some (.ref tb))) (hy : ∀ Q' : VK, Q' (.int y) H → te σ H Q')
    (k : ∀ j : Nat, j ≤ c.ks.length → (∀ x ∈ c.ks.take j, x < y) → (∀ x ∈ c.ks.drop j, ¬ x < y) → Q (.int j) H) : tCall (spPlace K) [] E (tCons (tFld K (tVar 0) "rising") (tCons te tNil)) σ H Q := by
  obtain ⟨dx, ob⟩ := x.ob
  refine ⟨_, h0, tb, CT, dx, _, _, rfl, ob, TT.cl, TT.n4, lk4 c, hy _ ?_⟩
  refine ⟨c.ri, .int y, c.ks.map V.int, fun i => match c.ks[i]? with | some x => decide (x < y) | none => false, rfl, SqL.of x.ri, fun i x0 e Q' q => ?_, fun i j lij lj e => ?_, fun j lj lo hi => k j ?_ ?_ ?_⟩
  · rw [List.getElem?_map] at e
    cases eq : c.ks[i]? with
    | none => rw [eq] at e; cases e
    | some p =>
      rw [eq] at e
      obtain rfl := Option.some.inj e
      dsimp only at q
      rw [eq] at q
      exact .inl ⟨p, y, rfl, rfl, q⟩
  · rw [List.length_map] at lj
    dsimp only at e ⊢
    have li : i < c.ks.length := by omega
    rw [List.getElem?_eq_getElem lj] at e
    rw [List.getElem?_eq_getElem li]
    have z := List.pairwise_iff_getElem.mp ok.up i j li lj lij
    have z2 := of_decide_eq_true e
    exact decide_eq_true (by omega)
  · rw [List.length_map] at lj; exact lj
  · intro x hx
    obtain ⟨i, li, e⟩ := List.getElem_of_mem hx
    rw [List.length_take] at li
    have z := lo i (by omega)
    dsimp only at z
    rw [List.getElem?_eq_getElem (by omega)] at z
    rw [List.getElem_take] at e
    rw [← e]
    exact of_decide_eq_true z
  · intro x hx
    obtain ⟨i, li, e⟩ := List.getElem_of_mem hx
    rw [List.length_drop] at li
    have z := hi (j + i) (by omega) (by rw [List.length_map]; omega)
    dsimp only at z
    rw [List.getElem?_eq_getElem (by omega)] at z
    rw [List.getElem_drop] at e
    rw [← e]
    exact of_decide_eq_false z
def spKB (K : PySem.W.Frag) (CT CI : Addr) : Sp := fun vs H Q _ => ∃ (tb : Addr) (lo hi : Option Int) (c : TC) (m : Nat), vs = [.ref tb, oV lo, oV hi] ∧ TAt K CT CI H tb c ∧ c.Ok m ∧
  ∀ ks' : List Int, (∀ k, k ∈ ks' ↔ k ∈ c.ks ∧ inSpan (lo, hi) k = true) → ks'.Sublist c.ks → ∀ p, H p = none → Q (.ref p) (upd H p (.lst (ks'.map V.int)))
theorem mem_cut {ks : List Int} {i j : Nat} {lo hi : Option Int} (up : ks.Pairwise (· < ·)) (h1 : ∀ x ∈ ks.take i, ∀ l, lo = some l → x < l) (h1' : lo = none → i = 0) (h2 : ∀ x ∈ ks.drop i, ∀ l, lo = some l → ¬ x < l) (h3 : ∀ x ∈ ks.take j, ∀ l, hi = some l → x < l + 1) (h4 : ∀ x ∈ ks.drop j, ∀ l, hi = some l → ¬ x < l + 1) (h4' : hi = none → j = ks.length) (k : Int) :
    k ∈ (ks.take j).drop i ↔ k ∈ ks ∧ inSpan (lo, hi) k = true := by
  constructor
  · intro m
    have m1 := List.mem_of_mem_drop m
    have m2 : k ∈ ks.drop i := by
      have e : (ks.take j).drop i = (ks.drop i).take (j - i) := by rw [List.drop_take]
      rw [e] at m
      exact List.mem_of_mem_take m
    refine ⟨List.mem_of_mem_take m1, ?_⟩
    unfold inSpan
    cases lo with
    | none =>
      cases hi with
      | none => rfl
      | some u => have z := h3 k m1 u rfl; simp; omega
    | some l =>
      have y := h2 k m2 l rfl
      cases hi with
      | none => simp; omega
      | some u => have z := h3 k m1 u rfl; simp; omega
  · rintro ⟨m, s⟩
    obtain ⟨q, lq, eq⟩ := List.getElem_of_mem m
    have lo' : i ≤ q := by
      cases lo with
      | none => rw [h1' rfl]; exact Nat.zero_le _
      | some l =>
        by_cases c : i ≤ q
        · exact c
        · have z := h1 k (by rw [← eq]; exact List.mem_take_iff_getElem.mpr ⟨q, by omega, rfl⟩) l rfl
          unfold inSpan at s
          simp at s
          have := s.1
          omega
    have hi' : q < j := by
      cases hi with
      | none => rw [h4' rfl]; exact lq
      | some u =>
        by_cases c : q < j
        · exact c
        · have z := h4 k (by rw [← eq]; exact List.mem_drop_iff_getElem.mpr ⟨q - j, by omega, by congr 1; omega⟩) u rfl
          unfold inSpan at s
          simp at s
          have := s.2
          omega
    refine List.mem_drop_iff_getElem.mpr ⟨q - i, by rw [List.length_take]; omega, ?_⟩
    rw [List.getElem_take]
    rw [← eq]
    congr 1
    omega
section
variable {P : Program} {w : World} {K : PySem.W.Frag} {mg : Str → Option Value} {base : Heap}
theorem scKB : FnScope ["self", "low", "high", "begin", "end"] ["self", "low", "high"] (defScope s_Table__keys_between) := ⟨rfl, rfl, rfl, by decide +kernel, rfl, by decide +kernel, by decide +kernel⟩
theorem ok_kb {f CT CI fp : Addr} {fd fdp : FuncData} (F : Fun K "_keys_between" "Table._keys_between" s_Table__keys_between f fd) (T : Txt mg) (TT : TxtT K CT) (Cplace_in : Cal P w K mg base 1 "place_in" ["items", "item"] (spPlace K) fp fdp) : FnOk P w K mg base CX0 2 f fd ["self", "low", "high"] (spKB K CT CI) := by
  refine F.ok scKB (fun vs H Q E h => ?_) (fun cdv A outer s H vs Q E hr h => ?_)
  · obtain ⟨tb, lo, hi, c, m, rfl, _⟩ := h
    rfl
  · obtain ⟨tb, lo, hi, c, m, rfl, x, ok, kk⟩ := h
    have hr1 : Room 1 _ := hr
    obtain ⟨dx, ob⟩ := x.ob
    refine ⟨_, (pss_cons (ps_set (i := 3) scKB.nd rfl (Or.inl rfl) (pe_ifExp (pt_cmpR op_isN (pv 1) pe_non (nomark _)) pe_int (pe_call Cplace_in.G hr1 rfl Cplace_in.g Cplace_in.kp Cplace_in.b .nil pass0 (pa_cons (pe_fld (pv 0) rfl) (pa_cons (pv 1) pa_nil)))))
      (pss_cons (ps_set (i := 4) scKB.nd rfl (Or.inl rfl) (pe_ifExp (pt_cmpR op_isN (pv 2) pe_non (nomark _)) (pe_callB (RK.lenQ (K := K)) (by rfl) T.len PySem.boot_len (pa_cons (pe_fld (pv 0) rfl) pa_nil)) (pe_call Cplace_in.G hr1 rfl Cplace_in.g Cplace_in.kp Cplace_in.b .nil pass0 (pa_cons (pe_fld (pv 0) rfl) (pa_cons (pe_op op_add (pv 2) pe_int) pa_nil)))))
      (pss_one (ps_ret (pe_slice (RK.slL (K := K)) (pe_fld (pv 0) rfl) (po_some (pv 3)) (po_some (pv 4))))))), ?_⟩
    have lks : (c.ks.map V.int).length = c.ks.length := List.length_map ..
    have third : ∀ (i j : Nat), i ≤ c.ks.length → j ≤ c.ks.length → (∀ x ∈ c.ks.take i, ∀ l, lo = some l → x < l) → (lo = none → i = 0) → (∀ x ∈ c.ks.drop i, ∀ l, lo = some l → ¬ x < l) → (∀ x ∈ c.ks.take j, ∀ l, hi = some l → x < l + 1) → (∀ x ∈ c.ks.drop j, ∀ l, hi = some l → ¬ x < l + 1) → (hi = none → j = c.ks.length) →
        ∀ p, H p = none → Q (.ref p) (upd H p (.lst (cutV (c.ks.map V.int) (some (i : Int)) (some (j : Int))))) := fun i j li lj a1 a2 a3 a4 a5 a6 p hp => by
      have e : cutV (c.ks.map V.int) (some (i : Int)) (some (j : Int)) = ((c.ks.take j).drop i).map V.int := by
        rw [cut_eq (lks ▸ li) (lks ▸ lj), List.map_drop, List.map_take]
      rw [e]
      exact kk _ (mem_cut ok.up a1 a2 a3 a4 a5 a6) ((List.drop_sublist ..).trans (List.take_sublist ..)) p hp
    refine sa1 ?_
    refine teR (fun v H' => H' = H ∧ ∃ i : Nat, v = .int i ∧ i ≤ c.ks.length ∧ (∀ x ∈ c.ks.take i, ∀ l, lo = some l → x < l) ∧ (lo = none → i = 0) ∧ (∀ x ∈ c.ks.drop i, ∀ l, lo = some l → ¬ x < l)) ?_ (fun second => ?_)
    · rintro v H' ⟨rfl, i, rfl, li, a1, a2, a3⟩
      refine gn (sa1 ?_)
      refine ⟨_, rfl, rfl, _, rfl, ?_⟩
      cases hi with
      | none =>
        refine iteT ⟨_, rfl, tb, CT, dx, _, _, rfl, ob, TT.cl, TT.n4, lk4 c, c.ri, _, rfl, .inl (SqL.of x.ri), gn ?_⟩
        rw [lks]
        exact ⟨_, rfl, tb, CT, dx, _, _, rfl, ob, TT.cl, TT.n4, lk4 c, _, rfl, i, rfl, _, rfl, c.ks.length, rfl, c.ri, _, rfl, SqL.of x.ri, third i c.ks.length li (Nat.le_refl _) a1 a2 a3 (fun _ _ _ e => by cases e) (fun _ _ _ e => by cases e) fun _ => rfl⟩
      | some u =>
        refine iteF (te_place x ok TT rfl (fun Q' q => ⟨_, rfl, u, 1, rfl, rfl, q⟩) fun j lj b1 b2 => gn ?_)
        exact ⟨_, rfl, tb, CT, dx, _, _, rfl, ob, TT.cl, TT.n4, lk4 c, _, rfl, i, rfl, _, rfl, j, rfl, c.ri, _, rfl, SqL.of x.ri, third i j li lj a1 a2 a3 (fun x h l e => by injection e with e; subst e; exact b1 x h) (fun x h l e => by injection e with e; subst e; exact b2 x h) fun e => by cases e⟩
    · refine ⟨_, rfl, rfl, _, rfl, ?_⟩
      cases lo with
      | none => exact iteT (second _ _ ⟨rfl, 0, rfl, Nat.zero_le _, (fun x h => by simp at h), (fun _ => rfl), fun _ _ _ e => by cases e⟩)
      | some l => exact iteF (te_place x ok TT rfl (fun Q' q => ⟨_, rfl, q⟩) fun i li a1 a2 => second _ _ ⟨rfl, i, rfl, li, (fun x h l e => by injection e with e; subst e; exact a1 x h), (fun e => by cases e), fun x h l e => by injection e with e; subst e; exact a2 x h⟩)
end
end GS

set_option Elab.async false
set_option linter.all false
set_option maxRecDepth 100000
set_option maxHeartbeats 4000000
namespace LVS
open PySem PySem.Spec PyProof.Rows L2 HT
open PySem.W (KdlSrc)
theorem vals_at : ∀ {xs : List V} {us : List Value}, xs.length = us.length → (∀ (j : Nat) (u : Value) (x : V), us[j]? = some u → xs[j]? = some x → RelV x u) → Vals xs us
  | [], [], _, _ => .nil
  | x :: xs, u :: us, l, h => .cons (h 0 u x rfl rfl) (vals_at (by simpa using l) fun j u' x' e1 e2 => h (j + 1) u' x' (by simpa using e1) (by simpa using e2))
  | [], _ :: _, l, _ => by cases l
  | _ :: _, [], l, _ => by cases l
theorem pw_get {α β : Type} {R : α → β → Prop} : ∀ {xs : List α} {ys : List β} {i : Nat} {y : β}, Paired R xs ys → ys[i]? = some y → ∃ x, xs[i]? = some x ∧ R x y
  | _, _, i, y, .nil, e => by simp at e
  | _, _, 0, y, .cons h _, e => ⟨_, rfl, by simp at e; subst e; exact h⟩
  | _, _, i + 1, y, .cons _ r, e => pw_get (i := i) r (by simpa using e)
theorem pw_len {α β : Type} {R : α → β → Prop} : ∀ {xs : List α} {ys : List β}, Paired R xs ys → xs.length = ys.length
  | _, _, .nil => rfl
  | _, _, .cons _ r => by rw [List.length_cons, List.length_cons, pw_len r]
variable {X : Cx}
/-- list(o.values()) -/
def tListVals (td : TE) : TE := fun σ H Q => td σ H fun x H1 => ∃ a xs, x = V.ref a ∧ ((∃ kvs, H1 a = some (.dK kvs) ∧ kvs.map (·.2) = xs) ∨ ∃ kvs, H1 a = some (.dT kvs) ∧ kvs.map (·.2) = xs) ∧ ∀ p, H1 p = none → Q (.ref p) (upd H1 p (.lst xs))
variable {o : Expr} {p pos apos mpos : Pos} {td : TE}
theorem pe_listVals (hc : X.calm = true) (hg : Gl X "list") (hm : X.mg "list" = none) (hd : PE X o td) (hbase : attributeBase o "values" X.env (eval o X.env) = eval o X.env := by rfl) (hline : (apos.endLine == mpos.line) = true := by rfl)
    (na : starEach [Expr.Call (.Attribute o "values" apos) [] [] mpos] X.env = (false, eval (Expr.Call (.Attribute o "values" apos) [] [] mpos) X.env) :: starEach [] X.env := by rfl) :
    PE X (.Call (.Name "list" p) [.Call (.Attribute o "values" apos) [] [] mpos] [] pos) (tListVals td) := by
  refine ⟨fun pins s σ H Q I h => ?_⟩
  refine Call_ (ld_blt I hg hm boot_list (PyProof.Rows.callWith_type1 (args_cons (wpAny_Call_method0_late hbase hline (thn (hd.run pins s σ H _ I h) fun v s1 ⟨x, H1, I1, r1, a, xs, ex, hk, q⟩ => ?_)) na) na))
  subst ex
  obtain rfl : v = Value.ref a := r1
  have raw : (a == sysModules) = false ∧ ∃ es ep, s1.heap.DictRaw a es ep ∧ es.size = xs.length ∧ xs.length ≤ sizeLine ∧ ∀ i (hi : i < es.size) x, xs[i]? = some x → RelV x es[i].val := by
    rcases hk with ⟨kvs, ha, rfl⟩ | ⟨kvs, ha, rfl⟩
    · obtain ⟨hz, hsys, vs, rel, dof⟩ := dk_of I1.hok ha
      obtain ⟨es, ep, hr, hs, hv⟩ := dof.raw
      have lkv := KV.length rel
      refine ⟨hsys, es, ep, hr, by rw [hs, List.length_map, lkv], by rw [List.length_map]; exact hz, fun i hi x hx => ?_⟩
      have hi2 : i < vs.length := hs ▸ hi
      have e1 : vs[i]? = some (vs[i].1, vs[i].2) := List.getElem?_eq_getElem hi2
      obtain ⟨y, h1, h2⟩ := KV.at' rel e1
      have e2 := (hv i hi _ _ e1).2
      rw [List.getElem?_map, h1] at hx
      obtain rfl := Option.some.inj hx
      rw [e2]
      exact h2
    · obtain ⟨hz, hsys, ys, rel, dof⟩ := dt_of I1.hok ha
      obtain ⟨es, ep, hr, hs, hv⟩ := dof.raw
      have lkv := pw_len rel
      refine ⟨hsys, es, ep, hr, by rw [hs, List.length_map, lkv], by rw [List.length_map]; exact hz, fun i hi x hx => ?_⟩
      obtain ⟨y, h1, _, h2, _⟩ := hv i hi
      obtain ⟨z, h3, h4⟩ := pw_get rel h1
      rw [List.getElem?_map, h3] at hx
      obtain rfl := Option.some.inj hx
      rw [h2]
      exact h4.2.2
  obtain ⟨hsys, es, ep, hr, hsz, hl, hv⟩ := raw
  obtain ⟨ob, ho, ex, hdat⟩ := id hr
  refine ⟨"dict", "dict.values", F.plainAttrs_dict, F.slot_dict_values, F.type_dict_values, ⟨ob, ho, ex.1⟩, fun b e => ?_, Calls.callWith_builtin rfl (PySem.evalArgs_none ?_)⟩
  · cases e
    exact ⟨ob, ho, ex.2.1⟩
  refine call_meetsIn F.slot_dict_values ⟨ob, ho, ex.1⟩ F.entry_dict_values (F.args_dict_values_1 _) (meets_dict_values_raw a hsys) ⟨⟨es, ep, hr⟩, ?_⟩
  refine args_nil ?_
  have k1 : ∀ b u, s1.heap.get? b = some u → (s1.heap.push { cls := .type "dict_values", data := .fields #[.ref a] }).get? b = some u := fun b u e => Heap.get?_push_of_some _ e
  have hlt : a < s1.heap.objs.size := Heap.lt_size ho
  have I2 : Inv X pins σ H1 { s1 with heap := s1.heap.push { cls := .type "dict_values", data := .fields #[.ref a] } } := I1.kept (t' := s1.toks) k1
  refine W.kdl_call (s := { s1 with heap := s1.heap.push { cls := .type "dict_values", data := .fields #[.ref a] } }) (KdlSrc.rawValues (d := a) (es := es) (ep := ep)) (I.ok.hd hc) ⟨⟨_, Heap.get?_push_size _ rfl, rfl, rfl⟩, hr.at fun o e => k1 _ _ e⟩ (by omega) fun h' tk acc c' hk' hS hi => ?_
  have vals : Vals xs acc.toList := vals_at (hsz.symm.trans (hi.1.symm.trans (Array.length_toList ..).symm)) fun j u x e1 e2 => by
    rw [Array.getElem?_toList] at e1
    obtain ⟨hj, rfl⟩ := hi.2 j u e1
    exact hv j hj x e2
  refine ⟨.ref _, upd H1 _ (.lst xs), I2.laid (t' := tk) hk' (Nat.le_refl _) (show ObjOk X.prog X.w _ _ _ (.lst xs) from ⟨hl, acc.toList, c', vals, ?_⟩), rfl, q _ (I2.hok.fresh (Nat.le_refl _))⟩
  rw [Array.toArray_toList]
  exact hS
end LVS

set_option linter.all false
set_option maxHeartbeats 4000000
namespace GS
open PySem L2 HX
/-- all that was made behind a moment -/
def mbD (t : TD) (n : Int) : List Int := (t.num :: t.made.map (fun x => x.2)).filter fun x => decide (n < x)
def spMB (K : PySem.W.Frag) (CT CI : Addr) : Sp := fun vs H Q _ => ∃ (tb : Addr) (n : Int) (c : TC), vs = [.ref tb, .int n] ∧ TAt K CT CI H tb c ∧ c.made.length ≤ 100000 ∧
  ∀ p H', H p = none → Same H H' → H' p = some (.lst ((mbD c.dat n).map V.int)) → Q (.ref p) H'
def rIn (bs : List (Str × Span)) (fs : List Str) : Option Row → Bool
  | none => false
  | some ns => within bs fs ns
/-- of one key's versions those behind a moment that lie within bounds, or the one ahead of them -/
def wbC (n : Int) (bs : List (Str × Span)) (fs : List Str) : Option Row → List Ver → List Int
  | _, [] => []
  | b, x :: r => (if decide (n < x.1) && (rIn bs fs b || rIn bs fs x.2) then [x.1] else []) ++ wbC n bs fs x.2 r
def lastR (b : Option Row) (ch : List Ver) : Option Row := match ch.getLast? with
  | none => b
  | some x => x.2
theorem wbC_snoc (n : Int) (bs : List (Str × Span)) (fs : List Str) (x : Ver) : ∀ (ch : List Ver) (b : Option Row), wbC n bs fs b (ch ++ [x]) = wbC n bs fs b ch ++ (if decide (n < x.1) && (rIn bs fs (lastR b ch) || rIn bs fs x.2) then [x.1] else [])
  | [], b => by show _ ++ [] = [] ++ _; rw [List.append_nil, List.nil_append]; rfl
  | y :: ch, b => by
    show _ ++ wbC n bs fs y.2 (ch ++ [x]) = (_ ++ wbC n bs fs y.2 ch) ++ _
    rw [wbC_snoc n bs fs x ch y.2, List.append_assoc]
    congr 3
    unfold lastR
    cases ch with
    | nil => rfl
    | cons z ch => rw [List.getLast?_cons_cons]; rfl
theorem lastR_snoc (b : Option Row) (ch : List Ver) (x : Ver) : lastR b (ch ++ [x]) = x.2 := by unfold lastR; rw [List.getLast?_append]; rfl
theorem wbC_len (n : Int) (bs : List (Str × Span)) (fs : List Str) : ∀ (ch : List Ver) (b : Option Row), (wbC n bs fs b ch).length ≤ ch.length
  | [], _ => Nat.le_refl _
  | x :: r, b => by
    show (_ ++ wbC n bs fs x.2 r).length ≤ _
    rw [List.length_append, List.length_cons]
    have := wbC_len n bs fs r x.2
    split <;> simp <;> omega
def chainD (cl : List (Int × List Ver)) (k : Int) : List Ver := ((cl.find? fun x => decide (x.1 = k)).map fun x => x.2).getD []
def wbK (t : TD) (n : Int) (bs : List (Str × Span)) (ks : List Int) : List Int := ks.flatMap fun k => wbC n bs t.fields none (chainD t.cl k)
def keyB (bs : List (Str × Span)) (fs : List Str) : Span := (bs.lookup (fs.headD Str.empty)).getD (none, none)
def spWB (K : PySem.W.Frag) (CT CI : Addr) : Sp := fun vs H Q _ => ∃ (tb b : Addr) (n : Int) (c : TC) (m : Nat) (bs : List (Str × Span)), vs = [.ref tb, .int n, .ref b] ∧ TAt K CT CI H tb c ∧ c.Ok m ∧ m ≤ 100000 ∧ Wid c ∧ c.fields ≠ [] ∧ c.fields.length ≤ 4 ∧ c.fields.Nodup ∧ BdAt K H b bs ∧ (bs.map (·.1)).Nodup ∧
  ∀ (ks : List Int) p H', (∀ k, k ∈ ks ↔ k ∈ c.ks ∧ inSpan (keyB bs c.fields) k = true) → ks.Nodup → H p = none → Same H H' → H' p = some (.lst ((wbK c.dat n bs ks).map V.int)) → Q (.ref p) H'
section
variable {P : Program} {w : World} {K : PySem.W.Frag} {mg : Str → Option Value} {base : Heap}
theorem scMB : FnScope ["self", "number", "made"] ["self", "number"] (defScope s_Table_made_behind) := ⟨rfl, rfl, rfl, by decide +kernel, rfl, by decide +kernel, by decide +kernel⟩
theorem ok_mb {f CT CI : Addr} {fd : FuncData} (F : Fun K "made_behind" "Table.made_behind" s_Table_made_behind f fd) (T : Txt mg) (TT : TxtT K CT) : FnOk P w K mg base CX0 1 f fd ["self", "number"] (spMB K CT CI) := by
  refine F.ok scMB (fun vs H Q E h => ?_) (fun cdv A outer s H vs Q E hr h => ?_)
  · obtain ⟨tb, n, c, rfl, _⟩ := h
    rfl
  · obtain ⟨tb, n, c, rfl, x, few, kk⟩ := h
    have big : (100001 : Nat) < sizeLine := by decide
    refine ⟨_, (pss_one (ps_ret (pe_lc (own := [("made", 2)]) rfl scMB.nd (RK.piL (K := K) (pe_op op_cat (pe_lst (pa_cons (pe_fld (pv 0) rfl) pa_nil)) (LVS.pe_listVals rfl (by rfl) T.list (pe_fld (pv 0) rfl)))) (blkOk_by (N := ["self", "number", "made"]) (sc := defScope s_Table_made_behind) (by decide +kernel)) (fun _ _ _ _ _ => (pg_name (i := 2) scMB.nd rfl (Or.inl rfl))) (fun _ _ _ _ _ => (pts_one (pt_cmpR op_gt (pv 2) (pv 1) (nomark _)))) (fun _ _ _ _ _ => (pv 2))))), ?_⟩
    obtain ⟨dx, ob⟩ := x.ob
    refine ⟨_, rfl, tb, CT, dx, _, _, rfl, ob, TT.cl, TT.n1, lk1 c, (by show 1 ≤ sizeLine; decide), fun p1 hp1 => ?_⟩
    have s1 := same_new (o := .lst [V.int c.num]) hp1
    have h1 : (upd H p1 (.lst [V.int c.num])) p1 = some (.lst [V.int c.num]) := upd_same
    generalize upd H p1 (.lst [V.int c.num]) = H1 at s1 h1
    refine ⟨_, rfl, tb, CT, dx, _, _, rfl, s1 _ _ ob, TT.cl, TT.n6, lk6 c, c.md, c.made.map (fun x => V.int x.2), rfl, .inl ⟨mkv c.made, s1 _ _ x.md, by unfold mkv; rw [List.map_map]; rfl⟩, fun p2 hp2 => ?_⟩
    have s2 := same_new (o := .lst (c.made.map (fun x => V.int x.2))) hp2
    have h2 : (upd H1 p2 (.lst (c.made.map (fun x => V.int x.2)))) p2 = some (.lst (c.made.map (fun x => V.int x.2))) := upd_same
    generalize upd H1 p2 (.lst (c.made.map (fun x => V.int x.2))) = H2 at s2 h2
    have lt : [V.int c.num].length + (c.made.map (fun x => V.int x.2)).length ≤ 100001 := by rw [List.length_map]; show 1 + _ ≤ _; omega
    refine ⟨p1, p2, _, _, rfl, rfl, s2 _ _ h1, h2, Nat.le_of_lt (Nat.lt_of_le_of_lt lt big), fun p3 hp3 => ?_⟩
    have s3 := same_new (o := .lst ([V.int c.num] ++ c.made.map (fun x => V.int x.2))) hp3
    have h3 : (upd H2 p3 (.lst ([V.int c.num] ++ c.made.map (fun x => V.int x.2)))) p3 = some (.lst ([V.int c.num] ++ c.made.map (fun x => V.int x.2))) := upd_same
    generalize upd H2 p3 (.lst ([V.int c.num] ++ c.made.map (fun x => V.int x.2))) = H3 at s3 h3
    have sa : Same H H3 := (s1.trans s2).trans s3
    have eall : [V.int c.num] ++ c.made.map (fun x => V.int x.2) = (c.num :: c.made.map (fun x => x.2)).map V.int := by rw [List.map_cons, List.map_map]; rfl
    rw [eall] at h3
    have lall : ((c.num :: c.made.map (fun x => x.2)).map V.int).length = (c.num :: c.made.map (fun x => x.2)).length := List.length_map ..
    have lall2 : (c.num :: c.made.map (fun x => x.2)).length ≤ 100001 := by rw [List.length_cons, List.length_map]; omega
    have mb : mbD c.dat n = (c.num :: c.made.map (fun x => x.2)).filter fun x => decide (n < x) := rfl
    rw [mb] at kk
    generalize c.num :: c.made.map (fun x => x.2) = all at h3 lall lall2 kk
    refine ⟨p3, rfl, ⟨_, SqL.of h3⟩, fun D hD => ?_⟩
    have nD : ∀ b o, H3 b = some o → b ≠ D := fun b o e => ne_of_none e hD
    refine lc_it (walk_list (xs := all.map V.int)) (fun i H' => (∀ b o, b ≠ D → H3 b = some o → H' b = some o) ∧ H' D = some (.lst (((all.take i).filter fun x => decide (n < x)).map V.int)))
      ⟨fun b o nb e => by rw [upd_ne nb]; exact e, upd_same⟩ (fun i H' _ q => SqL.of (q.1 _ _ (nD _ _ h3) h3)) ?_ ?_
    · rintro i y H0 H' hi ⟨kp, hd⟩ ⟨rfl, ey⟩
      rw [List.getElem?_map] at ey
      cases ev : all[i]? with
      | none => rw [ev] at ey; cases ey
      | some v =>
        rw [ev] at ey
        obtain rfl := Option.some.inj ey
        have tk : (all.take (i + 1)).filter (fun x => decide (n < x)) = (all.take i).filter (fun x => decide (n < x)) ++ if decide (n < v) then [v] else [] := by
          rw [List.take_add_one, ev, List.filter_append]
          show _ ++ List.filter _ [v] = _
          rw [List.filter_cons]
          rfl
        refine ⟨rfl, _, rfl, _, rfl, v, n, rfl, rfl, _, rfl, ?_⟩
        dsimp only
        by_cases cc : n < v
        · rw [decide_eq_true cc]
          refine iteT ⟨_, rfl, _, hd, ?_, fun b o nb e => by rw [upd_ne nb]; exact kp b o nb e, ?_⟩
          · rw [List.length_map]
            have z := List.length_filter_le (fun x => decide (n < x)) (all.take i)
            have z2 := List.length_take_le i all
            have z3 : i < all.length := lall ▸ hi
            exact Nat.lt_of_le_of_lt (show _ ≤ 100001 by rw [List.length_take] at z; omega) big
          · rw [upd_same, tk, if_pos (decide_eq_true cc), List.map_append]
            rfl
        · rw [decide_eq_false cc]
          refine iteF ⟨kp, ?_⟩
          rw [hd, tk, if_neg (by simpa using cc), List.append_nil]
    · rintro H' ⟨kp, hd⟩
      rw [lall, List.take_length] at hd
      exact kk D H' (none_of_same sa hD) (fun b o e => kp b o (ne_of_none e (none_of_same sa hD)) (sa b o e)) hd
end
end GS

set_option linter.all false
set_option maxHeartbeats 4000000
namespace GS
open PySem L2 HX
section
variable {P : Program} {w : World} {K : PySem.W.Frag} {mg : Str → Option Value} {base : Heap}
theorem BdAt.same {H H' : Hp} {b : Addr} {bs : List (Str × Span)} (s : Same H H') (h : BdAt K H b bs) : BdAt K H' b bs := KeepN.d (KeepN.of s) h
/-- the reading of is_in -/
theorem te_in {tb b : Addr} {H : Hp} {c : TC} {CT CI : Addr} {i : Nat} {rv : V} {row : Option Row} {bs : List (Str × Span)} {σ : L2.St} {Q : VK} {E : XK} (TT : TxtT K CT) (x : TAt K CT CI H tb c) (h0 : σ[0]? = some (some (.ref tb))) (hi : σ[i]? = some (some rv)) (h2 : σ[2]? = some (some (.ref b))) (hr : RowAt H row rv) (wid : ∀ ns, row = some ns → ns.length = c.fields.length) (l4 : c.fields.length ≤ 4) (nd : c.fields.Nodup) (bd : BdAt K H b bs) (nb : (bs.map (·.1)).Nodup)
    (k : ∀ H', Same H H' → Q (.bl (rIn bs c.fields row)) H') : tCall (spIsIn K) [] E (tCons (tVar i) (tCons (tFld K (tVar 0) "fields") (tCons (tVar 2) tNil))) σ H Q := by
  obtain ⟨dx, ob⟩ := x.ob
  refine ⟨_, hi, _, h0, tb, CT, dx, _, _, rfl, ob, TT.cl, TT.n2, lk2 c, _, h2, ?_⟩
  cases row with
  | none =>
    obtain rfl : rv = .non := hr
    exact .inr ⟨c.tf, b, rfl, k⟩
  | some ns =>
    obtain ⟨q, rfl, hq⟩ := hr
    exact .inl ⟨q, c.tf, b, c.fields, ns, bs, rfl, SqT.of hq, x.tf.sq, wid ns rfl, l4, nd, bd, nb, k⟩
theorem chain_of {c : TC} {y : Chn} (hy : y ∈ c.cl) (nd : (c.cl.map (fun x => x.1)).Nodup) : chainD c.dat.cl y.1 = y.2.2 := by
  have e : c.dat.cl.find? (fun x => decide (x.1 = y.1)) = some (y.1, y.2.2) := by
    have m : (y.1, y.2.2) ∈ c.dat.cl := List.mem_map.mpr ⟨y, hy, rfl⟩
    cases f : c.dat.cl.find? (fun x => decide (x.1 = y.1)) with
    | none =>
      have z := List.find?_eq_none.mp f _ m
      simp at z
    | some z =>
      have mz := List.mem_of_find?_eq_some f
      have ez : z.1 = y.1 := by simpa using List.find?_some f
      have nd2 : (c.dat.cl.map (fun x => x.1)).Nodup := by rw [keys_dat]; exact nd
      rw [nodup_inj nd2 mz m ez]
  unfold chainD
  rw [e]
  rfl
theorem scWB : FnScope ["self", "number", "bounds", "low", "high", "found", "key", "before", "made", "row"] ["self", "number", "bounds"] (defScope s_Table_written_behind) := ⟨rfl, rfl, rfl, by decide +kernel, rfl, by decide +kernel, by decide +kernel⟩
theorem wbK_len (t : TD) (n : Int) (bs : List (Str × Span)) : ∀ ks : List Int, ks.Nodup → (wbK t n bs ks).length ≤ (t.cl.map fun x => x.2.length).sum := by
  intro ks nd
  unfold wbK
  rw [List.length_flatMap]
  have h1 : (ks.map fun k => (wbC n bs t.fields none (chainD t.cl k)).length).sum ≤ (ks.map fun k => (chainD t.cl k).length).sum := by
    clear nd
    induction ks with
    | nil => exact Nat.le_refl _
    | cons k ks ih =>
      rw [List.map_cons, List.map_cons, List.sum_cons, List.sum_cons]
      exact Nat.add_le_add (wbC_len ..) ih
  refine Nat.le_trans h1 ?_
  clear h1
  generalize t.cl = cl
  induction cl generalizing ks with
  | nil =>
    have z : ∀ ks : List Int, (ks.map fun k => (chainD [] k).length).sum = 0 := fun ks => by
      induction ks with
      | nil => rfl
      | cons k ks ih => rw [List.map_cons, List.sum_cons, ih]; rfl
    rw [z]
    exact Nat.zero_le _
  | cons y cl ih =>
    have e : ∀ k, k ≠ y.1 → chainD (y :: cl) k = chainD cl k := fun k h => by
      unfold chainD
      rw [List.find?_cons_of_neg (by simpa using fun z => h z.symm)]
    have ey : chainD (y :: cl) y.1 = y.2 := by
      unfold chainD
      rw [List.find?_cons_of_pos (by simp)]
      rfl
    rw [List.map_cons, List.sum_cons]
    by_cases m : y.1 ∈ ks
    · have p := List.perm_cons_erase m
      have q : (ks.map fun k => (chainD (y :: cl) k).length).sum = ((y.1 :: ks.erase y.1).map fun k => (chainD (y :: cl) k).length).sum := (p.map _).sum_nat
      rw [q, List.map_cons, List.sum_cons, ey]
      have nd2 : (ks.erase y.1).Nodup := nd.erase _
      have ne : ∀ k ∈ ks.erase y.1, (chainD (y :: cl) k).length = (chainD cl k).length := fun k hk => by
        rw [e k fun z => by rw [z] at hk; exact (List.Nodup.not_mem_erase nd) hk]
      rw [List.map_congr_left ne]
      exact Nat.add_le_add_left (ih _ nd2) _
    · have ne : ∀ k ∈ ks, (chainD (y :: cl) k).length = (chainD cl k).length := fun k hk => by
        rw [e k fun z => m (z ▸ hk)]
      rw [List.map_congr_left ne]
      exact Nat.le_trans (ih _ nd) (Nat.le_add_left _ _)
theorem ok_wb {f CT CI fk fi : Addr} {fd fdk fdi : FuncData} (F : Fun K "written_behind" "Table.written_behind" s_Table_written_behind f fd) (T : Txt mg) (TT : TxtT K CT) (Ckb : CalM P w K mg base 2 CT "_keys_between" ["self", "low", "high"] (spKB K CT CI) fk fdk) (Cis_in : Cal P w K mg base 3 "is_in" ["row", "fields", "bounds"] (spIsIn K) fi fdi) : FnOk P w K mg base CX0 4 f fd ["self", "number", "bounds"] (spWB K CT CI) := by
  refine F.ok scWB (fun vs H Q E h => ?_) (fun cdv A outer s H vs Q E hr h => ?_)
  · obtain ⟨tb, b, n, c, m, bs, rfl, _⟩ := h
    rfl
  · obtain ⟨tb, b, n, c, m, bs, rfl, x, ok, few, wid, nf, l4, nd, bd, nb, kk⟩ := h
    have hr1 : Room 3 _ := hr
    have hr2 : Room 2 _ := hr1.mono (by decide)
    have big : (200001 : Nat) < sizeLine := by decide
    refine ⟨_, (pss_cons (ps_asg (pe_dget2 (hu_of hr) (pv 2) (pe_ix (RK.ixT (K := K)) (pe_fld (pv 0) rfl) pe_int (fun _ _ => rfl)) (pe_tup (pa_cons pe_non (pa_cons pe_non pa_nil))) ⟨rfl, rfl, rfl, rfl⟩) (RK.pgTup (K := K) (n := 2) rfl (pgs_cons (pg_name (i := 3) scWB.nd rfl (Or.inl rfl)) (pgs_cons (pg_name (i := 4) scWB.nd rfl (Or.inl rfl)) pgs_nil))))
      (pss_cons (ps_set (i := 5) scWB.nd rfl (Or.inl rfl) (pe_lst pa_nil))
      (pss_cons (ps_for PassesOwn.never rfl (RK.piL (K := K) (pe_meth (pv 0) TT.cl Ckb.mt Ckb.G hr2 Ckb.b .nil pass0 (pa_cons (pv 3) (pa_cons (pv 4) pa_nil)))) (pg_name (i := 6) scWB.nd rfl (Or.inl rfl))
        (pss_cons (ps_set (i := 7) scWB.nd rfl (Or.inl rfl) pe_non)
        (pss_one (ps_for PassesOwn.never rfl (RK.piL (K := K) (pe_dget (hu_of hr) (pe_fld (pv 0) rfl) (pv 6) (fun _ _ => rfl))) (RK.pgTup (K := K) (n := 2) rfl (pgs_cons (pg_name (i := 8) scWB.nd rfl (Or.inl rfl)) (pgs_cons (pg_name (i := 9) scWB.nd rfl (Or.inl rfl)) pgs_nil)))
          (pss_cons (ps_if (PW.pt (pw_and (pt_cmpR op_gt (pv 8) (pv 1) (nomark _)) (pw_and1 (PW.pt (pw_or (pt_val (pe_call Cis_in.G hr1 rfl Cis_in.g Cis_in.kp Cis_in.b .nil pass0 (pa_cons (pv 7) (pa_cons (pe_fld (pv 0) rfl) (pa_cons (pv 2) pa_nil))))) (pw_or1 (pt_val (pe_call Cis_in.G hr1 rfl Cis_in.g Cis_in.kp Cis_in.b .nil pass0 (pa_cons (pv 9) (pa_cons (pe_fld (pv 0) rfl) (pa_cons (pv 2) pa_nil))))))))))) (pss_one (ps_expr (pe_bm PySem.F.plainAttrs_list PySem.F.slot_list_append PySem.F.type_list_append mt_append (pv 5) (pa_cons (pv 8) pa_nil)))) pss_nil)
          (pss_one (ps_set (i := 7) scWB.nd rfl (Or.inl rfl) (pv 9))))))))
      (pss_one (ps_ret (pv 5)))))), ?_⟩
    obtain ⟨dx, ob⟩ := x.ob
    obtain ⟨f0, fr, ef⟩ : ∃ f0 fr, c.fields = f0 :: fr := by
      cases e : c.fields with
      | nil => exact absurd e nf
      | cons a l => exact ⟨a, l, rfl⟩
    have kb : keyB bs c.fields = (bs.lookup f0).getD (none, none) := by unfold keyB; rw [ef]; rfl
    obtain ⟨kvs, hb, pr⟩ := id bd
    have at0' : atI (c.fields.map V.str) 0 = some (.str f0) := by rw [ef]; exact at0
    refine sa1 ?_
    refine ⟨_, rfl, b, rfl, .inl ⟨kvs, .inl hb⟩, _, rfl, tb, CT, dx, _, _, rfl, ob, TT.cl, TT.n2, lk2 c, c.tf, _, 0, _, rfl, rfl, x.tf.sq, at0', (by show 2 ≤ sizeLine; decide), fun p hp => ?_⟩
    have s1 := same_new (o := .tup [.non, .non]) hp
    have hpt : (upd H p (.tup [.non, .non])) p = some (.tup [.non, .non]) := upd_same
    generalize upd H p (.tup [.non, .non]) = H1 at s1 hpt
    refine ⟨valV kvs (Sum.inr f0), .inl ⟨kvs, Sum.inr f0, .inl (s1 _ _ hb), rfl, rfl⟩, ?_⟩
    have key : ∃ u, (valV kvs (Sum.inr f0)).getD (.ref p) = .ref u ∧ SqT K H1 u [oV (keyB bs c.fields).1, oV (keyB bs c.fields).2] := by
      rw [kb]
      rcases look_bd f0 pr with ⟨z1, z2⟩ | ⟨sp, u, z1, z2, hu⟩
      · exact ⟨p, by rw [z2]; rfl, by rw [z1]; exact SqT.of hpt⟩
      · exact ⟨u, by rw [z2]; rfl, by rw [z1]; exact sqt_keep (TK.same s1) hu⟩
    obtain ⟨u, z1, hu⟩ := key
    rw [z1]
    refine ⟨u, _, rfl, hu, rfl, _, _, rfl, _, _, rfl, rfl, ?_⟩
    generalize keyB bs c.fields = sp0 at kk
    obtain ⟨lo, hi⟩ := sp0
    refine sa1 ⟨by show 0 ≤ sizeLine; decide, fun fo hfo => gn ?_⟩
    have s2 := same_new (o := .lst []) hfo
    have hfo2 : (upd H1 fo (.lst [])) fo = some (.lst []) := upd_same
    have nfo : H fo = none := none_of_same s1 hfo
    generalize upd H1 fo (.lst []) = H2 at s2 hfo2
    have s12 := s1.trans s2
    have x2 := x.same s12
    have lkk : (tfl c).lookup ("_keys_between" : Str) = none := lk_no c (by decide +kernel)
    refine ⟨_, rfl, tb, dx, _, rfl, s12 _ _ ob, lkk, _, rfl, _, rfl, tb, lo, hi, c, m, rfl, x2, ok, fun ks mem sub p2 hp2 => ?_⟩
    have s3 := same_new (o := .lst (ks.map V.int)) hp2
    have hp3 : (upd H2 p2 (.lst (ks.map V.int))) p2 = some (.lst (ks.map V.int)) := upd_same
    have hfo3 := s3 _ _ hfo2
    have np2 : p2 ≠ fo := fun e => by rw [e, hfo2] at hp2; cases hp2
    generalize upd H2 p2 (.lst (ks.map V.int)) = H3 at s3 hp3 hfo3
    have s13 : Same H H3 := s12.trans s3
    refine ⟨p2, rfl, ⟨_, SqL.of hp3⟩, ?_⟩
    have lks : (ks.map V.int).length = ks.length := List.length_map ..
    have ndk : ks.Nodup := (List.Pairwise.imp (fun {a b} (h : a < b) e => by omega) ok.up).sublist sub
    have tot : ∀ i, (wbK c.dat n bs (ks.take i)).length ≤ m := fun i => by
      have z := wbK_len c.dat n bs (ks.take i) (ndk.sublist (List.take_sublist ..))
      have a2 := ok.n2
      have a3 : (c.cl.map fun x => x.2.2.length) = c.dat.cl.map fun x => x.2.length := by
        show _ = (c.cl.map _).map _
        rw [List.map_map]; rfl
      rw [a3] at a2
      omega
    refine for_it (walk_list (xs := ks.map V.int)) (fun i σ H' => ∃ v6 v7 v8 v9, σ = [some (.ref tb), some (.int n), some (.ref b), some (oV lo), some (oV hi), some (.ref fo), v6, v7, v8, v9] ∧ (∀ b o, b ≠ fo → H3 b = some o → H' b = some o) ∧ H' fo = some (.lst ((wbK c.dat n bs (ks.take i)).map V.int)))
      ⟨none, none, none, none, rfl, fun b o _ e => e, hfo3⟩ (fun i σ H' _ ⟨_, _, _, _, _, q, _⟩ => SqL.of (q _ _ np2 hp3)) ?_ ?_
    · rintro i y σ Ha H' hi' ⟨v6, v7, v8, v9, rfl, kp, hf⟩ ⟨rfl, ey⟩
      rw [List.getElem?_map] at ey
      cases ek : ks[i]? with
      | none => rw [ek] at ey; cases ey
      | some k =>
        rw [ek] at ey
        obtain rfl := Option.some.inj ey
        have mk : k ∈ c.ks := ((mem k).mp (List.mem_of_getElem? ek)).1
        obtain ⟨ch, hch, rfl⟩ := List.mem_map.mp ((ok.km k).mp mk)
        have kpH : ∀ b o, H b = some o → H' b = some o := fun b o e => kp b o (ne_of_none e nfo) (s13 b o e)
        have ev : valV (ckv c.cl) (Sum.inl ch.1) = some (.ref ch.2.1) := by
          rcases key_cases c ch.1 with ⟨y, hy, e1, e2⟩ | ⟨e1, _⟩
          · rw [nodup_inj ok.kd hy hch e1] at e2; exact e2
          · exact absurd (List.mem_map.mpr ⟨ch, hch, rfl⟩) e1
        obtain ⟨vs, hv, pw⟩ := x.cv ch hch
        have stepK : wbK c.dat n bs (ks.take (i + 1)) = wbK c.dat n bs (ks.take i) ++ wbC n bs c.fields none ch.2.2 := by
          unfold wbK
          rw [List.take_add_one, ek, List.flatMap_append]
          show _ ++ List.flatMap _ [ch.1] = _
          rw [List.flatMap_cons, List.flatMap_nil, List.append_nil, chain_of hch ok.kd]
          rfl
        have lenv := pw_len pw
        have totK := tot (i + 1)
        rw [stepK, List.length_append] at totK
        refine gn ?_
        refine sa1 (gn ?_)
        refine ⟨_, rfl, tb, CT, dx, _, _, rfl, kpH _ _ ob, TT.cl, TT.n3, lk3 c, _, rfl, c.ch, .ref ch.2.1, rfl, ev ▸ DGet.k (k := Sum.inl ch.1) (kpH _ _ x.ch), ch.2.1, rfl, ⟨_, SqL.of (kpH _ _ hv)⟩, ?_⟩
        refine for_it (walk_list (xs := vs)) (fun j σ H' => ∃ v7 v8 v9, σ = [some (.ref tb), some (.int n), some (.ref b), some (oV lo), some (oV hi), some (.ref fo), some (.int ch.1), some v7, v8, v9] ∧ RowAt H (lastR none (ch.2.2.take j)) v7 ∧ (∀ b o, b ≠ fo → H3 b = some o → H' b = some o) ∧ H' fo = some (.lst ((wbK c.dat n bs (ks.take i) ++ wbC n bs c.fields none (ch.2.2.take j)).map V.int)))
          ⟨.non, v8, v9, rfl, rfl, kp, by show _ = some (HO.lst ((_ ++ []).map _)); rw [List.append_nil]; exact hf⟩ (fun j σ H' _ ⟨_, _, _, _, _, q, _⟩ => SqL.of (q _ _ (ne_of_none hv nfo) (s13 _ _ hv))) ?_ ?_
        · rintro j y σ Hb H'' hj ⟨v7, v8, v9, rfl, hr7, kp, hf⟩ ⟨rfl, ex⟩
          obtain ⟨ver, ev2, t, rv, rfl, h1, h2⟩ := pw_get pw ex
          have kpH : ∀ b o, H b = some o → H'' b = some o := fun b o e => kp b o (ne_of_none e nfo) (s13 b o e)
          have sH : Same H H'' := kpH
          have mv : ver ∈ ch.2.2 := List.mem_of_getElem? ev2
          have stepC : wbC n bs c.fields none (ch.2.2.take (j + 1)) = wbC n bs c.fields none (ch.2.2.take j) ++ if decide (n < ver.1) && (rIn bs c.fields (lastR none (ch.2.2.take j)) || rIn bs c.fields ver.2) then [ver.1] else [] := by
            rw [List.take_add_one, ev2]
            exact wbC_snoc ..
          have stepL : lastR none (ch.2.2.take (j + 1)) = ver.2 := by
            rw [List.take_add_one, ev2]
            exact lastR_snoc ..
          have lenC := wbC_len n bs c.fields (ch.2.2.take j) none
          have lt := List.length_take_le' j ch.2.2
          have lch : ch.2.2.length ≤ m := Nat.le_trans (le_sum (List.mem_map_of_mem (f := fun x : Chn => x.2.2.length) hch)) ok.n2
          have wl : ∀ ns, lastR none (ch.2.2.take j) = some ns → ns.length = c.fields.length := fun ns e => by
            unfold lastR at e
            cases g : (ch.2.2.take j).getLast? with
            | none => rw [g] at e; cases e
            | some z =>
              rw [g] at e
              exact wid ch hch z (List.mem_of_mem_take (List.mem_of_getLast? g)) ns e
          have fin : ∀ (bb : Bool) (Hc : Hp), bb = (decide (n < ver.1) && (rIn bs c.fields (lastR none (ch.2.2.take j)) || rIn bs c.fields ver.2)) → Same H'' Hc → ∀ Hd, (bb = true → Hd = upd Hc fo (.lst ((wbK c.dat n bs (ks.take i) ++ wbC n bs c.fields none (ch.2.2.take j)).map V.int ++ [.int ver.1]))) → (bb = false → Hd = Hc) →
              (∀ b o, b ≠ fo → H3 b = some o → Hd b = some o) ∧ Hd fo = some (.lst ((wbK c.dat n bs (ks.take i) ++ wbC n bs c.fields none (ch.2.2.take (j + 1))).map V.int)) := fun bb Hc eb sc Hd e1 e2 => by
            rw [stepC, ← eb]
            cases bb with
            | true =>
              rw [e1 rfl]
              refine ⟨fun b o nb e => by rw [upd_ne nb]; exact sc _ _ (kp b o nb e), ?_⟩
              rw [upd_same, if_pos rfl, ← List.append_assoc, List.map_append (l₂ := [ver.1])]
              rfl
            | false =>
              rw [e2 rfl]
              refine ⟨fun b o nb e => sc _ _ (kp b o nb e), ?_⟩
              rw [if_neg (by decide), List.append_nil]
              exact sc _ _ hf
          refine ⟨t, _, rfl, SqT.of (kpH _ _ h1), rfl, _, _, rfl, _, _, rfl, rfl, ?_⟩
          refine sifR (fun σ' H' => σ' = [some (.ref tb), some (.int n), some (.ref b), some (oV lo), some (oV hi), some (.ref fo), some (.int ch.1), some v7, some (.int ver.1), some rv] ∧ (∀ b o, b ≠ fo → H3 b = some o → H' b = some o) ∧ H' fo = some (.lst ((wbK c.dat n bs (ks.take i) ++ wbC n bs c.fields none (ch.2.2.take (j + 1))).map V.int))) ?_ (fun rest => ?_)
          · rintro σ1 Hc ⟨rfl, kp1, hf1⟩
            exact ⟨_, rfl, gn ⟨rv, _, _, rfl, by rw [stepL]; exact h2, kp1, hf1⟩⟩
          · refine ⟨_, rfl, _, rfl, ver.1, n, rfl, rfl, _, rfl, ?_⟩
            by_cases c1 : ver.1 > n
            · rw [decide_eq_true c1]
              have d1 : decide (n < ver.1) = true := decide_eq_true c1
              refine iteT ?_
              refine te_in TT (x.same sH) rfl rfl rfl (hr7.keep (TK.same sH)) wl l4 nd (BdAt.same sH bd) nb fun Hc sc => ?_
              cases c2 : rIn bs c.fields (lastR none (ch.2.2.take j)) with
              | true =>
                refine ⟨_, rfl, iteT ⟨_, rfl, .inl ⟨rfl, _, SqL.of (sc _ _ hf)⟩, _, rfl, _, _, _, rfl, rfl, sc _ _ hf, ?_, ?_⟩⟩
                · rw [List.length_map, List.length_append]
                  exact Nat.lt_of_le_of_lt (show _ ≤ 200001 by have z := tot i; omega) big
                · obtain ⟨q1, q2⟩ := fin true Hc (by rw [c2, d1]; rfl) sc _ (fun _ => rfl) (fun z => by cases z)
                  exact rest _ _ ⟨rfl, q1, q2⟩
              | false =>
                refine ⟨_, rfl, iteF ?_⟩
                refine te_in TT ((x.same sH).same sc) rfl rfl rfl (h2.keep (TK.same (sH.trans sc))) (wid ch hch ver mv) l4 nd (BdAt.same (sH.trans sc) bd) nb fun Hd sd => ?_
                cases c3 : rIn bs c.fields ver.2 with
                | true =>
                  refine ⟨_, rfl, iteT ⟨_, rfl, .inl ⟨rfl, _, SqL.of ((sc.trans sd) _ _ hf)⟩, _, rfl, _, _, _, rfl, rfl, (sc.trans sd) _ _ hf, ?_, ?_⟩⟩
                  · rw [List.length_map, List.length_append]
                    exact Nat.lt_of_le_of_lt (show _ ≤ 200001 by have z := tot i; omega) big
                  · obtain ⟨q1, q2⟩ := fin true Hd (by rw [c2, c3, d1]; rfl) (sc.trans sd) _ (fun _ => rfl) (fun z => by cases z)
                    exact rest _ _ ⟨rfl, q1, q2⟩
                | false =>
                  obtain ⟨q1, q2⟩ := fin false Hd (by rw [c2, c3, d1]; rfl) (sc.trans sd) _ (fun z => by cases z) (fun _ => rfl)
                  exact ⟨_, rfl, iteF (rest _ _ ⟨rfl, q1, q2⟩)⟩
            · rw [decide_eq_false c1]
              obtain ⟨q1, q2⟩ := fin false H'' (by rw [decide_eq_false (show ¬ n < ver.1 from c1)]; rfl) (fun b o e => e) _ (fun z => by cases z) (fun _ => rfl)
              exact iteF (rest _ _ ⟨rfl, q1, q2⟩)
        · rintro σ Hb ⟨v7, v8, v9, rfl, _, kp, hf⟩
          rw [← lenv, List.take_length, ← stepK] at hf
          exact ⟨_, _, _, _, rfl, kp, hf⟩
    · rintro σ Ha ⟨v6, v7, v8, v9, rfl, kp, hf⟩
      rw [lks, List.take_length] at hf
      exact ⟨_, rfl, kk ks fo Ha mem ndk nfo (fun b o e => kp b o (ne_of_none e nfo) (s13 b o e)) hf⟩
end
end GS

set_option linter.all false
set_option maxHeartbeats 4000000
namespace GS
open PySem L2 HX
/-! ### the store -/
abbrev Tbn := Str × Addr × TC
structure SC where
  first : Int
  newest : Int
  td : Addr
  mo : Addr
  tabs : List Tbn
  moms : List (Int × Int)
def skv (ts : List Tbn) : List (Key × V) := ts.map fun t => (Sum.inr t.1, V.ref t.2.1)
def mokv (ms : List (Int × Int)) : List (Key × V) := ms.map fun m => (Sum.inl m.1, V.int m.2)
abbrev tfp (t : Tbn) : List Addr := t.2.2.fp t.2.1
def sfp (sc : SC) (st : Addr) : List Addr := st :: sc.td :: sc.mo :: sc.tabs.flatMap tfp
structure Sfl (sc : SC) (fs : List (Str × V)) : Prop where
  len : fs.length ≤ 10
  l1 : fs.lookup ("first" : Str) = some (.int sc.first)
  l2 : fs.lookup ("newest" : Str) = some (.int sc.newest)
  l3 : fs.lookup ("_tables" : Str) = some (.ref sc.td)
  l4 : fs.lookup ("_moments" : Str) = some (.ref sc.mo)
  no : ∀ m : Str, m ≠ "first" → m ≠ "newest" → m ≠ "_tables" → m ≠ "_moments" → fs.lookup m = none
structure SAt (K : PySem.W.Frag) (CS CT CI : Addr) (H : Hp) (st : Addr) (sc : SC) : Prop where
  ob : ∃ dx fs, H st = some (.ins CS dx fs) ∧ Sfl sc fs
  td : H sc.td = some (.dK (skv sc.tabs))
  mo : H sc.mo = some (.dK (mokv sc.moms))
  tv : ∀ t ∈ sc.tabs, TAt K CT CI H t.2.1 t.2.2
  s1 : st ≠ sc.td ∧ st ≠ sc.mo ∧ sc.td ≠ sc.mo
  sp : ∀ t ∈ sc.tabs, st ∉ tfp t ∧ sc.td ∉ tfp t ∧ sc.mo ∉ tfp t
  pd : sc.tabs.Pairwise fun t u => t.1 ≠ u.1 ∧ ∀ b ∈ tfp t, b ∉ tfp u
structure SD where
  first : Int
  newest : Int
  tabs : List (Str × TD)
  moms : List (Int × Int)
def SC.dat (s : SC) : SD := ⟨s.first, s.newest, s.tabs.map fun t => (t.1, t.2.2.dat), s.moms⟩
structure TDok (t : TD) : Prop where
  nf : t.fields ≠ []
  l4 : t.fields.length ≤ 4
  fn : t.fields.Nodup
  wd : ∀ x ∈ t.cl, ∀ v ∈ x.2, ∀ ns, v.2 = some ns → ns.length = t.fields.length
  mi : t.made.map (fun x => x.1) = t.il.map (fun x => x.1)
structure SC.Ok (sc : SC) (m : Nat) : Prop where
  few : sc.tabs.length ≤ 8
  ok : ∀ t ∈ sc.tabs, t.2.2.Ok m
  td : ∀ t ∈ sc.tabs, TDok t.2.2.dat
theorem wid_of {c : TC} (h : TDok c.dat) : Wid c := fun x hx v hv ns e => h.wd (x.1, x.2.2) (List.mem_map.mpr ⟨x, hx, rfl⟩) v hv ns e
structure SMid (K : PySem.W.Frag) (CS CT CI : Addr) (st : Addr) (sc : SC) (H H1 : Hp) (sc1 : SC) (m : Nat) (d : SD) : Prop where
  at_ : SAt K CS CT CI H1 st sc1
  ok : sc1.Ok m
  dat : sc1.dat = d
  fp : ∀ b ∈ sfp sc1 st, b ∈ sfp sc st ∨ H b = none
  kf : KF (sfp sc st) H H1
theorem sfp_mem {sc : SC} {st b : Addr} : b ∈ sfp sc st ↔ b = st ∨ b = sc.td ∨ b = sc.mo ∨ ∃ t ∈ sc.tabs, b ∈ tfp t := by
  unfold sfp
  simp only [List.mem_cons, List.mem_flatMap]
theorem SAt.notup {K : PySem.W.Frag} {CS CT CI : Addr} {H : Hp} {st : Addr} {sc : SC} (x : SAt K CS CT CI H st sc) {b : Addr} (hb : b ∈ sfp sc st) : ∃ o, H b = some o ∧ ¬ TupO o := by
  rcases sfp_mem.mp hb with h | h | h | ⟨t, ht, h⟩
  · obtain ⟨dx, fs, ob, _⟩ := x.ob
    exact ⟨_, h ▸ ob, by intro z; exact z⟩
  · exact ⟨_, h ▸ x.td, by intro z; exact z⟩
  · exact ⟨_, h ▸ x.mo, by intro z; exact z⟩
  · exact (x.tv t ht).notup h
theorem KF.tkS {K : PySem.W.Frag} {CS CT CI : Addr} {H H' : Hp} {st : Addr} {sc : SC} (x : SAt K CS CT CI H st sc) (k : KF (sfp sc st) H H') : TK H H' := fun a u hu h => by
  refine k a _ (fun m => ?_) h
  obtain ⟨o, h1, h2⟩ := x.notup m
  rw [h] at h1
  exact h2 (Option.some.inj h1 ▸ hu)
theorem SMid.step {K : PySem.W.Frag} {CS CT CI : Addr} {st : Addr} {c c1 c2 : SC} {H H1 H2 : Hp} {m m2 : Nat} {d d2 : SD} (h : SMid K CS CT CI st c H H1 c1 m d) (h2 : SMid K CS CT CI st c1 H1 H2 c2 m2 d2) : SMid K CS CT CI st c H H2 c2 m2 d2 := by
  refine ⟨h2.at_, h2.ok, h2.dat, fun b hb => ?_, fun b o n e => ?_⟩
  · rcases h2.fp b hb with q | q
    · exact h.fp b q
    · cases e : H b with
      | none => exact .inr rfl
      | some o =>
        by_cases mem : b ∈ sfp c st
        · exact .inl mem
        · rw [h.kf b o mem e] at q; cases q
  · have e1 := h.kf b o n e
    refine h2.kf b o (fun mb => ?_) e1
    rcases h.fp b mb with q | q
    · exact n q
    · rw [e] at q; cases q
theorem SAt.same {K : PySem.W.Frag} {CS CT CI : Addr} {H H' : Hp} {st : Addr} {sc : SC} (x : SAt K CS CT CI H st sc) (s : Same H H') : SAt K CS CT CI H' st sc := by
  obtain ⟨dx, fs, ob, l⟩ := x.ob
  exact ⟨⟨dx, fs, s _ _ ob, l⟩, s _ _ x.td, s _ _ x.mo, fun t ht => (x.tv t ht).same s, x.s1, x.sp, x.pd⟩
/-- a store stays where its places stay -/
theorem SAt.keep {K : PySem.W.Frag} {CS CT CI : Addr} {H H' : Hp} {st : Addr} {sc : SC} (x : SAt K CS CT CI H st sc) (k : ∀ b ∈ sfp sc st, ∀ o, H b = some o → H' b = some o) (t : TK H H') : SAt K CS CT CI H' st sc := by
  obtain ⟨dx, fs, ob, l⟩ := x.ob
  exact ⟨⟨dx, fs, k _ (sfp_mem.mpr (.inl rfl)) _ ob, l⟩, k _ (sfp_mem.mpr (.inr (.inl rfl))) _ x.td, k _ (sfp_mem.mpr (.inr (.inr (.inl rfl)))) _ x.mo, fun u hu => (x.tv u hu).keep (fun b hb => k b (sfp_mem.mpr (.inr (.inr (.inr ⟨u, hu, hb⟩))))) t, x.s1, x.sp, x.pd⟩
theorem pw_inj {ts : List Tbn} (pd : ts.Pairwise fun t u => t.1 ≠ u.1 ∧ ∀ b ∈ tfp t, b ∉ tfp u) : (ts.map (fun t => t.1)).Nodup := by
  refine List.pairwise_map.mpr ?_
  exact pd.imp fun h => h.1
def setT (sc : SC) (z : Str) (c : TC) : SC := { sc with tabs := sc.tabs.map fun t => if t.1 = z then (t.1, t.2.1, c) else t }
theorem pd_of {ts : List Tbn} (pd : ts.Pairwise fun t u => t.1 ≠ u.1 ∧ ∀ b ∈ tfp t, b ∉ tfp u) {t u : Tbn} (ht : t ∈ ts) (hu : u ∈ ts) (ne : t.1 ≠ u.1) : ∀ b ∈ tfp t, b ∉ tfp u := by
  induction ts with
  | nil => cases ht
  | cons x ts ih =>
    obtain ⟨h1, h2⟩ := List.pairwise_cons.mp pd
    rcases List.mem_cons.mp ht with e | ht
    · rcases List.mem_cons.mp hu with e2 | hu
      · exact absurd (by rw [e, e2]) ne
      · rw [e]; exact (h1 u hu).2
    · rcases List.mem_cons.mp hu with e2 | hu
      · intro b hb m
        rw [e2] at m
        exact (h1 t ht).2 b m hb
      · exact ih h2 ht hu
theorem SAt.setT {K : PySem.W.Frag} {CS CT CI : Addr} {H H' : Hp} {st : Addr} {sc : SC} {t : Tbn} {c : TC} {m : Nat} {d : TD} (x : SAt K CS CT CI H st sc) (ht : t ∈ sc.tabs) (md : Mid K CT CI t.2.1 t.2.2 H H' c m d) : SAt K CS CT CI H' st (GS.setT sc t.1 c) ∧ (∀ b ∈ sfp (GS.setT sc t.1 c) st, b ∈ sfp sc st ∨ H b = none) ∧ KF (sfp sc st) H H' := by
  have spt := x.sp t ht
  have kf : KF (sfp sc st) H H' := md.kf.mono fun b hb => sfp_mem.mpr (.inr (.inr (.inr ⟨t, ht, hb⟩)))
  have tk : TK H H' := KF.tkS x kf
  obtain ⟨dx, fs, ob, l⟩ := x.ob
  have uniq : ∀ u ∈ sc.tabs, u.1 = t.1 → u = t := fun u hu e => nodup_inj (pw_inj x.pd) hu ht e
  have old : ∀ u ∈ sc.tabs, u.1 ≠ t.1 → ∀ b ∈ tfp u, b ∉ t.2.2.fp t.2.1 := fun u hu ne => pd_of x.pd hu ht ne
  have skve : skv (GS.setT sc t.1 c).tabs = skv sc.tabs := by
    unfold skv GS.setT
    dsimp only
    rw [List.map_map]
    refine List.map_congr_left fun u _ => ?_
    show ((Sum.inr (if u.1 = t.1 then (u.1, u.2.1, c) else u).1 : Key), V.ref (if u.1 = t.1 then (u.1, u.2.1, c) else u).2.1) = _
    split <;> rfl
  have nin : ∀ b, b ∈ c.fp t.2.1 → b ∈ t.2.2.fp t.2.1 ∨ H b = none := md.fp
  refine ⟨⟨⟨dx, fs, md.kf _ _ spt.1 ob, ⟨l.len, l.l1, l.l2, l.l3, l.l4, l.no⟩⟩, ?_, md.kf _ _ spt.2.2 x.mo, fun u hu => ?_, x.s1, fun u hu => ?_, ?_⟩, fun b hb => ?_, kf⟩
  · rw [skve]; exact md.kf _ _ spt.2.1 x.td
  · obtain ⟨u0, hu0, rfl⟩ := List.mem_map.mp hu
    by_cases e : u0.1 = t.1
    · rw [if_pos e, uniq u0 hu0 e]; exact md.at_
    · rw [if_neg e]
      exact (x.tv u0 hu0).keep (fun b hb o eb => md.kf b o (old u0 hu0 e b hb) eb) tk
  · obtain ⟨u0, hu0, rfl⟩ := List.mem_map.mp hu
    by_cases e : u0.1 = t.1
    · rw [if_pos e, uniq u0 hu0 e]
      have g : ∀ b o, H b = some o → b ∉ t.2.2.fp t.2.1 → b ∉ c.fp t.2.1 := fun b o eb n m => by
        rcases nin b m with q | q
        · exact n q
        · rw [eb] at q; cases q
      exact ⟨g _ _ ob spt.1, g _ _ x.td spt.2.1, g _ _ x.mo spt.2.2⟩
    · rw [if_neg e]; exact x.sp u0 hu0
  · show (sc.tabs.map _).Pairwise _
    refine List.pairwise_map.mpr (x.pd.imp_of_mem fun {a b} ha hb h => ?_)
    have some_of : ∀ u ∈ sc.tabs, ∀ q ∈ tfp u, ∃ o, H q = some o := fun u hu q hq => by
      obtain ⟨o, e, _⟩ := (x.tv u hu).notup hq
      exact ⟨o, e⟩
    by_cases ea : a.1 = t.1
    · rw [if_pos ea]
      by_cases eb : b.1 = t.1
      · exact absurd (ea.trans eb.symm) h.1
      · rw [if_neg eb]
        refine ⟨h.1, fun q hq mq => ?_⟩
        have hq : q ∈ c.fp a.2.1 := hq
        rw [uniq a ha ea] at hq
        obtain ⟨o, eo⟩ := some_of b hb q mq
        rcases nin q hq with z | z
        · rw [← uniq a ha ea] at z
          exact h.2 q z mq
        · rw [eo] at z; cases z
    · rw [if_neg ea]
      by_cases eb : b.1 = t.1
      · rw [if_pos eb]
        refine ⟨h.1, fun q hq mq => ?_⟩
        have mq : q ∈ c.fp b.2.1 := mq
        rw [uniq b hb eb] at mq
        obtain ⟨o, eo⟩ := some_of a ha q hq
        rcases nin q mq with z | z
        · rw [← uniq b hb eb] at z
          exact h.2 q hq z
        · rw [eo] at z; cases z
      · rw [if_neg eb]; exact h
  · rcases sfp_mem.mp hb with h | h | h | ⟨u, hu, h⟩
    · exact .inl (sfp_mem.mpr (.inl h))
    · exact .inl (sfp_mem.mpr (.inr (.inl h)))
    · exact .inl (sfp_mem.mpr (.inr (.inr (.inl h))))
    · obtain ⟨u0, hu0, rfl⟩ := List.mem_map.mp (show u ∈ sc.tabs.map (fun u => if u.1 = t.1 then (u.1, u.2.1, c) else u) from hu)
      by_cases e : u0.1 = t.1
      · rw [if_pos e] at h
        have h : b ∈ c.fp u0.2.1 := h
        rw [uniq u0 hu0 e] at h
        exact (nin b h).imp (fun q => sfp_mem.mpr (.inr (.inr (.inr ⟨t, ht, q⟩)))) id
      · rw [if_neg e] at h
        exact .inl (sfp_mem.mpr (.inr (.inr (.inr ⟨u0, hu0, h⟩))))
/-- a table more -/
def addT (sc : SC) (z : Str) (tb : Addr) (c : TC) : SC := { sc with tabs := sc.tabs ++ [(z, tb, c)] }
theorem SAt.addT {K : PySem.W.Frag} {CS CT CI : Addr} {H H' : Hp} {st : Addr} {sc : SC} {z : Str} {tb : Addr} {c : TC} (x : SAt K CS CT CI H st sc) (s : Same H H') (nz : z ∉ sc.tabs.map (fun t => t.1)) (y : TAt K CT CI H' tb c) (nf : ∀ b ∈ c.fp tb, H b = none) :
    SAt K CS CT CI (upd H' sc.td (.dK (putK (skv sc.tabs) (Sum.inr z) (.ref tb)))) st (GS.addT sc z tb c) ∧ (∀ b ∈ sfp (GS.addT sc z tb c) st, b ∈ sfp sc st ∨ H b = none) ∧ KF (sfp sc st) H (upd H' sc.td (.dK (putK (skv sc.tabs) (Sum.inr z) (.ref tb)))) := by
  have htd := s _ _ x.td
  have ntd : ∀ b ∈ c.fp tb, b ≠ sc.td := fun b hb e => by rw [e] at hb; have q := nf _ hb; rw [x.td] at q; cases q
  have tk : TK H' (upd H' sc.td (.dK (putK (skv sc.tabs) (Sum.inr z) (.ref tb)))) := fun b u hu e => by rw [upd_ne (ne_of e htd (by intro z; subst z; exact hu))]; exact e
  obtain ⟨dx, fs, ob, l⟩ := x.ob
  have nk : (Sum.inr z : Key) ∉ (skv sc.tabs).map (·.1) := fun m => by
    unfold skv at m
    rw [List.map_map] at m
    obtain ⟨i, mi, e⟩ := List.mem_map.mp m
    exact nz (List.mem_map.mpr ⟨i, mi, Sum.inr.inj e⟩)
  refine ⟨⟨⟨dx, fs, (upd_ne x.s1.1).trans (s _ _ ob), ⟨l.len, l.l1, l.l2, l.l3, l.l4, l.no⟩⟩, ?_, (upd_ne (Ne.symm x.s1.2.2)).trans (s _ _ x.mo), fun u hu => ?_, x.s1, fun u hu => ?_, ?_⟩, fun b hb => ?_, fun b o n e => ?_⟩
  · refine upd_same.trans ?_
    rw [putK_new _ (valV_none nk)]
    show some (HO.dK _) = some (HO.dK (skv (sc.tabs ++ [((z, tb, c) : Tbn)])))
    unfold skv
    rw [List.map_append]
    rfl
  · rcases List.mem_append.mp (show u ∈ sc.tabs ++ [(z, tb, c)] from hu) with hu | hu
    · exact ((x.tv u hu).same s).keep (fun b hb o e => (upd_ne fun (q : b = sc.td) => (x.sp u hu).2.1 (by rw [← q]; exact hb)).trans e) tk
    · rw [List.mem_singleton.mp hu]
      exact y.keep (fun b hb o e => (upd_ne (ntd b hb)).trans e) tk
  · rcases List.mem_append.mp (show u ∈ sc.tabs ++ [(z, tb, c)] from hu) with hu | hu
    · exact x.sp u hu
    · rw [List.mem_singleton.mp hu]
      exact ⟨fun m => (by have q := nf _ m; rw [ob] at q; cases q), fun m => ntd _ m rfl, fun m => (by have q : H sc.mo = none := nf _ m; rw [x.mo] at q; cases q)⟩
  · show (sc.tabs ++ [((z, tb, c) : Tbn)]).Pairwise _
    refine List.pairwise_append.mpr ⟨x.pd, List.pairwise_singleton _ _, fun a ha b hb => ?_⟩
    rw [List.mem_singleton.mp hb]
    refine ⟨fun (e : a.1 = z) => nz (by rw [← e]; exact List.mem_map_of_mem (f := fun t : Tbn => t.1) ha), fun q hq m => ?_⟩
    obtain ⟨o, eo, _⟩ := (x.tv a ha).notup hq
    have w := nf q m
    rw [eo] at w; cases w
  · rcases sfp_mem.mp hb with h | h | h | ⟨u, hu, h⟩
    · exact .inl (sfp_mem.mpr (.inl h))
    · exact .inl (sfp_mem.mpr (.inr (.inl h)))
    · exact .inl (sfp_mem.mpr (.inr (.inr (.inl h))))
    · rcases List.mem_append.mp (show u ∈ sc.tabs ++ [(z, tb, c)] from hu) with hu | hu
      · exact .inl (sfp_mem.mpr (.inr (.inr (.inr ⟨u, hu, h⟩))))
      · rw [List.mem_singleton.mp hu] at h
        exact .inr (nf b h)
  · have ntd : b ≠ sc.td := fun q => n (q ▸ sfp_mem.mpr (.inr (.inl rfl)))
    rw [upd_ne ntd]
    exact s b o e
end GS

set_option linter.all false
set_option maxHeartbeats 4000000
namespace GS
open PySem L2 HX
inductive Wr where
  | tab (z : Str) (fs : List Str)
  | idx (t f : Str)
  | row (t : Str) (k : Int) (r : Option Row)
def WrAt (K : PySem.W.Frag) (H : Hp) : Wr → V → Prop
  | .tab z fs, v => ∃ p q, v = .ref p ∧ SqT K H p [.str "table", .str z, .ref q] ∧ BT K H q (fs.map V.str)
  | .idx t f, v => ∃ p, v = .ref p ∧ SqT K H p [.str "index", .str t, .str f]
  | .row t k r, v => ∃ p rv, v = .ref p ∧ SqT K H p [.str "row", .str t, .int k, rv] ∧ RowAt H r rv
theorem WrAt.keep {K : PySem.W.Frag} {H H' : Hp} (k : TK H H') : ∀ {w : Wr} {v : V}, WrAt K H w v → WrAt K H' w v
  | .tab _ _, _, ⟨p, q, e, h, b⟩ => ⟨p, q, e, sqt_keep k h, b.keep k⟩
  | .idx _ _, _, ⟨p, e, h⟩ => ⟨p, e, sqt_keep k h⟩
  | .row _ _ _, _, ⟨p, rv, e, h, r⟩ => ⟨p, rv, e, sqt_keep k h, r.keep k⟩
def setD (d : SD) (z : Str) (f : TD → TD) : SD := { d with tabs := d.tabs.map fun t => if t.1 = z then (t.1, f t.2) else t }
def wrD (d : SD) (n : Int) : Wr → SD
  | .tab z fs => { d with tabs := d.tabs ++ [(z, ⟨n, fs, [], [], []⟩)] }
  | .idx t f => setD d t fun x => indexD x n f
  | .row t k r => setD d t fun x => layD x n k r
/-- a write that may be -/
def WrOk (d : SD) : Wr → Prop
  | .tab z fs => z ∉ d.tabs.map (fun t => t.1) ∧ fs ≠ [] ∧ fs.length ≤ 4 ∧ fs.Nodup ∧ d.tabs.length < 8
  | .idx t f => ∃ x, (t, x) ∈ d.tabs ∧ f ∈ x.fields ∧ f ∉ x.il.map (fun i => i.1)
  | .row t _ r => ∃ x, (t, x) ∈ d.tabs ∧ ∀ ns, r = some ns → ns.length = x.fields.length
theorem tdok_index {t : TD} {n : Int} {z : Str} (h : TDok t) : TDok (indexD t n z) := by
  refine ⟨h.nf, h.l4, h.fn, h.wd, ?_⟩
  show (t.made ++ [(z, n)]).map _ = (t.il ++ [(z, _)]).map _
  rw [List.map_append, List.map_append, h.mi]
  rfl
theorem tdok_lay {t : TD} {n k : Int} {r : Option Row} (h : TDok t) (w : ∀ ns, r = some ns → ns.length = t.fields.length) : TDok (layD t n k r) := by
  refine ⟨h.nf, h.l4, h.fn, fun x hx v hv ns e => ?_, ?_⟩
  · obtain ⟨y, hy, rfl⟩ := List.mem_map.mp (show x ∈ (openD t.cl k).map (fun y => if y.1 = k then (y.1, y.2 ++ [(n, r)]) else y) from hx)
    have old : ∀ v ∈ y.2, ∀ ns, v.2 = some ns → ns.length = t.fields.length := fun v hv ns e => by
      have hy : y ∈ (if k ∈ t.cl.map (fun x => x.1) then t.cl else t.cl ++ [(k, [])]) := hy
      split at hy
      · exact h.wd y hy v hv ns e
      · rcases List.mem_append.mp hy with m | m
        · exact h.wd y m v hv ns e
        · rw [List.mem_singleton.mp m] at hv; cases hv
    split at hv
    · rcases List.mem_append.mp hv with m | m
      · exact old v m ns e
      · rw [List.mem_singleton.mp m] at e
        exact w ns e
    · exact old v hv ns e
  · show t.made.map _ = _
    rw [h.mi]
    cases r with
    | none => rfl
    | some ns =>
      show _ = (t.il.map fun i => (i.1, (wo t.fields ns i.1, k) :: i.2)).map _
      rw [List.map_map]
      rfl
theorem dat_setT {sc : SC} {t : Tbn} {c : TC} {f : TD → TD} (ht : t ∈ sc.tabs) (nd : (sc.tabs.map (fun t => t.1)).Nodup) (e : c.dat = f t.2.2.dat) : (setT sc t.1 c).dat = setD sc.dat t.1 f := by
  unfold SC.dat setT setD
  dsimp only
  congr 1
  rw [List.map_map, List.map_map]
  refine List.map_congr_left fun u hu => ?_
  show ((if u.1 = t.1 then (u.1, u.2.1, c) else u).1, (if u.1 = t.1 then (u.1, u.2.1, c) else u).2.2.dat) = if u.1 = t.1 then (u.1, f u.2.2.dat) else (u.1, u.2.2.dat)
  by_cases q : u.1 = t.1
  · rw [if_pos q, if_pos q]
    have z : u = t := nodup_inj nd hu ht q
    rw [z, e]
  · rw [if_neg q, if_neg q]
theorem ok_setT {sc : SC} {t : Tbn} {c : TC} {m m' : Nat} (o : sc.Ok m) (le : m ≤ m') (h1 : c.Ok m') (h2 : TDok c.dat) : (setT sc t.1 c).Ok m' := by
  refine ⟨?_, fun u hu => ?_, fun u hu => ?_⟩
  · show (sc.tabs.map _).length ≤ 8
    rw [List.length_map]; exact o.few
  · obtain ⟨u0, hu0, rfl⟩ := List.mem_map.mp hu
    by_cases q : u0.1 = t.1
    · rw [if_pos q]; exact h1
    · rw [if_neg q]; exact (o.ok u0 hu0).le le
  · obtain ⟨u0, hu0, rfl⟩ := List.mem_map.mp hu
    by_cases q : u0.1 = t.1
    · rw [if_pos q]; exact h2
    · rw [if_neg q]; exact o.td u0 hu0
theorem tab_of {sc : SC} {z : Str} {x : TD} (h : (z, x) ∈ sc.dat.tabs) : ∃ t ∈ sc.tabs, t.1 = z ∧ t.2.2.dat = x := by
  obtain ⟨t, ht, e⟩ := List.mem_map.mp h
  injection e with e1 e2
  exact ⟨t, ht, e1, e2⟩
theorem skv_at {sc : SC} {t : Tbn} (ht : t ∈ sc.tabs) (nd : (sc.tabs.map (fun t => t.1)).Nodup) : valV (skv sc.tabs) (Sum.inr t.1) = some (.ref t.2.1) := by
  generalize sc.tabs = ts at ht nd
  induction ts with
  | nil => cases ht
  | cons u ts ih =>
    obtain ⟨n1, n2⟩ := List.nodup_cons.mp nd
    rcases List.mem_cons.mp ht with e | ht
    · rw [e]; exact valV_pos (p := (Sum.inr u.1, V.ref u.2.1)) rfl
    · refine (valV_neg (p := (Sum.inr u.1, V.ref u.2.1)) (fun q => n1 ?_)).trans (ih ht n2)
      show u.1 ∈ _
      rw [show u.1 = t.1 from Sum.inr.inj q]
      exact List.mem_map_of_mem (f := fun t : Tbn => t.1) ht
def spT1 (K : PySem.W.Frag) (CS CT CI : Addr) : Sp := fun vs H Q _ => ∃ (st : Addr) (n : Int) (wv : V) (sc : SC) (m : Nat) (w : Wr), vs = [.ref st, .int n, wv] ∧ SAt K CS CT CI H st sc ∧ sc.Ok m ∧ m + 2 ≤ 100000 ∧ WrAt K H w wv ∧ WrOk sc.dat w ∧
  ∀ sc' H', SMid K CS CT CI st sc H H' sc' (m + 2) (wrD sc.dat n w) → Q .non H'
structure TxtS (K : PySem.W.Frag) (C : Addr) : Prop where
  cl : Cls K C
  n1 : NoAttr K C "first"
  n2 : NoAttr K C "newest"
  n3 : NoAttr K C "_tables"
  n4 : NoAttr K C "_moments"
section
variable {P : Program} {w : World} {K : PySem.W.Frag} {mg : Str → Option Value} {base : Heap}
theorem scT1 : FnScope ["self", "number", "write", "_", "table", "key", "row"] ["self", "number", "write"] (defScope s_Store__take_one) := ⟨rfl, rfl, rfl, by decide +kernel, rfl, by decide +kernel, by decide +kernel⟩
theorem ok_t1 {f CS CT CI fi fm fl : Addr} {fd fdi fdm fdl : FuncData} (F : Fun K "_take_one" "Store._take_one" s_Store__take_one f fd) (T : Txt mg) (TS : TxtS K CS) (TT : TxtT K CT)
    (MT : CalC P w K mg base 1 "Table" CT ["self", "number", "fields"] (spTInit K CT CI) fi fdi) (Cmi : CalM P w K mg base 3 CT "make_index" ["self", "number", "field"] (spMI K CT CI) fm fdm) (Clay : CalM P w K mg base 3 CT "lay" ["self", "number", "key", "row"] (spLay K CT CI) fl fdl) : FnOk P w K mg base CX0 4 f fd ["self", "number", "write"] (spT1 K CS CT CI) := by
  refine F.ok scT1 (fun vs H Q E h => ?_) (fun cdv A outer s H vs Q E hr h => ?_)
  · obtain ⟨st, n, wv, sc, m, w, rfl, _⟩ := h
    rfl
  · obtain ⟨st, n, wv, sc, m, w, rfl, x, ok, few, hw, wok, kk⟩ := h
    have hr3 : Room 3 _ := hr
    have hr2 : Room 2 _ := hr3.mono (by decide)
    have big : (100000 : Nat) < sizeLine := by decide
    refine ⟨_, (pss_one (ps_if (pt_cmpR op_eq (pe_ix (RK.ixT (K := K)) (pv 2) pe_int (fun _ _ => rfl)) pe_str (nomark _)) (pss_one (ps_dput (hu_of hr) (pe_fld (pv 0) rfl) (pe_ix (RK.ixT (K := K)) (pv 2) pe_int (fun _ _ => rfl)) (pe_make MT.M MT.G hr2 rfl MT.g MT.b .nil pass0 (pa_cons (pv 1) (pa_cons (pe_callTy (RK.tupQ (K := K)) (by rfl) T.tuple (by decide +kernel) (pa_cons (pe_ix (RK.ixT (K := K)) (pv 2) pe_int (fun _ _ => rfl)) pa_nil)) pa_nil))) rfl)) (pss_one (ps_if (pt_cmpR op_eq (pe_ix (RK.ixT (K := K)) (pv 2) pe_int (fun _ _ => rfl)) pe_str (nomark _)) (pss_one (ps_expr (pe_meth (pe_dget (hu_of hr) (pe_fld (pv 0) rfl) (pe_ix (RK.ixT (K := K)) (pv 2) pe_int (fun _ _ => rfl)) (fun _ _ => rfl)) TT.cl Cmi.mt Cmi.G hr3 Cmi.b .nil pass0 (pa_cons (pv 1) (pa_cons (pe_ix (RK.ixT (K := K)) (pv 2) pe_int (fun _ _ => rfl)) pa_nil))))) (pss_cons (ps_asg (pv 2) (RK.pgTup (K := K) (n := 4) rfl (pgs_cons (pg_name (i := 3) scT1.nd rfl (Or.inl rfl)) (pgs_cons (pg_name (i := 4) scT1.nd rfl (Or.inl rfl)) (pgs_cons (pg_name (i := 5) scT1.nd rfl (Or.inl rfl)) (pgs_cons (pg_name (i := 6) scT1.nd rfl (Or.inl rfl)) pgs_nil))))))
          (pss_one (ps_expr (pe_meth (pe_dget (hu_of hr) (pe_fld (pv 0) rfl) (pv 4) (fun _ _ => rfl)) TT.cl Clay.mt Clay.G hr3 Clay.b .nil pass0 (pa_cons (pv 1) (pa_cons (pv 5) (pa_cons (pe_ifExp (pt_cmpR op_isN (pv 6) pe_non (nomark _)) pe_non (pe_callTy (RK.tupQ (K := K)) (by rfl) T.tuple (by decide +kernel) (pa_cons (pv 6) pa_nil))) pa_nil))))))))))), ?_⟩
    obtain ⟨dx, fs, ob, l⟩ := x.ob
    have nd := pw_inj x.pd
    have e1 : decide (V.str (Str.ofString "index") = V.str (Str.ofString "table")) = false := by decide +kernel
    have e2 : decide (V.str (Str.ofString "row") = V.str (Str.ofString "table")) = false := by decide +kernel
    have e3 : decide (V.str (Str.ofString "row") = V.str (Str.ofString "index")) = false := by decide +kernel
    cases w with
    | tab z flds =>
      obtain ⟨p, q, rfl, hp, hq⟩ := hw
      obtain ⟨w1, w2, w3, w4, w5⟩ := wok
      refine ifs ⟨_, rfl, p, _, 0, _, rfl, rfl, hp, at0, rfl, _, rfl, iteT ?_⟩
      refine ⟨_, rfl, _, rfl, p, _, 2, _, rfl, rfl, hp, rfl, q, _, rfl, .inr ⟨hq.sq, ?_⟩⟩
      intro tb dxt htb hdxt ndt
      have nb : ∀ b o, H b = some o → b ≠ tb := fun b o e => ne_of_none e htb
      have nb2 : ∀ b o, H b = some o → b ≠ dxt := fun b o e => ne_of_none e hdxt
      have s0 : Same H (upd (upd H dxt (.own tb)) tb (.ins CT dxt [])) := fun b o e => by rw [upd_ne (nb b o e), upd_ne (nb2 b o e)]; exact e
      refine ⟨tb, dxt, q, n, flds, rfl, upd_same, hq.keep (TK.same s0), fun c H1 at_ dat tf cok cfp kf => ⟨rfl, ?_⟩⟩
      have s1 : Same H H1 := fun b o e => kf b o (fun m => nb b o e (List.mem_singleton.mp m)) (s0 b o e)
      have nf : ∀ b ∈ c.fp tb, H b = none := fun b hb => by
        rcases cfp b hb with h | h
        · rw [h]; exact htb
        · exact none_of_same s0 h
      have nz : z ∉ sc.tabs.map (fun t => t.1) := fun m => w1 (by
        obtain ⟨t, ht, e⟩ := List.mem_map.mp m
        exact List.mem_map.mpr ⟨(t.1, t.2.2.dat), List.mem_map.mpr ⟨t, ht, rfl⟩, e⟩)
      obtain ⟨g1, g2, g3⟩ := x.addT s1 nz at_ nf
      have lsk : (skv sc.tabs).length < sizeLine := Nat.lt_of_le_of_lt (show (skv sc.tabs).length ≤ 100000 by unfold skv; rw [List.length_map]; have := ok.few; omega) big
      refine ⟨_, rfl, st, CS, dx, _, _, rfl, s1 _ _ ob, TS.cl, TS.n3, l.l3, _, rfl, p, _, 1, _, rfl, rfl, sqt_keep (TK.same s1) hp, rfl, sc.td, _, rfl, DPut.k (k := Sum.inr z) (s1 _ _ x.td) lsk, ?_⟩
      refine kk _ _ ⟨g1, ⟨?_, fun u hu => ?_, fun u hu => ?_⟩, ?_, g2, g3⟩
      · show (sc.tabs ++ [(z, tb, c)]).length ≤ 8
        have w5 : (sc.tabs.map _).length < 8 := w5
        rw [List.length_map] at w5
        rw [List.length_append]
        exact w5
      · rcases List.mem_append.mp (show u ∈ sc.tabs ++ [(z, tb, c)] from hu) with h | h
        · exact (ok.ok u h).le (Nat.le_add_right _ _)
        · rw [List.mem_singleton.mp h]; exact cok.le (Nat.zero_le _)
      · rcases List.mem_append.mp (show u ∈ sc.tabs ++ [(z, tb, c)] from hu) with h | h
        · exact ok.td u h
        · rw [List.mem_singleton.mp h]
          show TDok c.dat
          rw [dat]
          exact ⟨w2, w3, w4, fun x hx => (by cases hx), rfl⟩
      · unfold SC.dat addT wrD
        dsimp only
        rw [List.map_append]
        show (⟨_, _, _ ++ [(z, c.dat)], _⟩ : SD) = _
        rw [dat]
    | idx t f =>
      obtain ⟨p, rfl, hp⟩ := hw
      obtain ⟨x0, w1, w2, w3⟩ := wok
      obtain ⟨u, hu, rfl, rfl⟩ := tab_of w1
      refine ifs ⟨_, rfl, p, _, 0, _, rfl, rfl, hp, at0, rfl, _, rfl, ?_⟩
      rw [e1]
      refine iteF (ifs ⟨_, rfl, p, _, 0, _, rfl, rfl, hp, at0, rfl, _, rfl, iteT ?_⟩)
      have tu := x.tv u hu
      obtain ⟨dxu, obu⟩ := tu.ob
      have lkk : (tfl u.2.2).lookup ("make_index" : Str) = none := lk_no _ (by decide +kernel)
      have ou := ok.ok u hu
      have tdu := ok.td u hu
      have nz : f ∉ u.2.2.il.map (fun x => x.1) := fun m => w3 (by
        show f ∈ (u.2.2.il.map _).map _
        rw [List.map_map]; exact m)
      have nm : f ∉ u.2.2.made.map (fun x => x.1) := fun m => w3 (by rw [← tdu.mi]; exact m)
      have lil : u.2.2.il.length ≤ 4 := by
        have z := nodup_le (u.2.2.il.map (fun x => x.1)) u.2.2.fields ou.ind (fun y my => by
          obtain ⟨i, hi, rfl⟩ := List.mem_map.mp my
          exact ou.inf i hi)
        rw [List.length_map] at z
        exact Nat.le_trans z tdu.l4
      have lmd : u.2.2.made.length ≤ 4 := by
        have z := congrArg List.length tdu.mi
        rw [List.length_map, List.length_map] at z
        have z : u.2.2.made.length = (u.2.2.il.map _).length := z
        rw [List.length_map] at z
        omega
      refine ⟨_, rfl, st, CS, dx, _, _, rfl, ob, TS.cl, TS.n3, l.l3, _, rfl, p, _, 1, _, rfl, rfl, hp, rfl, sc.td, .ref u.2.1, rfl, skv_at hu nd ▸ DGet.k (k := Sum.inr u.1) x.td, u.2.1, dxu, _, rfl, obu, lkk, _, rfl, _, rfl, p, _, 2, _, rfl, rfl, hp, rfl, ?_⟩
      refine ⟨u.2.1, n, f, u.2.2, m, rfl, tu, ou, by omega, wid_of tdu, w2, nz, nm, by omega, by omega, fun c H1 md => ?_⟩
      obtain ⟨g1, g2, g3⟩ := x.setT hu md
      exact kk _ _ ⟨g1, ok_setT ok (by omega) (md.ok.le (by omega)) (by rw [md.dat]; exact tdok_index tdu), dat_setT (f := fun x => indexD x n f) hu nd md.dat, g2, g3⟩
    | row t k r =>
      obtain ⟨p, rv, rfl, hp, hrow⟩ := hw
      obtain ⟨x0, w1, w2⟩ := wok
      obtain ⟨u, hu, rfl, rfl⟩ := tab_of w1
      refine ifs ⟨_, rfl, p, _, 0, _, rfl, rfl, hp, at0, rfl, _, rfl, ?_⟩
      rw [e2]
      refine iteF (ifs ⟨_, rfl, p, _, 0, _, rfl, rfl, hp, at0, rfl, _, rfl, ?_⟩)
      rw [e3]
      refine iteF (sa1 ⟨_, rfl, p, _, rfl, hp, rfl, _, _, rfl, _, _, rfl, _, _, rfl, _, _, rfl, rfl, ?_⟩)
      have tu := x.tv u hu
      obtain ⟨dxu, obu⟩ := tu.ob
      have lkk : (tfl u.2.2).lookup ("lay" : Str) = none := lk_no _ (by decide +kernel)
      have ou := ok.ok u hu
      have tdu := ok.td u hu
      have fin : spLay K CT CI [.ref u.2.1, .int n, .int k, rv] H Q E := by
        refine ⟨u.2.1, n, k, rv, u.2.2, m, r, rfl, tu, ou, few, hrow, w2, fun c H1 md => ?_⟩
        obtain ⟨g1, g2, g3⟩ := x.setT hu md
        exact kk _ _ ⟨g1, ok_setT ok (by omega) md.ok (by rw [md.dat]; exact tdok_lay tdu w2), dat_setT (f := fun x => layD x n k r) hu nd md.dat, g2, g3⟩
      refine ⟨_, rfl, st, CS, dx, _, _, rfl, ob, TS.cl, TS.n3, l.l3, _, rfl, sc.td, .ref u.2.1, rfl, skv_at hu nd ▸ DGet.k (k := Sum.inr u.1) x.td, u.2.1, dxu, _, rfl, obu, lkk, _, rfl, _, rfl, ?_⟩
      refine ⟨_, rfl, rfl, _, rfl, ?_⟩
      cases r with
      | none =>
        obtain rfl : rv = .non := hrow
        exact iteT fin
      | some ns =>
        obtain ⟨q, rfl, hq⟩ := id hrow
        exact iteF ⟨_, rfl, q, _, rfl, .inr ⟨SqT.of hq, fin⟩⟩
end
end GS

set_option linter.all false
set_option maxHeartbeats 4000000
namespace GS
open PySem L2 HX
theorem putF_has (f : Str) (v w : V) : ∀ fs : List (Str × V), fs.lookup f = some w → (putF f v fs).length = fs.length
  | [], h => by cases h
  | (g, x) :: r, h => by
    unfold putF
    by_cases e : g = f
    · rw [if_pos e]; rfl
    · rw [if_neg e]
      have ne : (f == g) = false := beq_eq_false_iff_ne.mpr fun z => e z.symm
      have h2 : r.lookup f = some w := by
        rw [List.lookup_cons, ne] at h
        exact h
      rw [List.length_cons, List.length_cons, putF_has f v w r h2]
theorem sfl_newest {sc : SC} {fs : List (Str × V)} {n : Int} (l : Sfl sc fs) : Sfl { sc with newest := n } (putF "newest" (.int n) fs) := by
  refine ⟨by rw [putF_has _ _ _ _ l.l2]; exact l.len, ?_, ?_, ?_, ?_, fun m a1 a2 a3 a4 => ?_⟩
  · rw [lookup_putF, if_neg (by decide +kernel)]; exact l.l1
  · rw [lookup_putF, if_pos rfl]
  · rw [lookup_putF, if_neg (by decide +kernel)]; exact l.l3
  · rw [lookup_putF, if_neg (by decide +kernel)]; exact l.l4
  · rw [lookup_putF, if_neg a2]; exact l.no m a1 a2 a3 a4
theorem SAt.setN {K : PySem.W.Frag} {CS CT CI : Addr} {H : Hp} {st dx : Addr} {sc : SC} {fs : List (Str × V)} {n : Int} (x : SAt K CS CT CI H st sc) (ob : H st = some (.ins CS dx fs)) (l : Sfl sc fs) : SAt K CS CT CI (upd H st (.ins CS dx (putF "newest" (.int n) fs))) st { sc with newest := n } := by
  have tk : TK H (upd H st (.ins CS dx (putF "newest" (.int n) fs))) := fun b u hu e => by rw [upd_ne (ne_of e ob (by intro z; subst z; exact hu))]; exact e
  exact ⟨⟨dx, _, upd_same, sfl_newest l⟩, (upd_ne (Ne.symm x.s1.1)).trans x.td, (upd_ne (Ne.symm x.s1.2.1)).trans x.mo, fun t ht => (x.tv t ht).keep (fun b hb o e => (upd_ne fun (q : b = st) => (x.sp t ht).1 (by rw [← q]; exact hb)).trans e) tk, x.s1, x.sp, x.pd⟩
def wrsD (d : SD) (n : Int) : List Wr → SD
  | [] => d
  | w :: ws => wrsD (wrD d n w) n ws
def WrsOk (d : SD) (n : Int) : List Wr → Prop
  | [] => True
  | w :: ws => WrOk d w ∧ WrsOk (wrD d n w) n ws
theorem wrsD_snoc (n : Int) (w : Wr) : ∀ (ws : List Wr) (d : SD), wrsD d n (ws ++ [w]) = wrD (wrsD d n ws) n w
  | [], _ => rfl
  | x :: ws, d => wrsD_snoc n w ws (wrD d n x)
theorem wrs_at {n : Int} {w : Wr} : ∀ {ws : List Wr} {d : SD} {i : Nat}, WrsOk d n ws → ws[i]? = some w → WrOk (wrsD d n (ws.take i)) w
  | [], _, i, _, e => by simp at e
  | x :: ws, d, 0, h, e => by
    obtain rfl : x = w := by simpa using e
    exact h.1
  | x :: ws, d, i + 1, h, e => wrs_at (ws := ws) (d := wrD d n x) h.2 (by simpa using e)
def spTk (K : PySem.W.Frag) (CS CT CI : Addr) : Sp := fun vs H Q _ => ∃ (st p : Addr) (n : Int) (sc : SC) (m : Nat) (ws : List Wr) (us : List V), vs = [.ref st, .int n, .ref p] ∧ SAt K CS CT CI H st sc ∧ sc.Ok m ∧ n = sc.newest + 1 ∧ SqT K H p us ∧ Paired (WrAt K H) ws us ∧ m + 2 * ws.length ≤ 100000 ∧ WrsOk sc.dat n ws ∧
  ∀ sc' H', SMid K CS CT CI st sc H H' sc' (m + 2 * ws.length) { wrsD sc.dat n ws with newest := n } → Q .non H'
theorem SC.Ok.le {sc : SC} {m m' : Nat} (o : sc.Ok m) (h : m ≤ m') : sc.Ok m' := ⟨o.few, fun t ht => (o.ok t ht).le h, o.td⟩
def spCk (K : PySem.W.Frag) (CS CT CI : Addr) : Sp := fun vs H Q _ => ∃ (st : Addr) (n : Int) (sc : SC), vs = [.ref st, .int n] ∧ SAt K CS CT CI H st sc ∧ sc.first ≤ n ∧ n ≤ sc.newest ∧ Q .non H
def spSI (K : PySem.W.Frag) (CS CT CI : Addr) : Sp := fun vs H Q _ => ∃ (st dx : Addr) (n : Int), vs = [.ref st, .int n] ∧ H st = some (.ins CS dx []) ∧
  ∀ sc H', SAt K CS CT CI H' st sc → sc.dat = ⟨n, n, [], []⟩ → (∀ b ∈ sfp sc st, b = st ∨ H b = none) → KF [st] H H' → Q .non H'
section
variable {P : Program} {w : World} {K : PySem.W.Frag} {mg : Str → Option Value} {base : Heap}
theorem scTk : FnScope ["self", "number", "writes", "write"] ["self", "number", "writes"] (defScope s_Store_take) := ⟨rfl, rfl, rfl, by decide +kernel, rfl, by decide +kernel, by decide +kernel⟩
theorem ok_tk {f CS CT CI f1 : Addr} {fd fd1 : FuncData} (F : Fun K "take" "Store.take" s_Store_take f fd) (TS : TxtS K CS) (C1 : CalM P w K mg base 4 CS "_take_one" ["self", "number", "write"] (spT1 K CS CT CI) f1 fd1) : FnOk P w K mg base CX0 5 f fd ["self", "number", "writes"] (spTk K CS CT CI) := by
  refine F.ok scTk (fun vs H Q E h => ?_) (fun cdv A outer s H vs Q E hr h => ?_)
  · obtain ⟨st, p, n, sc, m, ws, us, rfl, _⟩ := h
    rfl
  · obtain ⟨st, p, n, sc, m, ws, us, rfl, x, ok, en, hp, pw, few, wok, kk⟩ := h
    have hr4 : Room 4 _ := hr
    refine ⟨_, (pss_cons (ps_if (pt_cmpR op_ne (pv 1) (pe_op op_add (pe_fld (pv 0) rfl) pe_int) (nomark _)) (pss_one ps_never) pss_nil)
      (pss_cons (ps_for PassesOwn.never rfl (RK.piT (K := K) (pv 2)) (pg_name (i := 3) scTk.nd rfl (Or.inl rfl))
        (pss_one (ps_expr (pe_meth (pv 0) TS.cl C1.mt C1.G hr4 C1.b .nil pass0 (pa_cons (pv 1) (pa_cons (pv 3) pa_nil))))))
      (pss_one (ps_fld (pv 0) (pv 1) rfl)))), ?_⟩
    obtain ⟨dx, fs, ob, l⟩ := x.ob
    refine sif ⟨_, rfl, _, rfl, st, CS, dx, _, _, rfl, ob, TS.cl, TS.n2, l.l2, _, 1, rfl, rfl, rfl, _, rfl, ?_⟩
    have ee : (!decide (V.int n = V.int (sc.newest + 1))) = false := by rw [en, decide_eq_true rfl]; rfl
    rw [ee]
    refine iteF ?_
    have lw := pw_len pw
    refine ⟨_, rfl, p, rfl, ⟨_, hp⟩, ?_⟩
    refine for_it (walk_tup (xs := us)) (fun i σ H' => ∃ v3, σ = [some (.ref st), some (.int n), some (.ref p), v3] ∧ ∃ sc', SMid K CS CT CI st sc H H' sc' (m + 2 * i) (wrsD sc.dat n (ws.take i)))
      ⟨none, rfl, sc, x, ok, rfl, fun b hb => .inl hb, fun b o _ e => e⟩ (fun i σ H' _ ⟨_, _, _, q⟩ => sqt_keep (KF.tkS x q.kf) hp) ?_ ?_
    · rintro i y σ H0 H' hi ⟨v3, rfl, sc', md⟩ ⟨rfl, ey⟩
      obtain ⟨wr, ew, hw⟩ := pw_get pw ey
      obtain ⟨dx', fs', ob', l'⟩ := md.at_.ob
      have lkk : fs'.lookup ("_take_one" : Str) = none := l'.no _ (by decide +kernel) (by decide +kernel) (by decide +kernel) (by decide +kernel)
      refine gn ⟨_, rfl, st, dx', fs', rfl, ob', lkk, _, rfl, _, rfl, ?_⟩
      refine ⟨st, n, y, sc', m + 2 * i, wr, rfl, md.at_, md.ok, by omega, hw.keep (KF.tkS x md.kf), by rw [md.dat]; exact wrs_at wok ew, fun sc2 H2 md2 => ?_⟩
      refine ⟨_, rfl, sc2, ?_⟩
      have z := md.step md2
      have e1 : ws.take (i + 1) = ws.take i ++ [wr] := by rw [List.take_add_one, ew]; rfl
      rw [e1, wrsD_snoc, ← md.dat]
      exact z
    · rintro σ H0 ⟨v3, rfl, sc', md⟩
      rw [← lw, List.take_length] at md
      obtain ⟨dx', fs', ob', l'⟩ := md.at_.ob
      refine ⟨_, rfl, _, rfl, st, CS, dx', fs', rfl, ob', TS.cl, TS.n2, Nat.lt_of_le_of_lt l'.len (by decide), ?_⟩
      refine kk { sc' with newest := n } _ (md.step (d2 := { wrsD sc.dat n ws with newest := n }) ⟨md.at_.setN ob' l', ⟨md.ok.few, md.ok.ok, md.ok.td⟩, ?_, fun b hb => .inl hb, KF.upd (.inl (sfp_mem.mpr (.inl rfl)))⟩)
      rw [← md.dat]
      rfl
theorem scCk : FnScope ["self", "number"] ["self", "number"] (defScope s_Store__check) := ⟨rfl, rfl, rfl, by decide +kernel, rfl, by decide +kernel, by decide +kernel⟩
theorem ok_ck {f CS CT CI : Addr} {fd : FuncData} (F : Fun K "_check" "Store._check" s_Store__check f fd) (TS : TxtS K CS) : FnOk P w K mg base CX0 1 f fd ["self", "number"] (spCk K CS CT CI) := by
  refine F.ok scCk (fun vs H Q E h => ?_) (fun cdv A outer s H vs Q E hr h => ?_)
  · obtain ⟨st, n, sc, rfl, _⟩ := h
    rfl
  · obtain ⟨st, n, sc, rfl, x, h1, h2, k⟩ := h
    obtain ⟨dx, fs, ob, l⟩ := x.ob
    refine ⟨_, (pss_one (ps_if (PW.pt (pw_or (pt_cmpR op_lt (pv 1) (pe_fld (pv 0) rfl) (nomark _)) (pw_or1 (pt_cmpR op_gt (pv 1) (pe_fld (pv 0) rfl) (nomark _))))) (pss_one ps_never) pss_nil)), ?_⟩
    refine ifs ⟨_, rfl, _, rfl, st, CS, dx, _, _, rfl, ob, TS.cl, TS.n1, l.l1, n, _, rfl, rfl, _, rfl, ?_⟩
    rw [decide_eq_false (show ¬ n < sc.first by omega)]
    refine iteF ⟨_, rfl, _, rfl, st, CS, dx, _, _, rfl, ob, TS.cl, TS.n2, l.l2, n, _, rfl, rfl, _, rfl, ?_⟩
    dsimp only
    rw [decide_eq_false (show ¬ sc.newest < n by omega)]
    exact iteF k
theorem scSI : FnScope ["self", "first"] ["self", "first"] (defScope s_Store___init__) := ⟨rfl, rfl, rfl, by decide +kernel, rfl, by decide +kernel, by decide +kernel⟩
theorem ok_si {f CS CT CI : Addr} {fd : FuncData} {prm : Arguments} {dvs : List V} {kws : List (Str × V)} (F : FunD K "__init__" "Store.__init__" prm (defBody s_Store___init__) (defScope s_Store___init__) dvs kws f fd) (TS : TxtS K CS) : FnOk P w K mg base CX0 1 f fd ["self", "first"] (spSI K CS CT CI) := by
  refine F.ok scSI (fun vs H Q E h => ?_) (fun cdv A outer s H vs Q E hr h => ?_)
  · obtain ⟨st, dx, n, rfl, _⟩ := h
    rfl
  · obtain ⟨st, dx, n, rfl, hp, k⟩ := h
    refine ⟨_, (pss_cons (ps_fld (pv 0) (pv 1) rfl)
      (pss_cons (ps_fld (pv 0) (pv 1) rfl)
      (pss_cons (ps_fld (pv 0) pe_dnewK rfl)
      (pss_one (ps_fld (pv 0) pe_dnewK rfl))))), ?_⟩
    have h0 : H st ≠ none := fun e => by rw [e] at hp; cases hp
    have t0 := TI.start hp
    have few : ∀ (fs : List (Str × V)) (m v j), fs.length ≤ j → (putF m v fs).length ≤ j + 1 := fun fs m v j l => Nat.le_trans (putF_len m v fs) (Nat.succ_le_succ l)
    have l0 : ([] : List (Str × V)).length ≤ 0 := Nat.le_refl _
    have l1 := few _ "first" (.int n) _ l0
    have l2 := few _ "newest" (.int n) _ l1
    refine ⟨_, rfl, _, rfl, st, CS, dx, _, rfl, t0.ob, TS.cl, TS.n1, Nat.lt_of_le_of_lt l0 (by decide), ?_⟩
    have t1 := t0.fld (fs' := putF "first" (.int n) [])
    refine ⟨_, rfl, _, rfl, st, CS, dx, _, rfl, t1.ob, TS.cl, TS.n2, Nat.lt_of_le_of_lt l1 (by decide), ?_⟩
    have t2 := t1.fld (fs' := putF "newest" (.int n) (putF "first" (.int n) []))
    intro td htd
    have t3 := t2.new (o := .dK []) htd h0
    refine ⟨_, rfl, st, CS, dx, _, rfl, t3.ob, TS.cl, TS.n3, Nat.lt_of_le_of_lt l2 (by decide), ?_⟩
    have l3 := few _ "_tables" (.ref td) _ l2
    have t4 := t3.fld (fs' := putF "_tables" (.ref td) (putF "newest" (.int n) (putF "first" (.int n) [])))
    intro mo hmo
    have t5 := t4.new (o := .dK []) hmo h0
    refine ⟨_, rfl, st, CS, dx, _, rfl, t5.ob, TS.cl, TS.n4, Nat.lt_of_le_of_lt l3 (by decide), ?_⟩
    have l4 := few _ "_moments" (.ref mo) _ l3
    have t6 := t5.fld (fs' := putF "_moments" (.ref mo) (putF "_tables" (.ref td) (putF "newest" (.int n) (putF "first" (.int n) []))))
    have a1 := t6.al (td, .dK []) (by simp)
    have a2 := t6.al (mo, .dK []) (by simp)
    have nd := t6.nd
    simp only [List.map_cons, List.map_nil, List.nodup_cons, List.mem_cons, List.not_mem_nil, or_false, not_or, not_false_eq_true, List.nodup_nil, and_true, true_and] at nd
    refine k ⟨n, n, td, mo, [], []⟩ _ ⟨⟨dx, _, t6.ob, ⟨Nat.le_trans l4 (by decide), ?_, ?_, ?_, ?_, fun m b1 b2 b3 b4 => ?_⟩⟩, a1.1, a2.1, fun t ht => (by cases ht), ⟨Ne.symm a1.2, Ne.symm a2.2, fun e => nd e.symm⟩, fun t ht => (by cases ht), List.Pairwise.nil⟩ rfl (fun b hb => ?_) t6.kf
    · rw [lookup_putF, if_neg (by decide +kernel), lookup_putF, if_neg (by decide +kernel), lookup_putF, if_neg (by decide +kernel), lookup_putF, if_pos rfl]
    · rw [lookup_putF, if_neg (by decide +kernel), lookup_putF, if_neg (by decide +kernel), lookup_putF, if_pos rfl]
    · rw [lookup_putF, if_neg (by decide +kernel), lookup_putF, if_pos rfl]
    · rw [lookup_putF, if_pos rfl]
    · rw [lookup_putF, if_neg b4, lookup_putF, if_neg b3, lookup_putF, if_neg b2, lookup_putF, if_neg b1]; rfl
    · rcases sfp_mem.mp hb with h | h | h | ⟨t, ht, h⟩
      · exact .inl h
      · exact .inr (by rw [h]; exact t6.nw (td, .dK []) (by simp))
      · exact .inr (by rw [h]; exact t6.nw (mo, .dK []) (by simp))
      · cases ht
end
end GS

set_option linter.all false
set_option maxHeartbeats 4000000
namespace NI
open PySem PySem.Spec PyProof.Rows L2 HT
variable {X : Cx}
/-- x not in [] -/
def rNotIn0 : R2 := fun x y H Q => ∃ p, y = .ref p ∧ H p = some (.lst []) ∧ Q (.bl true) H
theorem op_notIn0 : OpR X (compareOp .NotIn) rNotIn0 := by
  intro pins s σ H x y v u Q I rx ry h
  obtain ⟨p, rfl, hq, q⟩ := h
  cases ry
  obtain ⟨its, r, pl, hz⟩ := I.list (SqL.of hq)
  cases r
  exact SeqAt.notIn_listAt (fun _ => false) pl.isList (fun w hw => by simp at hw) ⟨.bl _, H, I, rfl, by simpa using q⟩
end NI

set_option Elab.async false
set_option linter.all false
set_option maxRecDepth 100000
namespace SG
open PySem PySem.Spec PyProof.Rows L2
open PySem.SeqAt PySem.MeetsSeq PySem.MeetsSeq2 PySem.MeetsSeq3 PySem.SeqRoads2 PySem.W
open AutoSeq1 (wpAny_loadPart')
section
variable {pr : Program} {w : World}
/-- a list's own search, item by item, within one program -/
theorem seek (L : Addr) (vs : Array Value) (n : Nat) (d : Option Addr) (sl : Array (Option Value)) (z : Value) (g : Nat → Bool) :
    ∀ (m i : Nat), vs.size - i = m → MeetsIn pr w (Builtin.«list.__contains__.loop» ⟨[.ref L, z, rawInt i], []⟩) fun A R s => s.heap.get? L = some ⟨.type "list", d, .seq vs n, sl⟩ ∧ (∀ j (h1 : j < vs.size), EqP pr w A.in1 s vs[j] z (g j)) ∧ R (.ok (.ret (.bool (((List.range vs.size).drop i).any g)))) s
  | 0, i, hm => by
    rintro A R ⟨hp, gl, dd, tk, os⟩ ⟨hl, he, hR⟩
    wp_walk using wpAny_loadPart' hl
    rw [show vs[((i : Nat) : Int).toNat]? = none from Array.getElem?_eq_none (by simp; omega)]
    rw [show (List.range vs.size).drop i = [] from List.drop_of_length_le (by simp; omega)] at hR
    wp_walk
    exact hR
  | m + 1, i, hm => by
    rintro A R ⟨hp, gl, dd, tk, os⟩ ⟨hl, he, hR⟩
    wp_walk using wpAny_loadPart' hl
    have lt : i < vs.size := by omega
    rw [show vs[((i : Nat) : Int).toNat]? = some vs[i] by simp [lt]]
    rw [show (List.range vs.size).drop i = i :: (List.range vs.size).drop (i + 1) by simp [List.drop_eq_getElem_cons, lt], List.any_cons] at hR
    refine wpAny_bind (he i lt _ _ ?_)
    rcases eg : g i with _ | _
    · rw [eg] at hR
      wp_walk
      rw [show ((i : Int) + 1) = ((i + 1 : Nat) : Int) by push_cast; rfl]
      refine ⟨plainId_quiet plain_contains_loop _, codeAny_builtin entry_contains_loop ?_⟩
      rw [Around.under_plainId plain_contains_loop _]
      exact seek L vs n d sl z g m (i + 1) (by omega) A R _ ⟨hl, he, by simpa using hR⟩
    · rw [eg] at hR
      wp_walk
      exact hR
theorem seek_all (L : Addr) (vs : Array Value) (n : Nat) (d : Option Addr) (sl : Array (Option Value)) (z : Value) (g : Nat → Bool) :
    MeetsIn pr w (Builtin.«list.__contains__» ⟨[.ref L, z], []⟩) fun A R s => s.heap.get? L = some ⟨.type "list", d, .seq vs n, sl⟩ ∧ (∀ j (h1 : j < vs.size), EqP pr w A.in1 s vs[j] z (g j)) ∧ R (.ok (.ret (.bool ((List.range vs.size).any g)))) s := by
  rintro A R ⟨hp, gl, dd, tk, os⟩ ⟨hl, he, hR⟩
  wp_walk using wpAny_loadPart' hl
  refine ⟨plainId_quiet plain_contains_loop _, codeAny_builtin entry_contains_loop ?_⟩
  rw [Around.under_plainId plain_contains_loop _]
  exact seek L vs n d sl z g _ 0 rfl A R _ ⟨hl, he, by simpa using hR⟩
theorem notin_all {A : Around} {s : Shared} {E Q : Value → Shared → Prop} {L : Addr} {vs : Array Value} {z : Value} (g : Nat → Bool) (hl : s.heap.IsList L vs) (he : ∀ j (h1 : j < vs.size), EqP pr w A.in1 s vs[j] z (g j)) (q : Q (.bool (!(List.range vs.size).any g)) s) : wpAny (model pr w) A (compareOp .NotIn z (.ref L)) Q E s := by
  obtain ⟨⟨oc, od, da, sl⟩, h1, h2, n, h3⟩ := id hl
  dsimp only at h2 h3
  subst h2 h3
  have ty : s.TypeIs (.ref L) "list" := ⟨_, h1, rfl⟩
  show wpAny _ A (do return .bool (!(← contains (.ref L) z))) Q E s
  refine wpAny_bind (wpAny_contains_slot ty F.slot_list_contains (wpAny_mono (call_meetsIn F.slot_list_contains ty F.entry_list_contains (F.args_list_contains_2 _ _) (seek_all L vs n od sl z g) (Q := fun v s' => ∃ b, v = .bool b ∧ Q (.bool (!b)) s') (E := E) ⟨h1, he, _, rfl, q⟩) ?_ (fun _ _ e => e)))
  rintro v s' ⟨b, rfl, hq⟩
  exact wpAny_truthy_bool (wpAny_pure hq)
theorem same_tup (a b : Addr) (us vs : Array Value) (n m : Nat) (d1 d2 : Option Addr) (sl1 sl2 : Array (Option Value)) (g : Nat → Bool) :
    MeetsIn pr w (Builtin.«tuple.__eq__» ⟨[.ref a, .ref b], []⟩) fun A R s => s.heap.get? a = some ⟨.type "tuple", d1, .seq us n, sl1⟩ ∧ s.heap.get? b = some ⟨.type "tuple", d2, .seq vs m, sl2⟩ ∧ (∀ j (h1 : j < us.size) (h2 : j < vs.size), EqP pr w A.in1 s us[j] vs[j] (g j)) ∧ R (.ok (.ret (.bool ((List.range (min us.size vs.size)).all g && us.size == vs.size)))) s := by
  refine fun A R s h => ?_
  obtain ⟨hp, gl, dd, tk, os⟩ := s
  obtain ⟨ha, hb, he, hR⟩ := h
  have sub := AutoSeq1.sub_tuple_tuple
  have lz : (us.toList.zip vs.toList).length = min us.size vs.size := by simp
  wp_walk using wpAny_loadPart' ha, wpAny_loadPart' hb, wpAny_forIn_list _ (fun rest b s' => b.1 = none ∧ s' = ⟨hp, gl, dd, tk, os⟩ ∧ ∃ i, rest = (us.toList.zip vs.toList).drop i ∧ R (.ok (.ret (.bool (((List.range (min us.size vs.size)).drop i).all g && us.size == vs.size)))) ⟨hp, gl, dd, tk, os⟩) _
  case turn =>
    rintro ⟨y, x⟩ rest bb s' ⟨eb, rfl, i, hz, hR⟩
    have lt : i < (us.toList.zip vs.toList).length := by
      refine Nat.lt_of_not_le fun h => ?_
      rw [List.drop_of_length_le h] at hz; cases hz
    have lm : i < min us.size vs.size := lz ▸ lt
    have l1 : i < us.size := by omega
    have l2 : i < vs.size := by omega
    rw [List.drop_eq_getElem_cons lt] at hz
    obtain ⟨hyx, rfl⟩ := List.cons.inj hz
    obtain ⟨rfl, rfl⟩ : y = us[i] ∧ x = vs[i] := by
      have e := Prod.ext_iff.mp hyx
      simpa using e
    rw [show (List.range (min us.size vs.size)).drop i = i :: (List.range (min us.size vs.size)).drop (i + 1) by simp [List.drop_eq_getElem_cons, lm], List.all_cons] at hR
    refine wpAny_bind (he i l1 l2 _ _ ?_)
    rcases eg : g i with _ | _
    · rw [eg] at hR
      wp_walk
      simpa using hR
    · rw [eg] at hR
      wp_walk
      exact ⟨rfl, rfl, i + 1, rfl, by simpa using hR⟩
  case fin =>
    rintro ⟨b1, b2⟩ s' ⟨eb, rfl, i, hz, hR⟩
    dsimp only at eb
    subst eb
    have ge : min us.size vs.size ≤ i := by
      refine Nat.le_of_not_lt fun h => ?_
      rw [List.drop_eq_getElem_cons (show i < (us.toList.zip vs.toList).length by rw [lz]; exact h)] at hz; cases hz
    rw [List.drop_of_length_le (by simpa using ge)] at hR
    wp_walk
    simpa [Builtin.Tuple.tupleCompareSizes] using hR
  case h =>
    exact ⟨rfl, rfl, 0, rfl, by simpa using hR⟩
theorem eqP_tup {A : Around} {s : Shared} {a b : Addr} {us vs : Array Value} {g : Nat → Bool} (ha : s.heap.IsTuple a us) (hb : s.heap.IsTuple b vs) (hu : A.units < cLine) (ne : a ≠ b) (he : ∀ j (h1 : j < us.size) (h2 : j < vs.size), EqP pr w A.in1 s us[j] vs[j] (g j)) :
    EqP pr w A s (.ref a) (.ref b) ((List.range (min us.size vs.size)).all g && us.size == vs.size) := eqP_refs ne fun E Q q => by
  obtain ⟨⟨oc, od, da, sl⟩, h1, h2, n, h3⟩ := id ha
  obtain ⟨⟨oc2, od2, da2, sl2⟩, k1, k2, m, k3⟩ := id hb
  dsimp only at h2 h3 k2 k3
  subst h2 h3 k2 k3
  have ty1 : s.TypeIs (.ref a) "tuple" := ⟨_, h1, rfl⟩
  have ty2 : s.TypeIs (.ref b) "tuple" := ⟨_, k1, rfl⟩
  exact wpAny_richCompare_same_room (op := .Eq) ty1 ty2 F.slot_tuple_eq (call_meetsIn F.slot_tuple_eq ty1 F.entry_tuple_eq (F.args_tuple_eq_2 _ _) (same_tup a b us vs n m od od2 sl sl2 g) ⟨h1, k1, he, show Value.bool _ ≠ Value.notImplemented ∧ Q (.bool _) s from ⟨(fun z => nomatch z), q⟩⟩) hu
end
end SG

set_option linter.all false
set_option maxHeartbeats 4000000
namespace GS
open PySem L2 HX
/-! ### dealings -/
theorem pw_get' {α β : Type} {R : α → β → Prop} : ∀ {xs : List α} {ys : List β} {i : Nat} {x : α}, Paired R xs ys → xs[i]? = some x → ∃ y, ys[i]? = some y ∧ R x y
  | _, _, i, x, .nil, e => by simp at e
  | _, _, 0, x, .cons h _, e => ⟨_, rfl, by simp at e; subst e; exact h⟩
  | _, _, i + 1, x, .cons _ r, e => pw_get' (i := i) r (by simpa using e)
theorem valV_mem {κ : Type} [DecidableEq κ] {k : κ} {v : V} : ∀ {kvs : List (κ × V)} {i : Nat}, (kvs.map (·.1)).Nodup → kvs[i]? = some (k, v) → valV kvs k = some v
  | [], i, _, e => by simp at e
  | p :: kvs, 0, _, e => by
    have e : p = (k, v) := by simpa using e
    rw [e]
    exact valV_pos (p := (k, v)) rfl
  | p :: kvs, i + 1, nd, e => by
    obtain ⟨n1, n2⟩ := List.nodup_cons.mp nd
    have e : kvs[i]? = some (k, v) := by simpa using e
    exact (valV_neg (p := p) fun z => n1 (List.mem_map.mpr ⟨(k, v), List.mem_of_getElem? e, z.symm⟩)).trans (valV_mem n2 e)
theorem fldK {X : Cx} {K : PySem.W.Frag} {e : Expr} {ta : TE} {f : Str} {pos : Pos} (he : PE X e ta) (hK : X.K = K := by rfl) (hb : attributeBase e f X.env (eval e X.env) = eval e X.env := by rfl) : PE X (.Attribute e f pos) (tFld K ta f) := by subst hK; exact pe_fld he hb
section
variable {J : It} {n : Nat} {G : Hp → Prop} {Y : Nat → Hp → V → Hp → Prop}
theorem dc_it (w : Walk J n G Y) {g : TG} {tt : TT} {tk tv : TE} {vs : List Nat} {σ : L2.St} {H1 : Hp} {D : Addr} {Qd : Hp → Prop} (Pv : Nat → Hp → Prop) (h0 : Pv 0 (upd H1 D (.dK []))) (hG : ∀ i H, i ≤ n → Pv i H → G H)
    (hs : ∀ i x H H', i < n → Pv i H → Y i H x H' → g x (wipe σ vs) H' fun σ2 H2 => wipe σ2 vs = wipe σ vs ∧ tt σ2 H2 fun b H3 =>
      if b = true then tk σ2 H3 fun y H4 => tv σ2 H4 fun z H5 => ∃ kvs k, y = kV k ∧ H5 D = some (.dK kvs) ∧ kvs.length < sizeLine ∧ Pv (i + 1) (upd H5 D (.dK (putK kvs k z))) else Pv (i + 1) H3) (hd : ∀ H, Pv n H → Qd H) :
    ∃ W : Nat → Nat → Hp → Prop, (∃ m, W 0 m (upd H1 D (.dK []))) ∧ ∀ i m H, W i m H →
      (J.stop i H ∧ Qd H) ∨ (J.go i H ∧ ∃ Nx : Hp → Prop, (∀ H', Nx H' → ∃ m', m' < m ∧ W (i + 1) m' H') ∧ ∀ x H', J.yld i H x H' → g x (wipe σ vs) H' fun σ2 H2 => wipe σ2 vs = wipe σ vs ∧ tt σ2 H2 fun b H3 =>
        if b = true then tk σ2 H3 fun y H4 => tv σ2 H4 fun z H5 => ∃ kvs k, y = kV k ∧ H5 D = some (.dK kvs) ∧ kvs.length < sizeLine ∧ Nx (upd H5 D (.dK (putK kvs k z))) else Nx H3) := by
  refine ⟨fun i m H => m = n - i ∧ i ≤ n ∧ Pv i H, ⟨n, by simp, Nat.zero_le _, h0⟩, ?_⟩
  rintro i m H ⟨rfl, hi, p⟩
  have q := hG i H hi p
  by_cases hlt : i < n
  · exact .inr ⟨w.goes i H hlt q, Pv (i + 1), fun H' p' => ⟨n - (i + 1), by omega, rfl, hlt, p'⟩, fun x H' y => hs i x H H' hlt p (w.yields i H x H' hlt q y)⟩
  · have e : i = n := by omega
    subst e
    exact .inl ⟨w.stops H q, hd H p⟩
end
abbrev Sgt := Addr × Str × List (Str × Span)
structure DC where
  number : Int
  st : Addr
  ma : Addr
  la : Addr
  sg : Addr
  sights : List Sgt
  made : List (Str × Str) := []
  laid : List (Str × Addr × List (Int × Option Row)) := []
def MkAt (K : PySem.W.Frag) (H : Hp) (m : Str × Str) (v : V) : Prop := ∃ p, v = .ref p ∧ SqT K H p [.str "index", .str m.1, .str m.2]
def LdR (H : Hp) (kv : Key × V) (x : Int × Option Row) : Prop := kv.1 = Sum.inl x.1 ∧ RowAt H x.2 kv.2
def LdAt (H : Hp) (a : Addr) (rs : List (Int × Option Row)) : Prop := ∃ kvs, H a = some (.dK kvs) ∧ Paired (LdR H) kvs rs
def ldkv (ls : List (Str × Addr × List (Int × Option Row))) : List (Key × V) := ls.map fun x => (Sum.inr x.1, V.ref x.2.1)
def SgAt (K : PySem.W.Frag) (H : Hp) (s : Sgt) (v : V) : Prop := ∃ p, v = .ref p ∧ H p = some (.tup [.str s.2.1, .ref s.1]) ∧ BdAt K H s.1 s.2.2
def dfp (dc : DC) (dl : Addr) : List Addr := dl :: dc.ma :: dc.la :: dc.sg :: ((dc.sights.map fun s => s.1) ++ dc.laid.map fun x => x.2.1)
structure Dfl (dc : DC) (fs : List (Str × V)) : Prop where
  len : fs.length ≤ 10
  l1 : fs.lookup ("number" : Str) = some (.int dc.number)
  l2 : fs.lookup ("_store" : Str) = some (.ref dc.st)
  l3 : fs.lookup ("_made" : Str) = some (.ref dc.ma)
  l4 : fs.lookup ("_laid" : Str) = some (.ref dc.la)
  l5 : fs.lookup ("_sights" : Str) = some (.ref dc.sg)
  l6 : fs.lookup ("_over" : Str) = some (.bl false)
  no : ∀ m : Str, m ≠ "number" → m ≠ "_store" → m ≠ "_made" → m ≠ "_laid" → m ≠ "_sights" → m ≠ "_over" → fs.lookup m = none
structure DAt (K : PySem.W.Frag) (CD : Addr) (H : Hp) (dl : Addr) (dc : DC) : Prop where
  ob : ∃ dx fs, H dl = some (.ins CD dx fs) ∧ Dfl dc fs
  ma : ∃ vs, H dc.ma = some (.lst vs) ∧ Paired (MkAt K H) dc.made vs
  la : H dc.la = some (.dK (ldkv dc.laid))
  lv : ∀ x ∈ dc.laid, LdAt H x.2.1 x.2.2
  sg : ∃ vs, H dc.sg = some (.lst vs) ∧ Paired (SgAt K H) dc.sights vs
  ne : dc.ma ≠ dc.sg
  nl : (dc.la :: dc.laid.map fun x => x.2.1).Nodup
  ns : ∀ s ∈ dc.sights, s.1 ∉ dc.la :: dc.laid.map fun x => x.2.1
  kd : (dc.laid.map fun x => x.1).Nodup
theorem bd_keys {K : PySem.W.Frag} {H : Hp} : ∀ {kvs : List (Key × V)} {bs : List (Str × Span)}, Paired (BdRel K H) kvs bs → (kvs.map (·.1)) = bs.map fun p => (Sum.inr p.1 : Key)
  | _, _, .nil => rfl
  | _, _, .cons h r => by rw [List.map_cons, List.map_cons, bd_keys r, h.1]
theorem BdAt.keep {K : PySem.W.Frag} {H H' : Hp} {d : Addr} {bs : List (Str × Span)} (h : BdAt K H d bs) (k : ∀ o, H d = some o → H' d = some o) (t : TK H H') : BdAt K H' d bs := by
  obtain ⟨kvs, e, p⟩ := h
  exact ⟨kvs, k _ e, pw_imp (fun _ _ ⟨a, q, b, c⟩ => ⟨a, q, b, sqt_keep t c⟩) p⟩
theorem sg_keep {K : PySem.W.Frag} {H H' : Hp} (t : TK H H') : ∀ {ss : List Sgt} {vs : List V}, (∀ s ∈ ss, ∀ o, H s.1 = some o → H' s.1 = some o) → Paired (SgAt K H) ss vs → Paired (SgAt K H') ss vs
  | _, _, _, .nil => .nil
  | _, _, k, .cons ⟨p, e, h1, h2⟩ r => .cons ⟨p, e, t.tup h1, h2.keep (k _ (List.mem_cons_self ..)) t⟩ (sg_keep t (fun s m => k s (List.mem_cons_of_mem _ m)) r)
theorem mk_keep {K : PySem.W.Frag} {H H' : Hp} (t : TK H H') {ms : List (Str × Str)} {vs : List V} (h : Paired (MkAt K H) ms vs) : Paired (MkAt K H') ms vs := pw_imp (fun _ _ ⟨p, e, b⟩ => ⟨p, e, sqt_keep t b⟩) h
theorem LdAt.keep {H H' : Hp} {a : Addr} {rs : List (Int × Option Row)} (h : LdAt H a rs) (k : ∀ o, H a = some o → H' a = some o) (t : TK H H') : LdAt H' a rs := by
  obtain ⟨kvs, e, p⟩ := h
  exact ⟨kvs, k _ e, pw_imp (fun _ _ ⟨a, b⟩ => ⟨a, RowAt.keep t b⟩) p⟩
theorem dfp_sg {dc : DC} {dl : Addr} {s : Sgt} (h : s ∈ dc.sights) : s.1 ∈ dfp dc dl := by
  unfold dfp
  exact List.mem_cons_of_mem _ (List.mem_cons_of_mem _ (List.mem_cons_of_mem _ (List.mem_cons_of_mem _ (List.mem_append_left _ (List.mem_map.mpr ⟨s, h, rfl⟩)))))
theorem dfp_ld {dc : DC} {dl : Addr} {x : Str × Addr × List (Int × Option Row)} (h : x ∈ dc.laid) : x.2.1 ∈ dfp dc dl := by
  unfold dfp
  exact List.mem_cons_of_mem _ (List.mem_cons_of_mem _ (List.mem_cons_of_mem _ (List.mem_cons_of_mem _ (List.mem_append_right _ (List.mem_map.mpr ⟨x, h, rfl⟩)))))
theorem DAt.keep {K : PySem.W.Frag} {CD : Addr} {H H' : Hp} {dl : Addr} {dc : DC} (x : DAt K CD H dl dc) (k : ∀ b ∈ dfp dc dl, ∀ o, H b = some o → H' b = some o) (t : TK H H') : DAt K CD H' dl dc := by
  obtain ⟨dx, fs, ob, l⟩ := x.ob
  obtain ⟨vs, h1, h2⟩ := x.sg
  obtain ⟨ws, m1, m2⟩ := x.ma
  exact ⟨⟨dx, fs, k _ (by simp [dfp]) _ ob, l⟩, ⟨ws, k _ (by simp [dfp]) _ m1, mk_keep t m2⟩, k _ (by simp [dfp]) _ x.la, fun y hy => (x.lv y hy).keep (k _ (dfp_ld hy)) t, ⟨vs, k _ (by simp [dfp]) _ h1, sg_keep t (fun s m => k s.1 (dfp_sg m)) h2⟩, x.ne, x.nl, x.ns, x.kd⟩
theorem DAt.same {K : PySem.W.Frag} {CD : Addr} {H H' : Hp} {dl : Addr} {dc : DC} (x : DAt K CD H dl dc) (s : Same H H') : DAt K CD H' dl dc := x.keep (fun b _ o e => s b o e) (TK.same s)
structure TxtD (K : PySem.W.Frag) (C : Addr) : Prop where
  cl : Cls K C
  n1 : NoAttr K C "number"
  n2 : NoAttr K C "_store"
  n3 : NoAttr K C "_made"
  n4 : NoAttr K C "_laid"
  n5 : NoAttr K C "_sights"
  n6 : NoAttr K C "_over"
def spDI (K : PySem.W.Frag) (CD : Addr) : Sp := fun vs H Q _ => ∃ (dl dx st : Addr) (n : Int), vs = [.ref dl, .ref st, .int n] ∧ H dl = some (.ins CD dx []) ∧
  ∀ dc H', DAt K CD H' dl dc → dc.number = n → dc.st = st → (dc.sights = [] ∧ dc.made = [] ∧ dc.laid = []) → (∀ b ∈ dfp dc dl, b = dl ∨ H b = none) → KF [dl] H H' → Q .non H'
def SameB (bs bs' : List (Str × Span)) : Prop := ∀ f, bs.lookup f = bs'.lookup f
def spSaw (K : PySem.W.Frag) (CD : Addr) : Sp := fun vs H Q _ => (∃ (dl : Addr) (t : V), vs = [.ref dl, t, .non] ∧ Q .non H) ∨ ∃ (dl b : Addr) (t : Str) (dc : DC) (bs : List (Str × Span)), vs = [.ref dl, .str t, .ref b] ∧ DAt K CD H dl dc ∧ dc.sights.length ≤ 1000 ∧ (∀ s ∈ dc.sights, (s.2.2.map (·.1)).Nodup) ∧ BdAt K H b bs ∧ (bs.map (·.1)).Nodup ∧ bs.length ≤ 1000 ∧
  (∀ H', Same H H' → (∃ s ∈ dc.sights, s.2.1 = t ∧ SameB s.2.2 bs) → Q .non H') ∧ ∀ d H', H d = none → DAt K CD H' dl { dc with sights := dc.sights ++ [(d, t, bs)] } → KF [dc.sg] H H' → Q .non H'
def spSeen (K : PySem.W.Frag) (CD : Addr) : Sp := fun vs H Q _ => ∃ (dl : Addr) (dc : DC), vs = [.ref dl] ∧ DAt K CD H dl dc ∧ dc.sights.length ≤ 1000 ∧
  ∀ p ss us H', H p = none → Same H H' → H' p = some (.lst us) → Paired (SgAt K H') ss us → ss.map (fun s => s.2) = dc.sights.map (fun s => s.2) → Q (.ref p) H'
theorem room80 {k : Nat} {A : Around} (hr : Room k A) : A.units + 80 < cLine := by
  have z := hr.un
  omega
/-! ### a sight among others -/
section
open PySem.SeqAt
variable {X : Cx} {pins : List (Addr × Obj)} {σ : L2.St} {H : Hp} {s : Shared}
def spanD : Option Int → PyData
  | none => .none
  | some n => .int n
theorem span_dp (K : PySem.W.Frag) (H : Hp) : ∀ o : Option Int, Dp K H (oV o) (spanD o)
  | none => .non
  | some n => .int n
theorem span_eqv : ∀ a b : Option Int, PyData.eqv (spanD a) (spanD b) = decide (a = b)
  | none, none => rfl
  | none, some _ => rfl
  | some _, none => rfl
  | some a, some b => by
    show (a == b) = _
    by_cases e : a = b
    · subst e; simp
    · simp [e]
theorem span_lay : ∀ o : Option Int, (spanD o).canLay0 = true
  | none => rfl
  | some _ => rfl
theorem span_dep : ∀ o : Option Int, (spanD o).depth ≤ 1
  | none => by decide
  | some _ => by show PyData.depth (.int _) ≤ 1; simp [PyData.depth]
theorem eqP_span (I : Inv X pins σ H s) {A : Around} (hu : A.units + 64 < cLine) {t1 t2 : Addr} {p q : Span} (h1 : SqT X.K H t1 [oV p.1, oV p.2]) (h2 : SqT X.K H t2 [oV q.1, oV q.2]) : EqP X.prog X.w A s (.ref t1) (.ref t2) (decide (p = q)) := by
  have d1 : Dp X.K H (.ref t1) (.tuple [spanD p.1, spanD p.2]) := .tup h1 (.cons (span_dp _ _ _) (.cons (span_dp _ _ _) .nil))
  have d2 : Dp X.K H (.ref t2) (.tuple [spanD q.1, spanD q.2]) := .tup h2 (.cons (span_dp _ _ _) (.cons (span_dp _ _ _) .nil))
  obtain ⟨as, r1⟩ := Dp.reads I _ _ _ d1 (show RelV (V.ref t1) (Value.ref t1) from rfl)
  obtain ⟨bs, r2⟩ := Dp.reads I _ _ _ d2 (show RelV (V.ref t2) (Value.ref t2) from rfl)
  have sh : ∀ r : Span, SeqAt.shaped (.tuple [spanD r.1, spanD r.2]) = true := fun r => by
    rcases r with ⟨_ | _, _ | _⟩ <;> rfl
  have e := SeqAt.eqAt_reads _ _ A s _ _ _ _ r1 r2 (SeqAt.canLay_of_shaped (sh p)) (SeqAt.canLay_of_shaped (sh q)) (SeqAt.room_of_shaped (sh p) hu)
  have ee : PyData.eqv (.tuple [spanD p.1, spanD p.2]) (.tuple [spanD q.1, spanD q.2]) = decide (p = q) := by
    show (PyData.eqv (spanD p.1) (spanD q.1) && (PyData.eqv (spanD p.2) (spanD q.2) && true)) = _
    rw [span_eqv, span_eqv, Bool.and_true]
    obtain ⟨a, b⟩ := p
    obtain ⟨c, d⟩ := q
    by_cases e1 : a = c <;> by_cases e2 : b = d <;> simp [e1, e2]
  rw [ee] at e
  exact e.eqP
def bdEq (bs bs' : List (Str × Span)) : Bool := bs.all fun p => decide (bs'.lookup p.1 = some p.2)
theorem hits_bd (I : Inv X pins σ H s) {A : Around} (hu : A.units + 64 < cLine) {ls : List (Key × V)} {vb : List (Key × Value)} (rb : KV ls vb) {bs' : List (Str × Span)} (pb : Paired (BdRel X.K H) ls bs') {ks : List (Key × V)} {va : List (Key × Value)} (ra : KV ks va) :
    ∀ {bs : List (Str × Span)}, Paired (BdRel X.K H) ks bs → PySem.W.KeqHitsP X.prog X.w A s vb va (bdEq bs bs') := by
  unfold KV at ra
  induction ra with
  | nil => intro bs h; cases h; exact .nil
  | @cons p q ps qs h t k =>
    intro bs hp
    cases hp with
    | @cons _ y _ ys hy hr =>
    obtain ⟨h1, h2⟩ := h
    obtain ⟨e1, t1, e2, sq⟩ := hy
    obtain ⟨key, v⟩ := q
    have h1 : p.1 = key := h1
    rw [e1] at h1
    subst h1
    rw [e2] at h2
    obtain rfl : v = Value.ref t1 := h2
    have rr := rb.val (Sum.inr y.1)
    show PySem.W.KeqHitsP _ _ A s vb ((Sum.inr y.1, Value.ref t1) :: qs) (decide (bs'.lookup y.1 = some y.2) && bdEq ys bs')
    rcases look_bd y.1 pb with ⟨n1, n2⟩ | ⟨sp, t2, n1, n2, sq2⟩
    · rw [n2] at rr
      have en : valueAt vb (Sum.inr y.1) = none := by
        cases e : valueAt vb (Sum.inr y.1) with
        | none => rfl
        | some z => rw [e] at rr; exact rr.elim
      rw [n1, decide_eq_false (fun z => by cases z), Bool.false_and]
      exact .miss en
    · rw [n2] at rr
      obtain ⟨z, hz, rz⟩ := rr.some_of
      obtain rfl : z = Value.ref t2 := rz
      rw [n1, show decide (some sp = some y.2) = decide (y.2 = sp) by
        by_cases e : y.2 = sp
        · rw [e, decide_eq_true rfl, decide_eq_true rfl]
        · rw [decide_eq_false e, decide_eq_false fun z => e (Option.some.inj z).symm]]
      exact .hit hz (eqP_span I hu sq sq2) (k hr)
def sgEq (a b : Str × List (Str × Span)) : Bool := decide (a.1 = b.1) && (a.2.length == b.2.length && bdEq a.2 b.2)
theorem eqP_bd (I : Inv X pins σ H s) {A : Around} (hu : A.units + 66 < cLine) {d1 d2 : Addr} {bs bs' : List (Str × Span)} (ne : d1 ≠ d2) (h1 : BdAt X.K H d1 bs) (h2 : BdAt X.K H d2 bs') : EqP X.prog X.w A s (.ref d1) (.ref d2) (bs.length == bs'.length && bdEq bs bs') := by
  obtain ⟨ks, ha, pa⟩ := h1
  obtain ⟨ls, hb, pb⟩ := h2
  obtain ⟨_, ya, va, ra, da⟩ := (show ObjOk X.prog X.w H s.heap d1 (.dK ks) from I.hok d1 _ ha)
  obtain ⟨_, yb, vb, rb, db⟩ := (show ObjOk X.prog X.w H s.heap d2 (.dK ls) from I.hok d2 _ hb)
  refine eqP_refs ne fun E Q q => ?_
  refine PySem.W.rcP_dicts (knd := mixKind X.prog X.w) (r := bdEq bs bs') ya yb da db (by omega) (fun _ => hits_bd I (by show A.units + 1 + 64 < cLine; omega) rb pb ra pa) E Q ?_
  have e1 : va.length = bs.length := by rw [← ra.length]; exact pw_len pa
  have e2 : vb.length = bs'.length := by rw [← rb.length]; exact pw_len pb
  rw [e1, e2]
  exact q
theorem eqP_sg (I : Inv X pins σ H s) {A : Around} (hu : A.units + 68 < cLine) {p1 p2 d1 d2 : Addr} {x y : Str × List (Str × Span)} (ne : p1 ≠ p2) (nd : d1 ≠ d2) (s1 : SqT X.K H p1 [.str x.1, .ref d1]) (s2 : SqT X.K H p2 [.str y.1, .ref d2]) (h1 : BdAt X.K H d1 x.2) (h2 : BdAt X.K H d2 y.2) : EqP X.prog X.w A s (.ref p1) (.ref p2) (sgEq x y) := by
  obtain ⟨us, r1, t1, _⟩ := I.tuple s1
  obtain ⟨ws, r2, t2, _⟩ := I.tuple s2
  cases r1 with
  | @cons _ u1 _ _ a1 b1 =>
  cases b1 with
  | @cons _ u2 _ _ a2 b2 =>
  cases b2
  cases r2 with
  | @cons _ w1 _ _ c1 e1 =>
  cases e1 with
  | @cons _ w2 _ _ c2 e2 =>
  cases e2
  obtain rfl : u2 = Value.ref d1 := a2
  obtain rfl : w2 = Value.ref d2 := c2
  obtain ⟨k1, rfl⟩ : ∃ k, u1 = Value.str x.1 k := a1
  obtain ⟨k2, rfl⟩ : ∃ k, w1 = Value.str y.1 k := c1
  have hg := SG.eqP_tup (pr := X.prog) (w := X.w) (A := A) (s := s) (g := fun j => if j = 0 then decide (x.1 = y.1) else (x.2.length == y.2.length && bdEq x.2 y.2)) t1 t2 (by omega) ne fun j h1' h2' => by
    match j, h1', h2' with
    | 0, _, _ =>
      have e := (SeqAt.EqAt.str_str (A := A.in1) (s := s) x.1 k1 y.1 k2).eqP (prog := X.prog) (w := X.w)
      rw [show (x.1 == y.1) = decide (x.1 = y.1) by by_cases c : x.1 = y.1 <;> simp [c]] at e
      exact e
    | 1, _, _ => exact eqP_bd I (by show A.units + 1 + 66 < cLine; omega) nd h1 h2
  have ee : ((List.range (min 2 2)).all (fun j => if j = 0 then decide (x.1 = y.1) else (x.2.length == y.2.length && bdEq x.2 y.2)) && (2 : Nat) == 2) = sgEq x y := by
    show ((decide (x.1 = y.1) && ((x.2.length == y.2.length && bdEq x.2 y.2) && true)) && true) = _
    rw [Bool.and_true, Bool.and_true]
    rfl
  rw [← ee]
  exact hg
/-- a sight not in a list of sights -/
def rNotInS (K : PySem.W.Frag) : R2 := fun x y H Q => ∃ (p L d : Addr) (z : Str × List (Str × Span)) (ss : List Sgt) (vs : List V), x = .ref p ∧ y = .ref L ∧ SqT K H p [.str z.1, .ref d] ∧ BdAt K H d z.2 ∧ SqL K H L vs ∧ Paired (SgAt K H) ss vs ∧ (∀ v ∈ vs, v ≠ .ref p) ∧ (∀ s ∈ ss, s.1 ≠ d) ∧ Q (.bl (!ss.any fun s => sgEq s.2 z)) H
theorem any_get {α : Type} (f : α → Bool) : ∀ (xs : List α) (g : Nat → Bool), (∀ j (h : j < xs.length), g j = f xs[j]) → (List.range xs.length).any g = xs.any f
  | [], _, _ => rfl
  | x :: xs, g, h => by
    rw [List.length_cons, List.range_succ_eq_map, List.any_cons, List.any_map, List.any_cons, h 0 (by simp), any_get f xs (g ∘ Nat.succ) fun j hj => h (j + 1) (by simpa using hj)]
    rfl
theorem op_notInS (hu : X.A.units + 80 < cLine) : OpR X (compareOp .NotIn) (rNotInS X.K) := by
  intro pins s σ H x y v u Q I rx ry h
  obtain ⟨p, L, d, z, ss, vs, rfl, rfl, sp, bd, sl, pr, np, nd, q⟩ := h
  obtain rfl : v = Value.ref p := rx
  obtain rfl : u = Value.ref L := ry
  obtain ⟨us, r1, ⟨o, n, l1, l2, l2', l3⟩, _⟩ := I.list sl
  have len : us.length = ss.length := by rw [← r1.length, pw_len pr]
  refine SG.notin_all (pr := X.prog) (w := X.w) (fun j => ((ss[j]?).map fun s => sgEq s.2 z).getD false) ⟨o, l1, l2, n, l3⟩ (fun j hj => ?_) ?_
  · have hj : j < us.length := by simpa using hj
    have hs : j < ss.length := by omega
    have lv := pw_len pr
    have es : ss[j]? = some ss[j] := List.getElem?_eq_getElem hs
    obtain ⟨y, ey, q1, rfl, sq, sb⟩ := pw_get' pr es
    have hjv : j < vs.length := by omega
    have evj : vs[j] = .ref q1 := by
      rw [List.getElem?_eq_getElem hjv] at ey
      exact Option.some.inj ey
    obtain ⟨u0, eu0, ru⟩ := r1.get (List.getElem?_eq_getElem hjv)
    rw [evj] at ru
    have eu : us[j] = Value.ref q1 := by
      rw [List.getElem?_eq_getElem hj] at eu0
      rw [Option.some.inj eu0]
      exact ru
    rw [es]
    show EqP _ _ _ s (us.toArray[j]'_) (.ref p) (sgEq ss[j].2 z)
    rw [show us.toArray[j]'(by simpa using hj) = us[j] by simp, eu]
    exact eqP_sg I (by show X.A.units + 1 + 68 < cLine; omega) (fun e => np _ (List.getElem_mem hjv) (by rw [evj, e])) (nd _ (List.getElem_mem hs)) (SqT.of sq) sp sb bd
  · have e : us.toArray.size = ss.length := by simpa using len
    rw [e, any_get (fun s : Sgt => sgEq s.2 z) ss _ fun j hj => by rw [List.getElem?_eq_getElem hj]; rfl]
    exact ⟨.bl _, H, I, rfl, q⟩
theorem sg_same {bs bs' : List (Str × Span)} (n1 : (bs.map (·.1)).Nodup) (l : bs.length = bs'.length) (h : bdEq bs bs' = true) (n2 : (bs'.map (·.1)).Nodup) : SameB bs bs' := fun f => by
  have h := List.all_eq_true.mp h
  have mem : ∀ {cs : List (Str × Span)} {f : Str} {sp : Span}, cs.lookup f = some sp → (f, sp) ∈ cs := fun {cs} {f} {sp} => by
    induction cs with
    | nil => intro e; cases e
    | cons c cs ih =>
      intro e
      rw [List.lookup] at e
      split at e
      · rename_i hc
        have : f = c.1 := by simpa using hc
        rw [this, ← Option.some.inj e]; exact List.mem_cons_self ..
      · exact List.mem_cons_of_mem _ (ih e)
  have has : ∀ {cs : List (Str × Span)} {f : Str}, f ∈ cs.map (·.1) → ∃ sp, cs.lookup f = some sp := fun {cs} {f} => by
    induction cs with
    | nil => intro e; cases e
    | cons c cs ih =>
      intro e
      rw [List.lookup]
      split
      · exact ⟨_, rfl⟩
      · rename_i hc
        rcases List.mem_cons.mp e with e | e
        · rw [e] at hc; simp at hc
        · exact ih e
  cases e : bs.lookup f with
  | some sp =>
    have := h _ (mem e)
    exact (of_decide_eq_true this).symm
  | none =>
    cases e2 : bs'.lookup f with
    | none => rfl
    | some sp =>
      exfalso
      have nf : f ∉ bs.map (·.1) := fun m => by
        obtain ⟨sp, q⟩ := has m
        rw [e] at q; cases q
      have le := nodup_le (f :: bs.map (·.1)) (bs'.map (·.1)) (List.nodup_cons.mpr ⟨nf, n1⟩) fun y hy => by
        rcases List.mem_cons.mp hy with rfl | hy
        · exact List.mem_map.mpr ⟨_, mem e2, rfl⟩
        · obtain ⟨x, hx, rfl⟩ := List.mem_map.mp hy
          exact List.mem_map.mpr ⟨_, mem (of_decide_eq_true (h x hx)), rfl⟩
      rw [List.length_cons, List.length_map, List.length_map] at le
      omega
theorem sgEq_same {a b : Str × List (Str × Span)} (n1 : (a.2.map (·.1)).Nodup) (n2 : (b.2.map (·.1)).Nodup) (h : sgEq a b = true) : a.1 = b.1 ∧ SameB a.2 b.2 := by
  unfold sgEq at h
  rw [Bool.and_eq_true, Bool.and_eq_true] at h
  exact ⟨of_decide_eq_true h.1, sg_same n1 (by simpa using h.2.1) h.2.2 n2⟩
end
section
variable {P : Program} {w : World} {K : PySem.W.Frag} {mg : Str → Option Value} {base : Heap}
theorem scDI : FnScope ["self", "store", "number"] ["self", "store", "number"] (defScope s_Dealing___init__) := ⟨rfl, rfl, rfl, by decide +kernel, rfl, by decide +kernel, by decide +kernel⟩
theorem ok_di {f CD : Addr} {fd : FuncData} (F : Fun K "__init__" "Dealing.__init__" s_Dealing___init__ f fd) (TD : TxtD K CD) : FnOk P w K mg base CX0 1 f fd ["self", "store", "number"] (spDI K CD) := by
  refine F.ok scDI (fun vs H Q E h => ?_) (fun cdv A outer s H vs Q E hr h => ?_)
  · obtain ⟨dl, dx, st, n, rfl, _⟩ := h
    rfl
  · obtain ⟨dl, dx, st, n, rfl, hp, k⟩ := h
    refine ⟨_, (pss_cons (ps_fld (pv 0) (pv 2) rfl)
      (pss_cons (ps_fld (pv 0) (pv 1) rfl)
      (pss_cons (ps_fld (pv 0) (pe_lst pa_nil) rfl)
      (pss_cons (ps_fld (pv 0) pe_dnewK rfl)
      (pss_cons (ps_fld (pv 0) (pe_lst pa_nil) rfl)
      (pss_one (ps_fld (pv 0) pe_bl rfl))))))), ?_⟩
    have h0 : H dl ≠ none := fun e => by rw [e] at hp; cases hp
    have t0 := TI.start hp
    have few : ∀ (fs : List (Str × V)) (m v j), fs.length ≤ j → (putF m v fs).length ≤ j + 1 := fun fs m v j l => Nat.le_trans (putF_len m v fs) (Nat.succ_le_succ l)
    have l0 : ([] : List (Str × V)).length ≤ 0 := Nat.le_refl _
    have l1 := few _ "number" (.int n) _ l0
    have l2 := few _ "_store" (.ref st) _ l1
    refine ⟨_, rfl, _, rfl, dl, CD, dx, _, rfl, t0.ob, TD.cl, TD.n1, Nat.lt_of_le_of_lt l0 (by decide), ?_⟩
    have t1 := t0.fld (fs' := putF "number" (.int n) [])
    refine ⟨_, rfl, _, rfl, dl, CD, dx, _, rfl, t1.ob, TD.cl, TD.n2, Nat.lt_of_le_of_lt l1 (by decide), ?_⟩
    have t2 := t1.fld (fs' := putF "_store" (.ref st) (putF "number" (.int n) []))
    refine ⟨by show 0 ≤ sizeLine; decide, fun ma hma => ?_⟩
    have t3 := t2.new (o := .lst []) hma h0
    refine ⟨_, rfl, dl, CD, dx, _, rfl, t3.ob, TD.cl, TD.n3, Nat.lt_of_le_of_lt l2 (by decide), ?_⟩
    have l3 := few _ "_made" (.ref ma) _ l2
    have t4 := t3.fld (fs' := putF "_made" (.ref ma) (putF "_store" (.ref st) (putF "number" (.int n) [])))
    intro la hla
    have t5 := t4.new (o := .dK []) hla h0
    refine ⟨_, rfl, dl, CD, dx, _, rfl, t5.ob, TD.cl, TD.n4, Nat.lt_of_le_of_lt l3 (by decide), ?_⟩
    have l4 := few _ "_laid" (.ref la) _ l3
    have t6 := t5.fld (fs' := putF "_laid" (.ref la) (putF "_made" (.ref ma) (putF "_store" (.ref st) (putF "number" (.int n) []))))
    refine ⟨by show 0 ≤ sizeLine; decide, fun sg hsg => ?_⟩
    have t7 := t6.new (o := .lst []) hsg h0
    refine ⟨_, rfl, dl, CD, dx, _, rfl, t7.ob, TD.cl, TD.n5, Nat.lt_of_le_of_lt l4 (by decide), ?_⟩
    have l5 := few _ "_sights" (.ref sg) _ l4
    have t8 := t7.fld (fs' := putF "_sights" (.ref sg) (putF "_laid" (.ref la) (putF "_made" (.ref ma) (putF "_store" (.ref st) (putF "number" (.int n) [])))))
    refine ⟨_, rfl, dl, CD, dx, _, rfl, t8.ob, TD.cl, TD.n6, Nat.lt_of_le_of_lt l5 (by decide), ?_⟩
    have l6 := few _ "_over" (.bl false) _ l5
    have t9 := t8.fld (fs' := putF "_over" (.bl false) (putF "_sights" (.ref sg) (putF "_laid" (.ref la) (putF "_made" (.ref ma) (putF "_store" (.ref st) (putF "number" (.int n) []))))))
    have a1 := t9.al (ma, .lst []) (by simp)
    have a2 := t9.al (la, .dK []) (by simp)
    have a3 := t9.al (sg, .lst []) (by simp)
    refine k ⟨n, st, ma, la, sg, [], [], []⟩ _ ⟨⟨dx, _, t9.ob, ⟨Nat.le_trans l6 (by decide), ?_, ?_, ?_, ?_, ?_, ?_, fun m b1 b2 b3 b4 b5 b6 => ?_⟩⟩, ⟨[], a1.1, .nil⟩, a2.1, fun x hx => (by cases hx), ⟨[], a3.1, .nil⟩, by have z := t9.nd; simp at z; exact fun e => z.1.2 e.symm, List.nodup_cons.mpr ⟨List.not_mem_nil, List.nodup_nil⟩, fun x hx => (by cases hx), List.nodup_nil⟩ rfl rfl ⟨rfl, rfl, rfl⟩ (fun b hb => ?_) t9.kf
    · simp only [lookup_putF]; rw [if_neg (by decide +kernel), if_neg (by decide +kernel), if_neg (by decide +kernel), if_neg (by decide +kernel), if_neg (by decide +kernel), if_pos trivial]
    · simp only [lookup_putF]; rw [if_neg (by decide +kernel), if_neg (by decide +kernel), if_neg (by decide +kernel), if_neg (by decide +kernel), if_pos trivial]
    · simp only [lookup_putF]; rw [if_neg (by decide +kernel), if_neg (by decide +kernel), if_neg (by decide +kernel), if_pos trivial]
    · simp only [lookup_putF]; rw [if_neg (by decide +kernel), if_neg (by decide +kernel), if_pos trivial]
    · simp only [lookup_putF]; rw [if_neg (by decide +kernel), if_pos trivial]
    · simp only [lookup_putF]; rw [if_pos trivial]
    · simp only [lookup_putF]; rw [if_neg b6, if_neg b5, if_neg b4, if_neg b3, if_neg b2, if_neg b1]; rfl
    · have n1 := t9.nw (ma, .lst []) (by simp)
      have n2 := t9.nw (la, .dK []) (by simp)
      have n3 := t9.nw (sg, .lst []) (by simp)
      simp only [dfp, List.map_nil, List.append_nil, List.mem_cons, List.not_mem_nil, or_false] at hb
      rcases hb with h | h | h | h
      · exact .inl h
      · exact .inr (h ▸ n1)
      · exact .inr (h ▸ n2)
      · exact .inr (h ▸ n3)
theorem scSw : FnScope ["self", "table", "bounds", "sight", "field"] ["self", "table", "bounds"] (defScope s_Dealing_saw) := ⟨rfl, rfl, rfl, by decide +kernel, rfl, by decide +kernel, by decide +kernel⟩
theorem ok_sw {f CD : Addr} {fd : FuncData} (F : Fun K "saw" "Dealing.saw" s_Dealing_saw f fd) (T : Txt mg) (TD : TxtD K CD) : FnOk P w K mg base CX0 1 f fd ["self", "table", "bounds"] (spSaw K CD) := by
  refine F.ok scSw (fun vs H Q E h => ?_) (fun cdv A outer s H vs Q E hr h => ?_)
  · rcases h with ⟨dl, t, rfl, _⟩ | ⟨dl, b, t, dc, bs, rfl, _⟩ <;> rfl
  · have big : (1000 : Nat) < sizeLine := by decide
    have hu80 := room80 hr
    refine ⟨_, (pss_cons (ps_if (pt_cmpR op_isN (pv 2) pe_non (nomark _)) (pss_one ps_retN) pss_nil)
      (pss_cons (ps_set (i := 3) scSw.nd rfl (Or.inl rfl) (pe_tup (pa_cons (pv 1) (pa_cons (pe_lock (pe_dc (own := [("field", 4)]) rfl scSw.nd (pi_keys (pv 2)) (blkOk_by (N := ["self", "table", "bounds", "sight", "field"]) (sc := defScope s_Dealing_saw) (by decide +kernel)) (fun _ _ _ _ _ => (pg_name (i := 4) scSw.nd rfl (Or.inl rfl))) (fun _ _ _ _ _ => pts_nil) (fun _ _ _ _ _ => (pv 4)) (fun _ _ _ _ _ => (pe_callTy (RK.tupQ (K := K)) (by rfl) T.tuple (by decide +kernel) (pa_cons (pe_dget (hu_of hr) (pv 2) (pv 4) (fun _ _ => rfl)) pa_nil))))) pa_nil))))
      (pss_one (ps_if (pt_cmpR (op_notInS hu80) (pv 3) (pe_fld (pv 0) rfl) (by rfl)) (pss_one (ps_expr (pe_bm PySem.F.plainAttrs_list PySem.F.slot_list_append PySem.F.type_list_append mt_append (pe_fld (pv 0) rfl) (pa_cons (pv 3) pa_nil)))) pss_nil)))), ?_⟩
    rcases h with ⟨dl, t, rfl, k⟩ | ⟨dl, b, t, dc, bs, rfl, x, fewS, nS, bd, nb, few, kf0, kk⟩
    · exact sif ⟨_, rfl, rfl, _, rfl, iteT k⟩
    · refine sif ⟨_, rfl, rfl, _, rfl, iteF ?_⟩
      dsimp only [tNext]
      obtain ⟨dx, fs, ob, l⟩ := x.ob
      obtain ⟨vs, sg1, sg2'⟩ := x.sg
      have sg1' := sg1
      obtain ⟨kvs, hb, pr⟩ := id bd
      have lk := pw_len pr
      refine sa1 ⟨_, rfl, b, _, hb, trivial, fun od => ?_⟩
      refine ⟨_, rfl, b, od, rfl, .inl ⟨kvs, upd_same, ?_⟩⟩
      intro D hD
      have hne : D ≠ b := fun e => by rw [e, upd_same] at hD; cases hD
      have hDn : H D = none := by rw [upd_ne hne] at hD; exact hD
      have keys := bd_keys pr
      have nk : (kvs.map (·.1)).Nodup := by
        rw [keys]
        have e : (bs.map fun p => (Sum.inr p.1 : Key)) = (bs.map (·.1)).map fun x => (Sum.inr x : Key) := by rw [List.map_map]; rfl
        rw [e]
        exact List.Pairwise.map _ (fun a b h e => h (Sum.inr.inj e)) nb
      refine dc_it (walk_keys (kvs := kvs)) (fun i H' => H' b = some (.frz od (.dK kvs)) ∧ (∀ x o, x ≠ b → x ≠ D → H x = some o → H' x = some o) ∧ H' D = some (.dK (kvs.take i)))
        ⟨by rw [upd_ne hne.symm, upd_same], fun x o h1 h2 e => by rw [upd_ne h2, upd_ne h1]; exact e, upd_same⟩ (fun i H' _ q => q.1) ?_ ?_
      · rintro i y H0 H' hi ⟨fz, kp, hd⟩ ⟨rfl, k0, v0, hx, rfl⟩
        have hi2 : i < kvs.length := hi
        obtain ⟨p, hp, rel⟩ := pw_get' pr hx
        obtain ⟨r1, t0, r2, r3⟩ := rel
        have r1 : k0 = Sum.inr p.1 := r1
        have r2 : v0 = .ref t0 := r2
        subst r1 r2
        have ev : valV kvs (Sum.inr p.1) = some (.ref t0) := valV_mem nk hx
        have tk : TK H H' := fun a u hu e => kp a u (ne_of e hb (by intro z; subst z; exact hu)) (ne_of_none e hDn) e
        refine ⟨rfl, _, rfl, _, rfl, _, rfl, b, .ref t0, rfl, ?_, t0, _, rfl, .inr ⟨sqt_keep tk r3, ?_⟩⟩
        · exact .inl ⟨kvs, Sum.inr p.1, .inr ⟨od, fz⟩, rfl, ev.symm⟩
        · have nv : valV (kvs.take i) (Sum.inr p.1 : Key) = none := valV_none fun m => by
            obtain ⟨q, mq, eq⟩ := List.mem_map.mp m
            obtain ⟨j, lj, ej⟩ := List.getElem_of_mem mq
            rw [List.length_take] at lj
            rw [List.getElem_take] at ej
            have z := List.pairwise_iff_getElem.mp nk j i (by rw [List.length_map]; omega) (by rw [List.length_map]; exact hi2) (by omega)
            rw [List.getElem_map, List.getElem_map, ej] at z
            obtain ⟨_, ex⟩ := List.getElem?_eq_some_iff.mp hx
            rw [ex] at z
            exact z eq
          refine ⟨_, Sum.inr p.1, rfl, hd, Nat.lt_of_le_of_lt (show (kvs.take i).length ≤ 1000 by rw [List.length_take]; omega) big, by rw [upd_ne hne.symm]; exact fz, fun x o h1 h2 e => by rw [upd_ne h2]; exact kp x o h1 h2 e, ?_⟩
          rw [upd_same, putK_new _ nv, List.take_add_one, hx]
          rfl
      · rintro H' ⟨fz, kp, hd⟩
        rw [List.take_length] at hd
        refine ⟨fz, ?_⟩
        have s1 : Same H (upd H' b (.dK kvs)) := fun x o e => by
          by_cases z : x = b
          · rw [z] at e ⊢
            rw [upd_same, ← hb]; exact e
          · rw [upd_ne z]; exact kp x o z (ne_of_none e hDn) e
        have hd1 : (upd H' b (.dK kvs)) D = some (.dK kvs) := by rw [upd_ne hne]; exact hd
        generalize upd H' b (.dK kvs) = H1 at s1 hd1
        refine ⟨by show 2 ≤ sizeLine; decide, fun p hp => gn ?_⟩
        have s2 := same_new (o := .tup [.str t, .ref D]) hp
        have hp2 : (upd H1 p (.tup [.str t, .ref D])) p = some (.tup [.str t, .ref D]) := upd_same
        have hd2 := s2 _ _ hd1
        generalize upd H1 p (.tup [.str t, .ref D]) = H2 at s2 hp2 hd2
        have s12 := s1.trans s2
        have sg2 := s12 _ _ sg1
        have sg0 := sg_keep (TK.same s12) (fun s _ o e => s12 _ _ e) sg2'
        have bd2 : BdAt K H2 D bs := ⟨kvs, hd2, pw_imp (fun _ _ ⟨a, q, b, c⟩ => ⟨a, q, b, sqt_keep (TK.same s12) c⟩) pr⟩
        have lvs := pw_len sg2'
        refine ifs ⟨_, rfl, _, rfl, dl, CD, dx, fs, _, rfl, s12 _ _ ob, TD.cl, TD.n5, l.l5, p, dc.sg, D, (t, bs), dc.sights, vs, rfl, rfl, SqT.of hp2, bd2, SqL.of sg2, sg0, fun v hv e => ?_, fun s hs e => ?_, _, rfl, ?_⟩
        · obtain ⟨i, li, ei⟩ := List.getElem_of_mem hv
          obtain ⟨sx, _, q, e1, sq, _⟩ := pw_get sg2' (i := i) (List.getElem?_eq_getElem li)
          rw [ei, e] at e1
          obtain rfl : p = q := by injection e1
          rw [none_of_same s1 hp] at sq; cases sq
        · obtain ⟨i, li, ei⟩ := List.getElem_of_mem hs
          obtain ⟨v, _, q, _, _, ks, ek, _⟩ := pw_get' sg2' (i := i) (List.getElem?_eq_getElem li)
          rw [ei, e, hDn] at ek; cases ek
        have other : ∀ a o, a ≠ dc.sg → H2 a = some o → (upd H2 dc.sg (.lst (vs ++ [.ref p]))) a = some o := fun a o n e => by rw [upd_ne n]; exact e
        cases ea : dc.sights.any fun s => sgEq s.2 (t, bs) with
        | true =>
          obtain ⟨s0, hs0, es0⟩ := List.any_eq_true.mp ea
          obtain ⟨e1, e2⟩ := sgEq_same (nS s0 hs0) nb es0
          exact iteF (kf0 H2 s12 ⟨s0, hs0, e1, e2⟩)
        | false =>
          refine iteT ?_
          refine ⟨_, rfl, dl, CD, dx, fs, _, rfl, s12 _ _ ob, TD.cl, TD.n5, l.l5, .inl ⟨rfl, _, SqL.of sg2⟩, _, rfl, _, _, _, rfl, rfl, sg2, Nat.lt_of_le_of_lt (show vs.length ≤ 1000 by omega) big, ?_⟩
          have tk2 : TK H2 (upd H2 dc.sg (.lst (vs ++ [.ref p]))) := fun a u hu e => by rw [upd_ne (ne_of e sg2 (by intro z; subst z; exact hu))]; exact e
          have oth : ∀ a, a ≠ dc.sg → ∀ o, H a = some o → (upd H2 dc.sg (.lst (vs ++ [.ref p]))) a = some o := fun a n o e => other a o n (s12 _ _ e)
          have tkk := TK.trans (TK.same s12) tk2
          obtain ⟨ws, m1, m2⟩ := x.ma
          have dsg : ∀ {a : Addr} {ks : List (Key × V)}, H a = some (.dK ks) → a ≠ dc.sg := fun e z => by rw [z, sg1'] at e; cases e
          refine kk D _ hDn ⟨⟨dx, fs, oth _ (ne_of ob sg1' (by intro z; cases z)) _ ob, ⟨l.len, l.l1, l.l2, l.l3, l.l4, l.l5, l.l6, l.no⟩⟩, ⟨ws, oth _ x.ne _ m1, mk_keep tkk m2⟩, oth _ (dsg x.la) _ x.la, fun y hy => (x.lv y hy).keep (fun o e => ?_) tkk, ⟨_, upd_same, pw_app (sg_keep tkk (fun s hs o e => ?_) sg2') (.cons ⟨p, rfl, tk2.tup hp2, kvs, ?_, pw_imp (fun _ _ ⟨a, q, b, c⟩ => ⟨a, q, b, sqt_keep tkk c⟩) pr⟩ .nil)⟩, x.ne, x.nl, fun s hs => ?_, x.kd⟩ fun a o n e => ?_
          · obtain ⟨ks, ek, _⟩ := x.lv y hy
            exact oth _ (dsg ek) _ e
          · obtain ⟨i, li, ei⟩ := List.getElem_of_mem hs
            obtain ⟨v, _, q, _, _, ks, ek, _⟩ := pw_get' sg2' (i := i) (List.getElem?_eq_getElem li)
            rw [ei] at ek
            exact oth _ (dsg ek) _ e
          · exact other _ _ (fun (z : D = dc.sg) => by rw [z, sg1'] at hDn; cases hDn) hd2
          · rcases List.mem_append.mp hs with h | h
            · exact x.ns s h
            · rw [List.mem_singleton.mp h]
              show D ∉ _
              intro m
              rcases List.mem_cons.mp m with m | m
              · rw [m, x.la] at hDn; cases hDn
              · obtain ⟨y, hy, ey⟩ := List.mem_map.mp m
                obtain ⟨ks, ek, _⟩ := x.lv y hy
                rw [ey, hDn] at ek; cases ek
          · exact oth a (fun z => n (by rw [z]; exact List.mem_singleton.mpr rfl)) o e
end
end GS

set_option Elab.async false
set_option linter.all false
set_option maxRecDepth 100000
set_option maxHeartbeats 4000000
namespace MD
open PySem PySem.Spec PyProof.Rows L2 HT PySem.W
theorem minD_int : ∀ (ys : List Int) (y : Int), ∃ m, minD (.int y) (ys.map PyData.int) = .int m ∧ m ∈ y :: ys ∧ ∀ z ∈ y :: ys, m ≤ z
  | [], y => ⟨y, rfl, List.mem_singleton.mpr rfl, fun z h => by rw [List.mem_singleton.mp h]; exact Int.le_refl _⟩
  | x :: ys, y => by
    have e : minD (.int y) ((x :: ys).map PyData.int) = minD (if dataLt (.int x) (.int y) then .int x else .int y) (ys.map PyData.int) := rfl
    rw [e, dataLt_int]
    by_cases c : x < y
    · rw [decide_eq_true c, if_pos rfl]
      obtain ⟨m, h1, h2, h3⟩ := minD_int ys x
      refine ⟨m, h1, List.mem_cons_of_mem _ h2, fun z hz => ?_⟩
      rcases List.mem_cons.mp hz with q | q
      · have := h3 x (List.mem_cons_self ..); omega
      · exact h3 z q
    · rw [decide_eq_false c, if_neg (by decide)]
      obtain ⟨m, h1, h2, h3⟩ := minD_int ys y
      refine ⟨m, h1, ?_, fun z hz => ?_⟩
      · rcases List.mem_cons.mp h2 with q | q
        · rw [q]; exact List.mem_cons_self ..
        · exact List.mem_cons_of_mem _ (List.mem_cons_of_mem _ q)
      · rcases List.mem_cons.mp hz with q | q
        · exact h3 z (by rw [q]; exact List.mem_cons_self ..)
        · rcases List.mem_cons.mp q with q | q
          · have := h3 y (List.mem_cons_self ..); omega
          · exact h3 z (List.mem_cons_of_mem _ q)
theorem reads_ints {h : Heap} : ∀ {its : List Value} {ns : List Int}, IntsAre its ns → ReadsAll h its (ns.map PyData.int) []
  | _, _, .nil => .nil
  | _, _, .cons i t r => ReadsAll.cons (as := []) (bs := []) (Reads.int i t) (reads_ints r)
theorem depth_ints : ∀ ns : List Int, PyData.depthAll (ns.map PyData.int) = 0
  | [] => rfl
  | n :: ns => by show max 0 (PyData.depthAll (ns.map PyData.int)) = 0; rw [depth_ints ns]; rfl
variable {X : Cx}
/-- min(xs, default=d), xs a list of ints -/
def rMinD (K : PySem.W.Frag) : List V → List V → Hp → VK → Prop := fun vs zs H Q => ∃ (a : Addr) (ns : List Int) (d : V), vs = [V.ref a] ∧ zs = [d] ∧ SqL K H a (ns.map V.int) ∧ (ns = [] → Q d H) ∧ ∀ m, m ∈ ns → (∀ y, y ∈ ns → m ≤ y) → Q (.int m) H
theorem cr_minD (hc : X.calm = true) (hu : X.A.units + 1 < cLine) : CallRK X (.builtin "min") ["default"] (rMinD X.K) := by
  intro pins s σ H vs zs us ws Q I r r2 h
  obtain ⟨a, ns, d, rfl, rfl, hs, q0, q⟩ := h
  obtain ⟨its, rv, hl, _⟩ := I.list hs
  rw [Vals.ref1 r]
  obtain ⟨u, rfl, ru⟩ := vals1 r2
  refine min_list_default (xs := ns.map PyData.int) (I.ok.hd hc) hl.isList (by simpa using reads_ints rv.ints) ⟨fun x hx y hy => ?_, fun x hx => ?_⟩ (by rw [depth_ints]; exact hu) (fun e h' tk hk => ⟨d, H, I.kept hk, ru, q0 (by simpa using e)⟩) fun y ys i v h' tk bs e hv hr hk => ?_
  · obtain ⟨i, _, rfl⟩ := List.mem_map.mp hx
    obtain ⟨j, _, rfl⟩ := List.mem_map.mp hy
    rfl
  · obtain ⟨i, _, rfl⟩ := List.mem_map.mp hx
    exact fun z => by cases z
  · cases ns with
    | nil => cases e
    | cons n ns =>
      rw [List.map_cons] at e
      injection e with e1 e2
      subst e1 e2
      obtain ⟨m, h1, h2, h3⟩ := minD_int ns n
      rw [h1] at hr
      cases hr with
      | int _ t => exact ⟨.int m, H, I.kept hk, ⟨t, rfl⟩, q m h2 h3⟩
end MD

set_option linter.all false
set_option maxHeartbeats 4000000
namespace GS
open PySem L2 HX
theorem sg_upd {K : PySem.W.Frag} {H : Hp} {D : Addr} {ws ws' : List V} (hd : H D = some (.lst ws)) {ss : List Sgt} {vs : List V} (h : Paired (SgAt K H) ss vs) : Paired (SgAt K (upd H D (.lst ws'))) ss vs := by
  have tk : TK H (upd H D (.lst ws')) := fun a u hu e => by rw [upd_ne (ne_of e hd (by intro z; subst z; exact hu))]; exact e
  refine pw_imp (fun s v ⟨p, e, h1, h2⟩ => ⟨p, e, tk.tup h1, ?_⟩) h
  obtain ⟨kvs, hb, pr⟩ := h2
  exact BdAt.keep ⟨kvs, hb, pr⟩ (fun o eo => by rw [upd_ne (ne_of hb hd (by intro z; cases z))]; exact eo) tk
def momN (ms : List (Int × Int)) (n : Int) : Int := ((ms.find? fun m => decide (m.1 = n)).map fun m => m.2).getD 0
def momP (ms : List (Int × Int)) (n : Int) : List (Int × Int) := if (ms.any fun m => decide (m.1 = n)) = true then ms.map (fun m => if m.1 = n then (m.1, momN ms n + 1) else m) else ms ++ [(n, momN ms n + 1)]
theorem valV_mokv (n : Int) : ∀ ms : List (Int × Int), valV (mokv ms) (Sum.inl n) = (ms.find? fun m => decide (m.1 = n)).map fun m => V.int m.2
  | [] => rfl
  | x :: ms => by
    by_cases e : x.1 = n
    · rw [List.find?_cons_of_pos (by simpa using e)]
      exact valV_pos (p := (Sum.inl x.1, V.int x.2)) (by rw [e])
    · rw [List.find?_cons_of_neg (by simpa using e), ← valV_mokv n ms]
      exact valV_neg (p := (Sum.inl x.1, V.int x.2)) (fun z => e (Sum.inl.inj z))
theorem putK_mokv (ms : List (Int × Int)) (n : Int) : putK (mokv ms) (Sum.inl n) (.int (momN ms n + 1)) = mokv (momP ms n) := by
  unfold putK momP
  have e : ((mokv ms).any fun kv => decide (kv.1 = (Sum.inl n : Key))) = ms.any fun m => decide (m.1 = n) := by
    unfold mokv
    rw [List.any_map]
    congr 1
    funext m
    show decide ((Sum.inl m.1 : Key) = Sum.inl n) = _
    by_cases c : m.1 = n
    · rw [c, decide_eq_true rfl, decide_eq_true rfl]
    · rw [decide_eq_false c, decide_eq_false fun z => c (Sum.inl.inj z)]
  rw [e]
  split
  · unfold mokv
    rw [List.map_map, List.map_map]
    refine List.map_congr_left fun m _ => ?_
    show (if (Sum.inl m.1 : Key) = Sum.inl n then ((Sum.inl m.1 : Key), V.int (momN ms n + 1)) else (Sum.inl m.1, V.int m.2)) = ((Sum.inl (if m.1 = n then (m.1, momN ms n + 1) else m).1 : Key), V.int (if m.1 = n then (m.1, momN ms n + 1) else m).2)
    by_cases c : m.1 = n
    · rw [if_pos (by rw [c]), if_pos c]
    · rw [if_neg (fun z => c (Sum.inl.inj z)), if_neg c]
  · unfold mokv
    rw [List.map_append]
    rfl
theorem SAt.setMo {K : PySem.W.Frag} {CS CT CI : Addr} {H : Hp} {st : Addr} {sc : SC} {ms : List (Int × Int)} (x : SAt K CS CT CI H st sc) : SAt K CS CT CI (upd H sc.mo (.dK (mokv ms))) st { sc with moms := ms } := by
  have tk : TK H (upd H sc.mo (.dK (mokv ms))) := fun b u hu e => by rw [upd_ne (ne_of e x.mo (by intro z; subst z; exact hu))]; exact e
  obtain ⟨dx, fs, ob, l⟩ := x.ob
  exact ⟨⟨dx, fs, (upd_ne x.s1.2.1).trans ob, ⟨l.len, l.l1, l.l2, l.l3, l.l4, l.no⟩⟩, (upd_ne x.s1.2.2).trans x.td, upd_same, fun t ht => (x.tv t ht).keep (fun b hb o e => (upd_ne fun (q : b = sc.mo) => (x.sp t ht).2.2 (by rw [← q]; exact hb)).trans e) tk, x.s1, x.sp, x.pd⟩
def spOp (K : PySem.W.Frag) (CS CT CI CD : Addr) : Sp := fun vs H Q _ => ∃ (st : Addr) (sc : SC) (v : V) (n : Int), vs = [.ref st, v] ∧ (v = .int n ∨ v = .non ∧ n = sc.newest) ∧ SAt K CS CT CI H st sc ∧ sc.first ≤ n ∧ n ≤ sc.newest ∧ sc.moms.length ≤ 1000 ∧
  ∀ dl dc H', DAt K CD H' dl dc → dc.number = n → dc.st = st → (dc.sights = [] ∧ dc.made = [] ∧ dc.laid = []) → (∀ b ∈ dfp dc dl, H b = none) → SAt K CS CT CI H' st { sc with moms := momP sc.moms n } → KF [sc.mo] H H' → Q (.ref dl) H'
section
variable {P : Program} {w : World} {K : PySem.W.Frag} {mg : Str → Option Value} {base : Heap}
theorem scSn : FnScope ["self", "table", "bounds"] ["self"] (defScope s_Dealing_seen) := ⟨rfl, rfl, rfl, by decide +kernel, rfl, by decide +kernel, by decide +kernel⟩
theorem ok_sn {f CD : Addr} {fd : FuncData} (F : Fun K "seen" "Dealing.seen" s_Dealing_seen f fd) (hdict : mg "dict" = none) (TD : TxtD K CD) : FnOk P w K mg base CX0 1 f fd ["self"] (spSeen K CD) := by
  refine F.ok scSn (fun vs H Q E h => ?_) (fun cdv A outer s H vs Q E hr h => ?_)
  · obtain ⟨dl, dc, rfl, _⟩ := h
    rfl
  · obtain ⟨dl, dc, rfl, x, few, kk⟩ := h
    have big : (1000 : Nat) < sizeLine := by decide
    refine ⟨_, (pss_one (ps_ret (pe_lc (own := [("table", 1), ("bounds", 2)]) rfl scSn.nd (RK.piL (K := K) (pe_fld (pv 0) rfl)) (blkOk_by (N := ["self", "table", "bounds"]) (sc := defScope s_Dealing_seen) (by decide +kernel)) (fun _ _ _ _ _ => (RK.pgTup (K := K) (n := 2) rfl (pgs_cons (pg_name (i := 1) scSn.nd rfl (Or.inl rfl)) (pgs_cons (pg_name (i := 2) scSn.nd rfl (Or.inl rfl)) pgs_nil)))) (fun _ _ _ _ _ => pts_nil) (fun _ _ _ _ _ => (pe_tup (pa_cons (pv 1) (pa_cons (pe_callTy call_dictD (by rfl) hdict (by decide +kernel) (pa_cons (pv 2) pa_nil)) pa_nil))))))), ?_⟩
    obtain ⟨dx, fs, ob, l⟩ := x.ob
    obtain ⟨vs, g1, g2⟩ := x.sg
    have lv := pw_len g2
    refine ⟨_, rfl, dl, CD, dx, fs, _, rfl, ob, TD.cl, TD.n5, l.l5, dc.sg, rfl, ⟨_, SqL.of g1⟩, fun D hD => ?_⟩
    refine lc_it (walk_list (xs := vs)) (fun i H' => (∀ b o, b ≠ D → H b = some o → H' b = some o) ∧ ∃ acc ss, H' D = some (.lst acc) ∧ Paired (SgAt K H') ss acc ∧ ss.map (fun s => s.2) = (dc.sights.take i).map (fun s => s.2) ∧ acc.length = i)
      ⟨fun b o nb e => by rw [upd_ne nb]; exact e, [], [], upd_same, .nil, rfl, rfl⟩ (fun i H' _ q => SqL.of (q.1 _ _ (ne_of_none g1 hD) g1)) ?_ ?_
    · rintro i y H0 H' hi ⟨kp, acc, ss, hd, pa, es, la⟩ ⟨rfl, ey⟩
      obtain ⟨sgt, ev, p, rfl, h1, kvs, hb, pr⟩ := pw_get g2 ey
      have sH : Same H H' := fun b o e => kp b o (ne_of_none e hD) e
      refine ⟨p, _, rfl, SqT.of (sH _ _ h1), rfl, _, _, rfl, _, _, rfl, rfl, rfl, ?_⟩
      refine ⟨_, rfl, _, rfl, sgt.1, kvs, rfl, .inl (sH _ _ hb), fun d hdn => ?_⟩
      have s1 := same_new (o := .dK kvs) hdn
      have hd1 : (upd H' d (.dK kvs)) d = some (.dK kvs) := upd_same
      have hD1 := s1 _ _ hd
      have pa1 := sg_keep (TK.same s1) (fun s _ o e => s1 _ _ e) pa
      have sH1 := sH.trans s1
      have kp1 : ∀ b o, b ≠ D → H b = some o → (upd H' d (.dK kvs)) b = some o := fun b o nb e => s1 _ _ (kp b o nb e)
      generalize upd H' d (.dK kvs) = H1 at s1 hd1 hD1 pa1 sH1 kp1
      refine ⟨by show 2 ≤ sizeLine; decide, fun p2 hp2 => ?_⟩
      have s2 := same_new (o := .tup [.str sgt.2.1, .ref d]) hp2
      have hp3 : (upd H1 p2 (.tup [.str sgt.2.1, .ref d])) p2 = some (.tup [.str sgt.2.1, .ref d]) := upd_same
      have hd2 := s2 _ _ hd1
      have hD2 := s2 _ _ hD1
      have pa2 := sg_keep (TK.same s2) (fun s _ o e => s2 _ _ e) pa1
      have sH2 := sH1.trans s2
      have kp2 : ∀ b o, b ≠ D → H b = some o → (upd H1 p2 (.tup [.str sgt.2.1, .ref d])) b = some o := fun b o nb e => s2 _ _ (kp1 b o nb e)
      generalize upd H1 p2 (.tup [.str sgt.2.1, .ref d]) = H2 at s2 hp3 hd2 hD2 pa2 sH2 kp2
      refine ⟨acc, hD2, Nat.lt_of_le_of_lt (show acc.length ≤ 1000 by have : i < vs.length := hi; omega) big, fun b o nb e => by rw [upd_ne nb]; exact kp2 b o nb e, acc ++ [.ref p2], ss ++ [(d, sgt.2)], upd_same, ?_, ?_, by rw [List.length_append, la]; rfl⟩
      · refine sg_upd hD2 (pw_app pa2 (.cons ⟨p2, rfl, hp3, kvs, hd2, pw_imp (fun _ _ ⟨a, q, b, c⟩ => ⟨a, q, b, sqt_keep (TK.same sH2) c⟩) pr⟩ .nil))
      · rw [List.map_append, es, List.take_add_one, ev, List.map_append]
        rfl
    · rintro H' ⟨kp, acc, ss, hd, pa, es, la⟩
      rw [← lv, List.take_length] at es
      exact kk D ss acc H' hD (fun b o e => kp b o (ne_of_none e hD) e) hd pa es
theorem toN {te : TE} {σ : L2.St} {H : Hp} {Q : VK} {n : Int} (h : ∀ (σ' : L2.St) (Q' : VK), Q' (.int n) H → te σ H Q') (q : Q (.int n) H) : te σ H Q := h σ Q q
theorem scOp : FnScope ["self", "number", "moment"] ["self", "number"] (defScope s_Store_opened) := ⟨rfl, rfl, rfl, by decide +kernel, rfl, by decide +kernel, by decide +kernel⟩
theorem ok_op {f CS CT CI CD fc fi : Addr} {fd fdc fdi : FuncData} {prm : Arguments} {dvs : List V} {kws : List (Str × V)} (F : FunD K "opened" "Store.opened" prm (defBody s_Store_opened) (defScope s_Store_opened) dvs kws f fd) (TS : TxtS K CS) (Cck : CalM P w K mg base 1 CS "_check" ["self", "number"] (spCk K CS CT CI) fc fdc) (MD : CalC P w K mg base 1 "Dealing" CD ["self", "store", "number"] (spDI K CD) fi fdi) : FnOk P w K mg base CX0 3 f fd ["self", "number"] (spOp K CS CT CI CD) := by
  refine F.ok scOp (fun vs H Q E h => ?_) (fun cdv A outer s H vs Q E hr h => ?_)
  · obtain ⟨st, sc, v, n, rfl, _⟩ := h
    rfl
  · obtain ⟨st, sc, v, n, rfl, hv, x, fst, lst, few, kk⟩ := h
    have hr2 : Room 2 _ := hr
    have hr1 : Room 1 _ := hr2.mono (by decide)
    have big : (1000 : Nat) < sizeLine := by decide
    refine ⟨_, (pss_cons (ps_set (i := 2) scOp.nd rfl (Or.inl rfl) (pe_ifExp (pt_cmpR op_isN (pv 1) pe_non (nomark _)) (pe_fld (pv 0) rfl) (pv 1)))
      (pss_cons (ps_expr (pe_meth (pv 0) TS.cl Cck.mt Cck.G hr1 Cck.b .nil pass0 (pa_cons (pv 2) pa_nil)))
      (pss_cons (ps_dput (hu_of hr) (pe_fld (pv 0) rfl) (pv 2) (pe_op op_add (pe_dget2 (hu_of hr) (pe_fld (pv 0) rfl) (pv 2) pe_int ⟨rfl, rfl, rfl, rfl⟩) pe_int) rfl)
      (pss_one (ps_ret (pe_make MD.M MD.G hr2 rfl MD.g MD.b .nil pass0 (pa_cons (pv 0) (pa_cons (pv 2) pa_nil)))))))), ?_⟩
    obtain ⟨dx, fs, ob, l⟩ := x.ob
    refine sa1 (toN (n := n) ?_ ?_)
    · rcases hv with rfl | ⟨rfl, rfl⟩
      · exact fun σ' Q' q => ⟨_, rfl, rfl, _, rfl, iteF ⟨_, rfl, q⟩⟩
      · exact fun σ' Q' q => ⟨_, rfl, rfl, _, rfl, iteT ⟨_, rfl, st, CS, dx, fs, _, rfl, ob, TS.cl, TS.n2, l.l2, q⟩⟩
    refine gn ?_
    refine sq1 ?_
    refine ⟨_, rfl, st, dx, fs, rfl, ob, l.no _ (by decide +kernel) (by decide +kernel) (by decide +kernel) (by decide +kernel), _, rfl, ?_⟩
    refine ⟨st, n, sc, rfl, x, fst, lst, ?_⟩
    have lmo : (mokv sc.moms).length < sizeLine := Nat.lt_of_le_of_lt (show (mokv sc.moms).length ≤ 1000 by unfold mokv; rw [List.length_map]; exact few) big
    refine ⟨_, rfl, st, CS, dx, fs, _, rfl, ob, TS.cl, TS.n4, l.l4, sc.mo, rfl, .inl ⟨_, .inl x.mo⟩, _, rfl, valV (mokv sc.moms) (Sum.inl n), DGet.k (k := Sum.inl n) x.mo, ?_⟩
    have ev : (valV (mokv sc.moms) (Sum.inl n)).getD (.int 0) = .int (momN sc.moms n) := by
      rw [valV_mokv]
      unfold momN
      cases (sc.moms.find? fun m => decide (m.1 = n)) <;> rfl
    rw [ev]
    refine ⟨_, 1, rfl, rfl, _, rfl, st, CS, dx, fs, _, rfl, ob, TS.cl, TS.n4, l.l4, _, rfl, sc.mo, _, rfl, DPut.k (k := Sum.inl n) x.mo lmo, ?_⟩
    rw [putK_mokv]
    have x2 := x.setMo (ms := momP sc.moms n)
    have kf2 : KF [sc.mo] H (upd H sc.mo (.dK (mokv (momP sc.moms n)))) := KF.upd (.inl (List.mem_singleton.mpr rfl))
    have noneOf : ∀ b, (upd H sc.mo (.dK (mokv (momP sc.moms n)))) b = none → H b = none := fun b e => by
      by_cases z : b = sc.mo
      · rw [z, upd_same] at e; cases e
      · rw [upd_ne z] at e; exact e
    generalize upd H sc.mo (.dK (mokv (momP sc.moms n))) = H1 at x2 kf2 noneOf
    refine ⟨_, rfl, _, rfl, ?_⟩
    intro dl dxd hdl hdxd ndd
    have s1 : Same H1 (upd (upd H1 dxd (.own dl)) dl (.ins CD dxd [])) := fun b o e => by rw [upd_ne (ne_of_none e hdl), upd_ne (ne_of_none e hdxd)]; exact e
    refine ⟨dl, dxd, st, n, rfl, upd_same, fun dc H2 da e1 e2 e3 fp kf => ⟨rfl, ?_⟩⟩
    have s2 : Same H1 H2 := fun b o e => kf b o (fun m => ne_of_none e hdl (List.mem_singleton.mp m)) (s1 b o e)
    refine kk dl dc H2 da e1 e2 e3 (fun b hb => ?_) (x2.same s2) (kf2.trans (KF.same s2))
    rcases fp b hb with h | h
    · rw [h]; exact noneOf _ hdl
    · exact noneOf _ (none_of_same s1 h)
end
end GS

set_option linter.all false
set_option maxHeartbeats 4000000
namespace GS
open PySem L2 HX
section
variable {J : It} {n : Nat} {G : Hp → Prop} {Y : Nat → Hp → V → Hp → Prop}
/-- the inner walk of two -/
theorem lc2_in (w : Walk J n G Y) {g1 : TG} {tt1 : TT} {te : TE} {vs1 : List Nat} {σ2 : L2.St} {D : Addr} {Nx : Hp → Prop} {H4 : Hp} (Pv : Nat → Hp → Prop) (h0 : Pv 0 H4) (hG : ∀ i H, i ≤ n → Pv i H → G H)
    (hs : ∀ j x H H', j < n → Pv j H → Y j H x H' → g1 x (wipe σ2 vs1) H' fun σ3 H5 => wipe σ3 vs1 = wipe σ2 vs1 ∧ tt1 σ3 H5 fun b H6 => if b = true then te σ3 H6 fun y H7 => ∃ acc, H7 D = some (.lst acc) ∧ acc.length < sizeLine ∧ Pv (j + 1) (upd H7 D (.lst (acc ++ [y]))) else Pv (j + 1) H6) (hd : ∀ H, Pv n H → Nx H) :
    ∃ W1 : Nat → Nat → Hp → Prop, (∃ m, W1 0 m H4) ∧ ∀ j k H, W1 j k H →
      (J.stop j H ∧ Nx H) ∨ (J.go j H ∧ ∃ Nx1 : Hp → Prop, (∀ H', Nx1 H' → ∃ k', k' < k ∧ W1 (j + 1) k' H') ∧ ∀ x H', J.yld j H x H' → g1 x (wipe σ2 vs1) H' fun σ3 H5 => wipe σ3 vs1 = wipe σ2 vs1 ∧ tt1 σ3 H5 fun b H6 => if b = true then te σ3 H6 fun y H7 => ∃ acc, H7 D = some (.lst acc) ∧ acc.length < sizeLine ∧ Nx1 (upd H7 D (.lst (acc ++ [y]))) else Nx1 H6) := by
  refine ⟨fun i m H => m = n - i ∧ i ≤ n ∧ Pv i H, ⟨n, by simp, Nat.zero_le _, h0⟩, ?_⟩
  rintro i m H ⟨rfl, hi, p⟩
  have q := hG i H hi p
  by_cases hlt : i < n
  · exact .inr ⟨w.goes i H hlt q, Pv (i + 1), fun H' p' => ⟨n - (i + 1), by omega, rfl, hlt, p'⟩, fun x H' y => hs i x H H' hlt p (w.yields i H x H' hlt q y)⟩
  · have e : i = n := by omega
    subst e
    exact .inl ⟨w.stops H q, hd H p⟩
/-- the outer walk of two -/
theorem lc2_out (w : Walk J n G Y) {g : TG} {tt : TT} {wi1 : L2.TI} {g1 : TG} {tt1 : TT} {te : TE} {vs vs1 : List Nat} {σ : L2.St} {D : Addr} {H1 : Hp} {Qd : Hp → Prop} (Pv : Nat → Hp → Prop) (h0 : Pv 0 (upd H1 D (.lst []))) (hG : ∀ i H, i ≤ n → Pv i H → G H)
    (hs : ∀ i x H H', i < n → Pv i H → Y i H x H' → g x (wipe σ vs) H' fun σ2 H2 => wipe σ2 vs = wipe σ vs ∧ tt σ2 H2 fun b H3 =>
      if b = true then wi1 σ2 H3 fun J1 H4 => ∃ W1 : Nat → Nat → Hp → Prop, (∃ m, W1 0 m H4) ∧ ∀ j k H, W1 j k H →
        (J1.stop j H ∧ Pv (i + 1) H) ∨ (J1.go j H ∧ ∃ Nx1 : Hp → Prop, (∀ H', Nx1 H' → ∃ k', k' < k ∧ W1 (j + 1) k' H') ∧ ∀ x H', J1.yld j H x H' → g1 x (wipe σ2 vs1) H' fun σ3 H5 => wipe σ3 vs1 = wipe σ2 vs1 ∧ tt1 σ3 H5 fun b H6 =>
          if b = true then te σ3 H6 fun y H7 => ∃ acc, H7 D = some (.lst acc) ∧ acc.length < sizeLine ∧ Nx1 (upd H7 D (.lst (acc ++ [y]))) else Nx1 H6)
      else Pv (i + 1) H3) (hd : ∀ H, Pv n H → Qd H) :
    ∃ W : Nat → Nat → Hp → Prop, (∃ m, W 0 m (upd H1 D (.lst []))) ∧ ∀ i m H, W i m H →
      (J.stop i H ∧ Qd H) ∨ (J.go i H ∧ ∃ Nx : Hp → Prop, (∀ H', Nx H' → ∃ m', m' < m ∧ W (i + 1) m' H') ∧ ∀ x H', J.yld i H x H' → g x (wipe σ vs) H' fun σ2 H2 => wipe σ2 vs = wipe σ vs ∧ tt σ2 H2 fun b H3 =>
        if b = true then wi1 σ2 H3 fun J1 H4 => ∃ W1 : Nat → Nat → Hp → Prop, (∃ m, W1 0 m H4) ∧ ∀ j k H, W1 j k H →
          (J1.stop j H ∧ Nx H) ∨ (J1.go j H ∧ ∃ Nx1 : Hp → Prop, (∀ H', Nx1 H' → ∃ k', k' < k ∧ W1 (j + 1) k' H') ∧ ∀ x H', J1.yld j H x H' → g1 x (wipe σ2 vs1) H' fun σ3 H5 => wipe σ3 vs1 = wipe σ2 vs1 ∧ tt1 σ3 H5 fun b H6 =>
            if b = true then te σ3 H6 fun y H7 => ∃ acc, H7 D = some (.lst acc) ∧ acc.length < sizeLine ∧ Nx1 (upd H7 D (.lst (acc ++ [y]))) else Nx1 H6)
        else Nx H3) := by
  refine ⟨fun i m H => m = n - i ∧ i ≤ n ∧ Pv i H, ⟨n, by simp, Nat.zero_le _, h0⟩, ?_⟩
  rintro i m H ⟨rfl, hi, p⟩
  have q := hG i H hi p
  by_cases hlt : i < n
  · exact .inr ⟨w.goes i H hlt q, Pv (i + 1), fun H' p' => ⟨n - (i + 1), by omega, rfl, hlt, p'⟩, fun x H' y => hs i x H H' hlt p (w.yields i H x H' hlt q y)⟩
  · have e : i = n := by omega
    subst e
    exact .inl ⟨w.stops H q, hd H p⟩
end
/-- what of one table was written behind a moment within bounds -/
def WbIn (t : TD) (n : Int) (bs : List (Str × Span)) (x : Int) : Prop := ∃ y ∈ t.cl, inSpan (keyB bs t.fields) y.1 = true ∧ x ∈ wbC n bs t.fields none y.2
/-- what came behind a dealing that it would see -/
def Late (d : SD) (n : Int) (ss : List (Str × List (Str × Span))) (x : Int) : Prop := (∃ t ∈ d.tabs, x ∈ mbD t.2 n) ∨ ∃ s ∈ ss, ∃ t ∈ d.tabs, t.1 = s.1 ∧ WbIn t.2 n s.2 x
def mbAll (n : Int) (ts : List Tbn) : List Int := ts.flatMap fun t => mbD t.2.2.dat n
theorem wbK_mem {c : TC} {n : Int} {bs : List (Str × Span)} {ks : List Int} {m : Nat} (ok : c.Ok m) (h : ∀ k, k ∈ ks ↔ k ∈ c.ks ∧ inSpan (keyB bs c.fields) k = true) (x : Int) : x ∈ wbK c.dat n bs ks ↔ WbIn c.dat n bs x := by
  unfold wbK WbIn
  rw [List.mem_flatMap]
  constructor
  · rintro ⟨k, mk, mx⟩
    obtain ⟨h1, h2⟩ := (h k).mp mk
    obtain ⟨y, hy, rfl⟩ := List.mem_map.mp ((ok.km k).mp h1)
    rw [chain_of hy ok.kd] at mx
    exact ⟨(y.1, y.2.2), List.mem_map.mpr ⟨y, hy, rfl⟩, h2, mx⟩
  · rintro ⟨y0, hy0, h2, mx⟩
    obtain ⟨y, hy, rfl⟩ := List.mem_map.mp hy0
    refine ⟨y.1, (h y.1).mpr ⟨(ok.km _).mpr (List.mem_map.mpr ⟨y, hy, rfl⟩), h2⟩, ?_⟩
    rw [chain_of hy ok.kd]
    exact mx
def spCl (K : PySem.W.Frag) (CS CT CI CD : Addr) : Sp := fun vs H Q _ => ∃ (st dl : Addr) (sc : SC) (dc : DC) (m : Nat), vs = [.ref st, .ref dl] ∧ SAt K CS CT CI H st sc ∧ sc.Ok m ∧ m ≤ 100000 ∧ DAt K CD H dl dc ∧ sc.first ≤ dc.number ∧ dc.number ≤ sc.newest ∧ dc.sights.length ≤ 10 ∧ (∀ s ∈ dc.sights, (s.2.2.map (·.1)).Nodup) ∧
  ∀ (o : Option Int) H', Same H H' → (o = none → ∀ x, ¬ Late sc.dat dc.number (dc.sights.map fun s => s.2) x) → (∀ i, o = some i → Late sc.dat dc.number (dc.sights.map fun s => s.2) i ∧ ∀ x, Late sc.dat dc.number (dc.sights.map fun s => s.2) x → i ≤ x) → Q (oV o) H'
section
variable {P : Program} {w : World} {K : PySem.W.Frag} {mg : Str → Option Value} {base : Heap}
theorem made_few {t : Tbn} {m : Nat} (o : t.2.2.Ok m) (d : TDok t.2.2.dat) : t.2.2.made.length ≤ 4 := by
  have z := nodup_le (t.2.2.il.map (fun x => x.1)) t.2.2.fields o.ind (fun y my => by
    obtain ⟨i, hi, rfl⟩ := List.mem_map.mp my
    exact o.inf i hi)
  rw [List.length_map] at z
  have z2 := congrArg List.length d.mi
  rw [List.length_map, List.length_map] at z2
  have z2 : t.2.2.made.length = (t.2.2.il.map _).length := z2
  rw [List.length_map] at z2
  have z3 : t.2.2.fields.length ≤ 4 := d.l4
  omega
theorem mb_len {c : TC} {n : Int} (h : c.made.length ≤ 4) : (mbD c.dat n).length ≤ 5 := by
  refine Nat.le_trans (List.length_filter_le _ _) ?_
  show (_ :: c.made.map _).length ≤ 5
  rw [List.length_cons, List.length_map]
  omega
theorem scCl : FnScope ["self", "dealing", "later", "table", "number", "name", "bounds"] ["self", "dealing"] (defScope s_Store_clash) := ⟨rfl, rfl, rfl, by decide +kernel, rfl, by decide +kernel, by decide +kernel⟩
theorem ok_cl {f CS CT CI CD fc fm fw fs : Addr} {fd fdc fdm fdw fds : FuncData} (F : Fun K "clash" "Store.clash" s_Store_clash f fd) (hmin : mg "min" = none) (TS : TxtS K CS) (TT : TxtT K CT) (TD : TxtD K CD) (Cck : CalM P w K mg base 1 CS "_check" ["self", "number"] (spCk K CS CT CI) fc fdc) (Cmb : CalM P w K mg base 1 CT "made_behind" ["self", "number"] (spMB K CT CI) fm fdm) (Cwb : CalM P w K mg base 4 CT "written_behind" ["self", "number", "bounds"] (spWB K CT CI) fw fdw) (Csn : CalM P w K mg base 1 CD "seen" ["self"] (spSeen K CD) fs fds) : FnOk P w K mg base CX0 5 f fd ["self", "dealing"] (spCl K CS CT CI CD) := by
  refine F.ok scCl (fun vs H Q E h => ?_) (fun cdv A outer s H vs Q E hr h => ?_)
  · obtain ⟨st, dl, sc, dc, m, rfl, _⟩ := h
    rfl
  · obtain ⟨st, dl, sc, dc, m, rfl, x, ok, few, da, h1, h2, fs, ndS, kk⟩ := h
    have hr4 : Room 4 _ := hr
    have hr1 : Room 1 _ := hr4.mono (by decide)
    have big : (2000000 : Nat) < sizeLine := by decide
    refine ⟨_, (pss_cons (ps_expr (pe_meth (pv 0) TS.cl Cck.mt Cck.G hr1 Cck.b .nil pass0 (pa_cons (pe_fld (pv 1) rfl) pa_nil)))
      (pss_cons (ps_lock (ps_setLc2 (i := 2) (own := [("table", 3), ("number", 4)]) (vs1 := [4]) rfl scCl.nd rfl rfl (sw_true rfl rfl rfl (by decide +kernel)) (pi_values (pe_fld (pv 0) rfl)) (blkOk_by (N := ["self", "dealing", "later", "table", "number", "name", "bounds"]) (sc := defScope s_Store_clash) (by decide +kernel)) (by decide) (fun _ _ _ _ _ => (pg_name (i := 3) scCl.nd rfl (Or.inl rfl))) (fun _ _ _ _ _ => pts_nil) (fun _ _ _ _ _ => (RK.piL (K := K) (pe_meth (pv 3) TT.cl Cmb.mt Cmb.G hr1 Cmb.b .nil pass0 (pa_cons (fldK (K := K) (pv 1)) pa_nil)))) (fun _ _ _ _ _ => (pg_name (i := 4) scCl.nd rfl (Or.inl rfl))) (fun _ _ _ _ _ => pts_nil) (fun _ _ _ _ _ => (pv 4))))
      (pss_cons (ps_for PassesOwn.never rfl (RK.piL (K := K) (pe_meth0 (pv 1) TD.cl Csn.mt Csn.G hr1 Csn.b .nil pass0)) (RK.pgTup (K := K) (n := 2) rfl (pgs_cons (pg_name (i := 5) scCl.nd rfl (Or.inl rfl)) (pgs_cons (pg_name (i := 6) scCl.nd rfl (Or.inl rfl)) pgs_nil)))
        (pss_one (ps_if (pt_cmp (pc_din (hu_of hr) (pv 5) (pe_fld (pv 0) rfl))) (pss_one (ps_aug (i := 2) scCl.nd rfl (Or.inl rfl) (pe_meth (pe_dget (hu_of hr) (pe_fld (pv 0) rfl) (pv 5) (fun _ _ => rfl)) TT.cl Cwb.mt Cwb.G hr4 Cwb.b .nil pass0 (pa_cons (pe_fld (pv 1) rfl) (pa_cons (pv 6) pa_nil))) iop_ext)) pss_nil)))
      (pss_one (ps_ret (pe_callBK (MD.cr_minD rfl (hu_of hr)) (by rfl) hmin (by decide +kernel) (pa_cons (pv 2) pa_nil) (pk_cons pe_non pk_nil))))))), ?_⟩
    obtain ⟨dx, fs0, ob, l⟩ := x.ob
    obtain ⟨dx1, fs1, ob1, l1⟩ := da.ob
    have lno : ∀ mm : Str, mm ≠ "first" → mm ≠ "newest" → mm ≠ "_tables" → mm ≠ "_moments" → fs0.lookup mm = none := l.no
    refine sq1 ⟨_, rfl, st, dx, fs0, rfl, ob, l.no _ (by decide +kernel) (by decide +kernel) (by decide +kernel) (by decide +kernel), _, rfl, dl, CD, dx1, fs1, _, rfl, ob1, TD.cl, TD.n1, l1.l1, ?_⟩
    refine ⟨st, dc.number, sc, rfl, x, h1, h2, ?_⟩
    -- all that was made
    refine ⟨sc.td, _, x.td, trivial, fun od => ?_⟩
    refine ⟨_, rfl, st, CS, dx, fs0, _, rfl, (upd_ne x.s1.1).trans ob, TS.cl, TS.n3, l.l3, sc.td, od, _, rfl, upd_same, fun D hD => ?_⟩
    have nDt : D ≠ sc.td := fun e => by rw [e, upd_same] at hD; cases hD
    have hDn : H D = none := by rw [upd_ne nDt] at hD; exact hD
    have lts : (skv sc.tabs).length = sc.tabs.length := List.length_map ..
    have lmb : ∀ ts : List Tbn, (∀ t ∈ ts, t ∈ sc.tabs) → (mbAll dc.number ts).length ≤ 5 * ts.length := fun ts h => by
      induction ts with
      | nil => exact Nat.le_refl _
      | cons t ts ih =>
        have e : mbAll dc.number (t :: ts) = mbD t.2.2.dat dc.number ++ mbAll dc.number ts := rfl
        rw [e, List.length_append, List.length_cons]
        have a := mb_len (n := dc.number) (made_few (ok.ok t (h t (List.mem_cons_self ..))) (ok.td t (h t (List.mem_cons_self ..))))
        have b := ih fun u m => h u (List.mem_cons_of_mem _ m)
        omega
    have f8 := ok.few
    refine lc2_out (walk_values (kvs := skv sc.tabs)) (fun i H' => H' sc.td = some (.frz od (.dK (skv sc.tabs))) ∧ (∀ b o, b ≠ D → b ≠ sc.td → H b = some o → H' b = some o) ∧ H' D = some (.lst ((mbAll dc.number (sc.tabs.take i)).map V.int)))
      ⟨by rw [upd_ne (Ne.symm nDt), upd_same], fun b o n1 n2 e => by rw [upd_ne n1, upd_ne n2]; exact e, upd_same⟩ (fun i H' _ q => q.1) ?_ ?_
    · rintro i y H0 H' hi ⟨fz, kp, hd⟩ ⟨rfl, k0, ek⟩
      have hi2 : i < sc.tabs.length := lts ▸ hi
      have et : sc.tabs[i]? = some sc.tabs[i] := List.getElem?_eq_getElem hi2
      generalize sc.tabs[i] = t at et
      have ht : t ∈ sc.tabs := List.mem_of_getElem? et
      obtain rfl : y = .ref t.2.1 := by
        have z : (skv sc.tabs)[i]? = some (Sum.inr t.1, V.ref t.2.1) := by unfold skv; rw [List.getElem?_map, et]; rfl
        rw [z] at ek
        injection ek with ek
        injection ek with _ ek
        exact ek.symm
      have tk : TK H H' := fun a u hu e => kp a u (ne_of_none e hDn) (ne_of e x.td (by intro z; subst z; exact hu)) e
      have tat : TAt K CT CI H' t.2.1 t.2.2 := (x.tv t ht).keep (fun b hb o e => kp b o (ne_of_none e hDn) (fun z => (x.sp t ht).2.1 (by rw [← z]; exact hb)) e) tk
      obtain ⟨dxt, obt⟩ := tat.ob
      have ob1' := kp _ _ (ne_of_none ob1 hDn) (ne_of ob1 x.td (by intro z; cases z)) ob1
      have mf := made_few (ok.ok t ht) (ok.td t ht)
      refine ⟨rfl, _, rfl, t.2.1, dxt, _, rfl, obt, lk_no _ (by decide +kernel), _, rfl, dl, CD, dx1, fs1, _, rfl, ob1', TD.cl, TD.n1, l1.l1, ?_⟩
      refine ⟨t.2.1, dc.number, t.2.2, rfl, tat, by omega, fun p H2 hp s2 hp2 => ?_⟩
      have npD : p ≠ D := fun e => by rw [e, hd] at hp; cases hp
      have step : mbAll dc.number (sc.tabs.take (i + 1)) = mbAll dc.number (sc.tabs.take i) ++ mbD t.2.2.dat dc.number := by
        unfold mbAll
        rw [List.take_add_one, et, List.flatMap_append]
        show _ ++ List.flatMap _ [t] = _
        rw [List.flatMap_cons, List.flatMap_nil, List.append_nil]
      have lm := mb_len (n := dc.number) mf
      have la := lmb (sc.tabs.take i) fun u hu => List.mem_of_mem_take hu
      have lt8 : (sc.tabs.take i).length ≤ 8 := by rw [List.length_take]; omega
      have lmm : ((mbD t.2.2.dat dc.number).map V.int).length = (mbD t.2.2.dat dc.number).length := List.length_map ..
      refine ⟨p, rfl, ⟨_, SqL.of hp2⟩, ?_⟩
      refine lc2_in (walk_list (xs := (mbD t.2.2.dat dc.number).map V.int)) (fun j H'' => H'' sc.td = some (.frz od (.dK (skv sc.tabs))) ∧ (∀ b o, b ≠ D → b ≠ sc.td → H b = some o → H'' b = some o) ∧ H'' p = some (.lst ((mbD t.2.2.dat dc.number).map V.int)) ∧ H'' D = some (.lst ((mbAll dc.number (sc.tabs.take i) ++ (mbD t.2.2.dat dc.number).take j).map V.int)))
        ⟨s2 _ _ fz, fun b o n1 n2 e => s2 _ _ (kp b o n1 n2 e), hp2, by rw [List.take_zero, List.append_nil]; exact s2 _ _ hd⟩ (fun j H'' _ q => SqL.of q.2.2.1) ?_ ?_
      · rintro j y H5 H6 hj ⟨fz, kp, hp3, hd3⟩ ⟨rfl, ey⟩
        rw [List.getElem?_map] at ey
        cases ez : (mbD t.2.2.dat dc.number)[j]? with
        | none => rw [ez] at ey; cases ey
        | some z =>
          rw [ez] at ey
          obtain rfl := Option.some.inj ey
          refine ⟨rfl, _, rfl, _, hd3, ?_, (upd_ne (Ne.symm nDt)).trans fz, fun b o n1 n2 e => (upd_ne n1).trans (kp b o n1 n2 e), (upd_ne npD).trans hp3, ?_⟩
          · rw [List.length_map, List.length_append]
            have := List.length_take_le j (mbD t.2.2.dat dc.number)
            exact Nat.lt_of_le_of_lt (show _ ≤ 2000000 by omega) big
          · rw [upd_same, List.take_add_one, ez, ← List.append_assoc, List.map_append (l₂ := (some z).toList)]
            rfl
      · rintro H5 ⟨fz, kp, hp3, hd3⟩
        rw [lmm, List.take_length, ← step] at hd3
        exact ⟨fz, kp, hd3⟩
    · rintro H' ⟨fz, kp, hd⟩
      rw [lts, List.take_length] at hd
      refine gn ⟨fz, ?_⟩
      have s3 : Same H (upd H' sc.td (.dK (skv sc.tabs))) := fun b o e => by
        by_cases z : b = sc.td
        · rw [z] at e ⊢; rw [upd_same, ← x.td]; exact e
        · rw [upd_ne z]; exact kp b o (ne_of_none e hDn) z e
      have hd3 : (upd H' sc.td (.dK (skv sc.tabs))) D = some (.lst ((mbAll dc.number sc.tabs).map V.int)) := (upd_ne nDt).trans hd
      generalize upd H' sc.td (.dK (skv sc.tabs)) = H3 at s3 hd3
      clear kp fz hd H'
      refine ⟨_, rfl, dl, dx1, fs1, rfl, s3 _ _ ob1, l1.no _ (by decide +kernel) (by decide +kernel) (by decide +kernel) (by decide +kernel) (by decide +kernel) (by decide +kernel), ?_⟩
      refine ⟨dl, dc, rfl, da.same s3, by omega, fun p ss us H4 hp s4 hp4 pss ess => ?_⟩
      have s34 := s3.trans s4
      have hd4 := s4 _ _ hd3
      have npD : p ≠ D := fun e => by rw [e, hd3] at hp; cases hp
      have lus := pw_len pss
      have lss : ss.length ≤ 10 := by
        have z := congrArg List.length ess
        rw [List.length_map, List.length_map] at z
        omega
      have nds : ∀ s ∈ ss, (s.2.2.map (·.1)).Nodup := fun s hs => by
        have m : s.2 ∈ dc.sights.map (fun s => s.2) := by rw [← ess]; exact List.mem_map_of_mem hs
        obtain ⟨s', hs', e⟩ := List.mem_map.mp m
        rw [← e]; exact ndS s' hs'
      rw [← ess] at kk
      have nd := pw_inj x.pd
      refine ⟨p, rfl, ⟨_, SqL.of hp4⟩, ?_⟩
      refine for_it (walk_list (xs := us)) (fun i σ H' => ∃ (v5 v6 : Option V) (acc : List Int), σ = [some (.ref st), some (.ref dl), some (.ref D), none, none, v5, v6] ∧ (∀ b o, b ≠ D → H4 b = some o → H' b = some o) ∧ H' D = some (.lst (acc.map V.int)) ∧ (∀ z, z ∈ acc ↔ z ∈ mbAll dc.number sc.tabs ∨ ∃ s ∈ ss.take i, ∃ t ∈ sc.tabs, t.1 = s.2.1 ∧ WbIn t.2.2.dat dc.number s.2.2 z) ∧ acc.length ≤ 40 + i * 100000)
        ⟨none, none, _, rfl, fun b o _ e => e, hd4, fun z => ⟨.inl, fun h => h.elim id fun ⟨s, hs, _⟩ => by rw [List.take_zero] at hs; cases hs⟩, by have := lmb sc.tabs fun u h => h; omega⟩ (fun i σ H' _ ⟨_, _, _, _, q, _⟩ => SqL.of (q _ _ npD hp4)) ?_ ?_
      · rintro i y σ H5 H6 hi ⟨v5, v6, acc, rfl, kp, hd, mem, la⟩ ⟨rfl, ey⟩
        obtain ⟨sgt, es, p2, rfl, g1, bd⟩ := pw_get pss ey
        have s6 : Same H H6 := fun b o e => kp b o (ne_of_none e hDn) (s34 b o e)
        have tk46 : TK H4 H6 := fun a u hu e => kp a u (ne_of e hd4 (by intro z; subst z; exact hu)) e
        have bd6 : BdAt K H6 sgt.1 sgt.2.2 := by
          obtain ⟨kvs, hb, pr⟩ := bd
          exact BdAt.keep ⟨kvs, hb, pr⟩ (fun o e => kp _ _ (ne_of hb hd4 (by intro z; cases z)) e) tk46
        have hi10 : i < 10 := by have : i < us.length := hi; omega
        have tk1 : ss.take (i + 1) = ss.take i ++ [sgt] := by rw [List.take_add_one, es]; rfl
        refine ⟨p2, _, rfl, SqT.of (tk46.tup g1), rfl, _, _, rfl, _, _, rfl, rfl, ?_⟩
        refine ifs ⟨_, rfl, _, rfl, st, CS, dx, fs0, _, rfl, s6 _ _ ob, TS.cl, TS.n3, l.l3, sc.td, _, rfl, DGet.k (k := Sum.inr sgt.2.1) (s6 _ _ x.td), _, rfl, ?_⟩
        by_cases mt : sgt.2.1 ∈ sc.tabs.map (fun t => t.1)
        · obtain ⟨t, ht, et⟩ := List.mem_map.mp mt
          have et : t.1 = sgt.2.1 := et
          have ev : valV (skv sc.tabs) (Sum.inr sgt.2.1) = some (.ref t.2.1) := by rw [← et]; exact skv_at ht nd
          rw [ev]
          have tat := (x.tv t ht).same s6
          obtain ⟨dxt, obt⟩ := tat.ob
          have tdo := ok.td t ht
          refine iteT ⟨_, rfl, _, rfl, st, CS, dx, fs0, _, rfl, s6 _ _ ob, TS.cl, TS.n3, l.l3, _, rfl, sc.td, .ref t.2.1, rfl, ev ▸ DGet.k (k := Sum.inr sgt.2.1) (s6 _ _ x.td), t.2.1, dxt, _, rfl, obt, lk_no _ (by decide +kernel), _, rfl, dl, CD, dx1, fs1, _, rfl, s6 _ _ ob1, TD.cl, TD.n1, l1.l1, _, rfl, ?_⟩
          refine ⟨t.2.1, sgt.1, dc.number, t.2.2, m, sgt.2.2, rfl, tat, ok.ok t ht, few, wid_of tdo, tdo.nf, tdo.l4, tdo.fn, bd6, nds sgt (List.mem_of_getElem? es), fun ks p3 H7 hks ndk hp3 s7 hp7 => ?_⟩
          have lwb := wbK_len t.2.2.dat dc.number sgt.2.2 ks ndk
          have lcl : (t.2.2.dat.cl.map fun x => x.2.length).sum ≤ m := by
            have a2 := (ok.ok t ht).n2
            have a3 : (t.2.2.cl.map fun x => x.2.2.length) = t.2.2.dat.cl.map fun x => x.2.length := by
              show _ = (t.2.2.cl.map _).map _
              rw [List.map_map]; rfl
            rw [a3] at a2
            exact a2
          have hd7 := s7 _ _ hd
          refine ⟨D, p3, _, _, rfl, rfl, hd7, hp7, ?_, ?_⟩
          · rw [List.length_map, List.length_map]
            exact Nat.le_of_lt (Nat.lt_of_le_of_lt (show _ ≤ 2000000 by omega) big)
          · refine ⟨_, _, acc ++ wbK t.2.2.dat dc.number sgt.2.2 ks, rfl, fun b o nb e => by rw [upd_ne nb]; exact s7 _ _ (kp b o nb e), by rw [upd_same, List.map_append], fun z => ?_, by rw [List.length_append]; omega⟩
            rw [List.mem_append, mem z, wbK_mem (ok.ok t ht) hks, tk1]
            constructor
            · rintro ((h | ⟨s, hs, q⟩) | h)
              · exact .inl h
              · exact .inr ⟨s, List.mem_append_left _ hs, q⟩
              · exact .inr ⟨sgt, List.mem_append_right _ (List.mem_singleton.mpr rfl), t, ht, et, h⟩
            · rintro (h | ⟨s, hs, u, hu, e1, e2⟩)
              · exact .inl (.inl h)
              · rcases List.mem_append.mp hs with hs | hs
                · exact .inl (.inr ⟨s, hs, u, hu, e1, e2⟩)
                · rw [List.mem_singleton.mp hs] at e1 e2
                  have z : u = t := nodup_inj nd hu ht (e1.trans et.symm)
                  rw [z] at e2
                  exact .inr e2
        · have ev : valV (skv sc.tabs) (Sum.inr sgt.2.1 : Key) = none := valV_none fun mm => mt (by
            unfold skv at mm
            rw [List.map_map] at mm
            obtain ⟨u, hu, e⟩ := List.mem_map.mp mm
            exact List.mem_map.mpr ⟨u, hu, Sum.inr.inj e⟩)
          rw [ev]
          refine iteF ⟨_, _, acc, rfl, kp, hd, fun z => ?_, Nat.le_trans la (Nat.add_le_add_left (Nat.mul_le_mul_right _ (Nat.le_succ i)) 40)⟩
          rw [mem z, tk1]
          constructor
          · rintro (h | ⟨s, hs, q⟩)
            · exact .inl h
            · exact .inr ⟨s, List.mem_append_left _ hs, q⟩
          · rintro (h | ⟨s, hs, u, hu, e1, e2⟩)
            · exact .inl h
            · rcases List.mem_append.mp hs with hs | hs
              · exact .inr ⟨s, hs, u, hu, e1, e2⟩
              · rw [List.mem_singleton.mp hs] at e1
                exact absurd (List.mem_map.mpr ⟨u, hu, e1⟩) mt
      · rintro σ H5 ⟨v5, v6, acc, rfl, kp, hd, mem, la⟩
        rw [← lus, List.take_length] at mem
        have s5 : Same H H5 := fun b o e => kp b o (ne_of_none e hDn) (s34 b o e)
        have late : ∀ z, z ∈ acc ↔ Late sc.dat dc.number (ss.map fun s => s.2) z := fun z => by
          rw [mem z]
          unfold Late mbAll
          rw [List.mem_flatMap]
          constructor
          · rintro (⟨t, ht, h⟩ | ⟨s, hs, t, ht, e, h⟩)
            · exact .inl ⟨(t.1, t.2.2.dat), List.mem_map.mpr ⟨t, ht, rfl⟩, h⟩
            · exact .inr ⟨s.2, List.mem_map.mpr ⟨s, hs, rfl⟩, (t.1, t.2.2.dat), List.mem_map.mpr ⟨t, ht, rfl⟩, e, h⟩
          · rintro (⟨t0, ht0, h⟩ | ⟨s0, hs0, t0, ht0, e, h⟩)
            · obtain ⟨t, ht, rfl⟩ := List.mem_map.mp ht0
              exact .inl ⟨t, ht, h⟩
            · obtain ⟨t, ht, rfl⟩ := List.mem_map.mp ht0
              obtain ⟨s, hs, rfl⟩ := List.mem_map.mp hs0
              exact .inr ⟨s, hs, t, ht, e, h⟩
        refine ⟨_, rfl, D, acc, .non, rfl, rfl, SqL.of hd, fun e => ?_, fun i mi hle => ?_⟩
        · exact kk none H5 s5 (fun _ z hz => by have q := (late z).mpr hz; rw [e] at q; cases q) (fun i e => by cases e)
        · exact kk (some i) H5 s5 (fun e => by cases e) (fun j e => by injection e with e; subst e; exact ⟨(late i).mp mi, fun z hz => hle z ((late z).mpr hz)⟩)
end
end GS

set_option linter.all false
set_option maxHeartbeats 4000000
namespace GS
open PySem L2 HX
/-! ### what is shown at a moment -/
def verD (ch : List Ver) (n : Int) : Option (Int × Row) := match (ch.filter fun v => decide (v.1 ≤ n)).getLast? with
  | some (m, some ns) => some (m, ns)
  | _ => none
def verU : Ver → Option (Int × Row)
  | (m, some ns) => some (m, ns)
  | _ => none
def VerV (K : PySem.W.Frag) (H : Hp) : Option (Int × Row) → V → Prop
  | none, v => ∃ p, v = .ref p ∧ SqT K H p [.non, .non]
  | some (m, ns), v => ∃ p q, v = .ref p ∧ H p = some (.tup [.int m, .ref q]) ∧ H q = some (.tup (ns.map V.int))
theorem filter_cut {α : Type} {p : α → Bool} : ∀ {xs : List α} {k : Nat}, k ≤ xs.length → (∀ i x, i < k → xs[i]? = some x → p x = true) → (∀ i x, k ≤ i → xs[i]? = some x → p x = false) → xs.filter p = xs.take k
  | [], k, h, _, _ => by cases k <;> rfl
  | x :: xs, 0, _, _, h => by
    rw [List.take_zero]
    refine List.filter_eq_nil_iff.mpr fun y hy => ?_
    obtain ⟨i, ei⟩ := List.mem_iff_getElem?.mp hy
    rw [h i y (Nat.zero_le _) ei]
    exact Bool.false_ne_true
  | x :: xs, k + 1, l, h1, h2 => by
    rw [List.filter_cons, if_pos (h1 0 x (Nat.succ_pos _) rfl), List.take_succ_cons, filter_cut (k := k) (by simpa using l) (fun i y hi e => h1 (i + 1) y (by omega) (by simpa using e)) fun i y hi e => h2 (i + 1) y (by omega) (by simpa using e)]
def spTV (K : PySem.W.Frag) (CT CI : Addr) : Sp := fun vs H Q _ => ∃ (tb : Addr) (k n : Int) (c : TC) (m : Nat), vs = [.ref tb, .int k, .int n] ∧ TAt K CT CI H tb c ∧ c.Ok m ∧ (∀ x ∈ c.cl, x.2.2.Pairwise fun a b => a.1 ≤ b.1) ∧
  ∀ v H', Same H H' → VerV K H' (verD (chainD c.dat.cl k) n) v → Q v H'
section
variable {P : Program} {w : World} {K : PySem.W.Frag} {mg : Str → Option Value} {base : Heap}
theorem scTV : FnScope ["self", "key", "number", "chain", "at"] ["self", "key", "number"] (defScope s_Table_version) := ⟨rfl, rfl, rfl, by decide +kernel, rfl, by decide +kernel, by decide +kernel⟩
theorem ok_tv {f CT CI fp : Addr} {fd fdp : FuncData} (F : Fun K "version" "Table.version" s_Table_version f fd) (T : Txt mg) (TT : TxtT K CT) (Cplace_in : Cal P w K mg base 1 "place_in" ["items", "item"] (spPlace K) fp fdp) : FnOk P w K mg base CX0 2 f fd ["self", "key", "number"] (spTV K CT CI) := by
  refine F.ok scTV (fun vs H Q E h => ?_) (fun cdv A outer s H vs Q E hr h => ?_)
  · obtain ⟨tb, k, n, c, m, rfl, _⟩ := h
    rfl
  · obtain ⟨tb, k, n, c, m, rfl, x, ok, srt, kk⟩ := h
    have hr1 : Room 1 _ := hr
    obtain ⟨dx, ob⟩ := x.ob
    refine ⟨_, (pss_cons (ps_set (i := 3) scTV.nd rfl (Or.inl rfl) (pe_dget2 (hu_of hr) (pe_fld (pv 0) rfl) (pv 1) (pe_lst pa_nil) ⟨rfl, rfl, rfl, rfl⟩))
      (pss_cons (ps_set (i := 4) scTV.nd rfl (Or.inl rfl) (pe_call Cplace_in.G hr1 rfl Cplace_in.g Cplace_in.kp Cplace_in.b .nil pass0 (pa_cons (pv 3) (pa_cons (pe_tup (pa_cons (pe_op op_add (pv 2) pe_int) pa_nil)) pa_nil))))
      (pss_cons (ps_if (PW.pt (pw_or (pt_cmpR op_eq (pv 4) pe_int (nomark _)) (pw_or1 (pt_cmpR op_isN (pe_ix (RK.ixT (K := K)) (pe_ix (RK.ixL (K := K)) (pv 3) (pe_op op_sub (pv 4) pe_int) (fun _ _ => rfl)) pe_int (fun _ _ => rfl)) pe_non (nomark _))))) (pss_one (ps_ret (pe_tup (pa_cons pe_non (pa_cons pe_non pa_nil))))) pss_nil)
      (pss_one (ps_ret (pe_ix (RK.ixL (K := K)) (pv 3) (pe_op op_sub (pv 4) pe_int) (fun _ _ => rfl))))))), ?_⟩
    refine sa1 ⟨_, rfl, tb, CT, dx, _, _, rfl, ob, TT.cl, TT.n3, lk3 c, c.ch, rfl, .inl ⟨_, .inl x.ch⟩, _, rfl, by show 0 ≤ sizeLine; decide, fun e he => ?_⟩
    have s1 := same_new (o := .lst []) he
    have e1 : (upd H e (.lst [])) e = some (.lst []) := upd_same
    generalize upd H e (.lst []) = H1 at s1 e1
    have x1 := x.same s1
    refine ⟨valV (ckv c.cl) (Sum.inl k), DGet.k (k := Sum.inl k) x1.ch, gn ?_⟩
    -- the chain
    obtain ⟨q, vs, eq, q1, q2⟩ : ∃ q vs, (valV (ckv c.cl) (Sum.inl k : Key)).getD (.ref e) = .ref q ∧ H1 q = some (.lst vs) ∧ Paired (VerAt H1) (chainD c.dat.cl k) vs := by
      by_cases mk : k ∈ c.cl.map fun x => x.1
      · obtain ⟨y, hy, rfl⟩ := List.mem_map.mp mk
        obtain ⟨vs, h1, h2⟩ := x1.cv y hy
        have nd : ((ckv c.cl).map (·.1)).Nodup := by
          unfold ckv
          rw [List.map_map]
          have e : ((fun x : Key × V => x.1) ∘ fun x : Chn => ((Sum.inl x.1 : Key), V.ref x.2.1)) = fun x => Sum.inl x.1 := rfl
          rw [e]
          have z := List.Pairwise.map (S := fun a b : Key => a ≠ b) (fun z : Int => (Sum.inl z : Key)) (fun a b h e => h (Sum.inl.inj e)) ok.kd
          rw [List.map_map] at z
          exact z
        have mm : ((Sum.inl y.1 : Key), V.ref y.2.1) ∈ ckv c.cl := List.mem_map.mpr ⟨y, hy, rfl⟩
        obtain ⟨j, ej⟩ := List.mem_iff_getElem?.mp mm
        rw [valV_mem nd ej]
        exact ⟨y.2.1, vs, rfl, h1, by rw [chain_of hy ok.kd]; exact h2⟩
      · have nv : valV (ckv c.cl) (Sum.inl k : Key) = none := valV_none fun m => by
          unfold ckv at m
          rw [List.map_map] at m
          obtain ⟨y, hy, e⟩ := List.mem_map.mp m
          exact mk (List.mem_map.mpr ⟨y, hy, Sum.inl.inj e⟩)
        have nc : chainD c.dat.cl k = [] := by
          unfold chainD
          have z : c.dat.cl.find? (fun x => decide (x.1 = k)) = none := List.find?_eq_none.mpr fun y hy => by
            obtain ⟨u, hu, rfl⟩ := List.mem_map.mp hy
            simp only [decide_eq_true_eq]
            exact fun e => mk (List.mem_map.mpr ⟨u, hu, e⟩)
          rw [z]; rfl
        rw [nv, nc]
        exact ⟨e, [], rfl, e1, .nil⟩
    rw [eq]
    have sch : (chainD c.dat.cl k).Pairwise fun a b => a.1 ≤ b.1 := by
      by_cases mk : k ∈ c.cl.map fun x => x.1
      · obtain ⟨y, hy, rfl⟩ := List.mem_map.mp mk
        rw [chain_of hy ok.kd]; exact srt y hy
      · have nc : chainD c.dat.cl k = [] := by
          unfold chainD
          have z : c.dat.cl.find? (fun x => decide (x.1 = k)) = none := List.find?_eq_none.mpr fun y hy => by
            obtain ⟨u, hu, rfl⟩ := List.mem_map.mp hy
            simp only [decide_eq_true_eq]
            exact fun e => mk (List.mem_map.mpr ⟨u, hu, e⟩)
          rw [z]; rfl
        rw [nc]; exact List.Pairwise.nil
    generalize chainD c.dat.cl k = ch at q2 sch kk
    have lch := pw_len q2
    refine sa1 ⟨_, rfl, _, rfl, n, 1, rfl, rfl, by show 1 ≤ sizeLine; decide, fun p hp => ?_⟩
    have s2 := same_new (o := .tup [.int (n + 1)]) hp
    have p1 : (upd H1 p (.tup [.int (n + 1)])) p = some (.tup [.int (n + 1)]) := upd_same
    generalize upd H1 p (.tup [.int (n + 1)]) = H2 at s2 p1
    have q12 := s2 _ _ q1
    have s12 := s1.trans s2
    have at_ : ∀ {i : Nat} {v : V}, vs[i]? = some v → ∃ (u : Ver) (a : Addr) (rv : V), ch[i]? = some u ∧ v = .ref a ∧ H2 a = some (.tup [.int u.1, rv]) ∧ RowAt H2 u.2 rv := fun {i v} ev => by
      obtain ⟨u, eu, a, rv, e1, e2, e3⟩ := pw_get q2 ev
      exact ⟨u, a, rv, eu, e1, s2 _ _ e2, e3.keep (TK.same s2)⟩
    refine ⟨q, .ref p, vs, fun i => match ch[i]? with | some v => decide (v.1 < n + 1) | none => false, rfl, SqL.of q12, fun i v ev Q' h => ?_, fun i j ij lj h => ?_, fun a la lo hi' => gn ?_⟩
    · obtain ⟨u, a, rv, eu, rfl, e2, _⟩ := at_ ev
      dsimp only at h
      rw [eu] at h
      exact .inr (.inr ⟨a, p, u.1, n + 1, rv, rfl, rfl, SqT.of e2, SqT.of p1, h⟩)
    · dsimp only at h ⊢
      have lj2 : j < ch.length := by omega
      rw [List.getElem?_eq_getElem lj2] at h
      rw [List.getElem?_eq_getElem (show i < ch.length by omega)]
      have z := List.pairwise_iff_getElem.mp sch i j (by omega) lj2 ij
      have h := of_decide_eq_true h
      exact decide_eq_true (by omega)
    · have cut : (ch.filter fun v => decide (v.1 ≤ n)) = ch.take a := filter_cut (by omega) (fun i u hi e => by
          have h := lo i hi
          dsimp only at h
          rw [e] at h
          have h := of_decide_eq_true h
          exact decide_eq_true (by omega)) fun i u hi e => by
          have li := (List.getElem?_eq_some_iff.mp e).1
          have h := hi' i hi (by omega)
          dsimp only at h
          rw [e] at h
          have h := of_decide_eq_false h
          exact decide_eq_false (by omega)
      have ret : verD ch n = none → tRet (tTup (tCons (tC .non) (tCons (tC .non) tNil))) { nx := fun _ H' => Q .non H', rt := Q } [some (.ref tb), some (.int k), some (.int n), some (.ref q), some (.int (a : Nat))] H2 := fun e => by
        refine ⟨by show 2 ≤ sizeLine; decide, fun t ht => kk _ _ (s12.trans (same_new ht)) ?_⟩
        rw [e]
        exact ⟨t, rfl, SqT.of upd_same⟩
      rcases Nat.eq_zero_or_pos a with a0 | ap
      · subst a0
        refine sif ⟨_, rfl, rfl, _, rfl, iteT (iteT (ret ?_))⟩
        unfold verD
        rw [cut]; rfl
      · have la' : a - 1 < ch.length := by omega
        have eu : ch[a - 1]? = some ch[a - 1] := List.getElem?_eq_getElem la'
        have ev : vs[a - 1]? = some vs[a - 1] := List.getElem?_eq_getElem (show a - 1 < vs.length by omega)
        obtain ⟨u, b, rv, eu2, eb, e2, e3⟩ := at_ ev
        rw [eb] at ev
        have ver : verD ch n = verU u := by
          unfold verD
          have tk1 : ch.take a = ch.take (a - 1) ++ [u] := by
            have z := List.take_add_one (l := ch) (i := a - 1)
            rw [eu2, show a - 1 + 1 = a by omega] at z
            exact z
          rw [cut, tk1, List.getLast?_append]
          clear e2 e3 eu2 tk1
          obtain ⟨um, ur⟩ := u
          cases ur <;> rfl
        have ea : (a : Int) - 1 = ((a - 1 : Nat) : Int) := by omega
        have ix : atI vs ((a : Int) - 1) = some (.ref b) := by rw [ea]; exact atI_nat ev
        have ne0 : decide (V.int (a : Nat) = V.int 0) = false := decide_eq_false fun e => by injection e with e; omega
        refine sif ⟨_, rfl, rfl, _, rfl, ?_⟩
        dsimp only
        rw [ne0]
        refine iteF ⟨_, rfl, _, rfl, a, 1, rfl, rfl, q, vs, (a : Int) - 1, .ref b, rfl, rfl, SqL.of q12, ix, b, _, 1, rv, rfl, rfl, SqT.of e2, rfl, rfl, _, rfl, ?_⟩
        obtain ⟨um, ur⟩ := u
        cases ur with
        | none =>
          obtain rfl : rv = .non := e3
          exact iteT (ret ver)
        | some ns =>
          obtain ⟨c2, rfl, h3⟩ := e3
          refine iteF ⟨_, rfl, _, rfl, a, 1, rfl, rfl, q, vs, (a : Int) - 1, .ref b, rfl, rfl, SqL.of q12, ix, kk _ _ s12 ?_⟩
          rw [show verD ch n = some (um, ns) from ver]
          exact ⟨b, c2, rfl, e2, h3⟩
end
end GS

set_option linter.all false
set_option maxHeartbeats 4000000
namespace GS
open PySem L2 HX
def rowD (t : TD) (n k : Int) : Option Row := (verD (chainD t.cl k) n).map fun v => v.2
def spBw (K : PySem.W.Frag) (CT CI : Addr) : Sp := fun vs H Q _ => ∃ (tb : Addr) (lo hi : Option Int) (n : Int) (c : TC) (m : Nat), vs = [.ref tb, oV lo, oV hi, .int n] ∧ TAt K CT CI H tb c ∧ c.Ok m ∧ m ≤ 100000 ∧ (∀ x ∈ c.cl, x.2.2.Pairwise fun a b => a.1 ≤ b.1) ∧
  ∀ (ks : List Int) p us H', (∀ k, k ∈ ks ↔ k ∈ c.ks ∧ inSpan (lo, hi) k = true) → ks.Sublist c.ks → H p = none → Same H H' → H' p = some (.lst us) → Paired (fun r v => RowAt H' (some r) v) (ks.filterMap (rowD c.dat n)) us → Q (.ref p) H'
theorem pw_len' {α β : Type} {R : α → β → Prop} {xs : List α} {ys : List β} (h : Paired R xs ys) : ys.length = xs.length := (pw_len h).symm
theorem getI' {ns : List Int} {i : Nat} {y : V} (h : (ns.map V.int)[i]? = some y) : ∃ z, ns[i]? = some z ∧ y = V.int z := by
  rw [List.getElem?_map] at h
  cases e : ns[i]? with
  | none => rw [e] at h; cases h
  | some z => rw [e] at h; exact ⟨z, rfl, (Option.some.inj h).symm⟩
section
variable {P : Program} {w : World} {K : PySem.W.Frag} {mg : Str → Option Value} {base : Heap}
theorem scBw : FnScope ["self", "low", "high", "number", "rows", "key", "row"] ["self", "low", "high", "number"] (defScope s_Table_between) := ⟨rfl, rfl, rfl, by decide +kernel, rfl, by decide +kernel, by decide +kernel⟩
theorem ok_bw {f CT CI f1 f2 : Addr} {fd fd1 fd2 : FuncData} (F : Fun K "between" "Table.between" s_Table_between f fd) (T : Txt mg) (TT : TxtT K CT) (Ctv : CalM P w K mg base 2 CT "version" ["self", "key", "number"] (spTV K CT CI) f1 fd1) (Ckb : CalM P w K mg base 2 CT "_keys_between" ["self", "low", "high"] (spKB K CT CI) f2 fd2) : FnOk P w K mg base CX0 3 f fd ["self", "low", "high", "number"] (spBw K CT CI) := by
  refine F.ok scBw (fun vs H Q E h => ?_) (fun cdv A outer s H vs Q E hr h => ?_)
  · obtain ⟨tb, lo, hi, n, c, m, rfl, _⟩ := h
    rfl
  · obtain ⟨tb, lo, hi, n, c, m, rfl, x, ok, few, srt, kk⟩ := h
    have hr2 : Room 2 _ := hr
    have big : (100000 : Nat) < sizeLine := by decide
    obtain ⟨dx, ob⟩ := x.ob
    have lkk : (tfl c).lookup ("_keys_between" : Str) = none := lk_no _ (by decide +kernel)
    have lkv : (tfl c).lookup ("version" : Str) = none := lk_no _ (by decide +kernel)
    refine ⟨_, (pss_cons (ps_setLc (i := 4) (own := [("key", 5)]) rfl scBw.nd rfl rfl (sw_true rfl rfl rfl (by decide +kernel)) (RK.piL (K := K) (pe_meth (pv 0) TT.cl Ckb.mt Ckb.G hr2 Ckb.b .nil pass0 (pa_cons (pv 1) (pa_cons (pv 2) pa_nil)))) (blkOk_by (N := ["self", "low", "high", "number", "rows", "key", "row"]) (sc := defScope s_Table_between) (by decide +kernel)) (fun _ _ _ _ _ => (pg_name (i := 5) scBw.nd rfl (Or.inl rfl))) (fun _ _ _ _ _ => pts_nil) (fun _ _ _ _ _ => (pe_ix (RK.ixT (K := K)) (pe_meth (pv 0) TT.cl Ctv.mt Ctv.G hr2 Ctv.b .nil pass0 (pa_cons (pv 5) (pa_cons (pv 3) pa_nil))) pe_int (fun _ _ => rfl))))
      (pss_one (ps_ret (pe_lc (own := [("row", 6)]) rfl scBw.nd (RK.piL (K := K) (pv 4)) (blkOk_by (N := ["self", "low", "high", "number", "rows", "key", "row"]) (sc := defScope s_Table_between) (by decide +kernel)) (fun _ _ _ _ _ => (pg_name (i := 6) scBw.nd rfl (Or.inl rfl))) (fun _ _ _ _ _ => (pts_one (pt_cmpR op_notN (pv 6) pe_non (nomark _)))) (fun _ _ _ _ _ => (pv 6)))))), ?_⟩
    refine sa1 ⟨_, rfl, tb, dx, _, rfl, ob, lkk, _, rfl, _, rfl, tb, lo, hi, c, m, rfl, x, ok, fun ks mem sub p hp => ?_⟩
    have s1 := same_new (o := .lst (ks.map V.int)) hp
    have p1 : (upd H p (.lst (ks.map V.int))) p = some (.lst (ks.map V.int)) := upd_same
    generalize upd H p (.lst (ks.map V.int)) = H1 at s1 p1
    have lks : ks.length ≤ 100000 := by
      have a := sub.length_le
      have b : c.ks.length ≤ c.cl.length := by
        have z := nodup_le c.ks (c.cl.map fun x => x.1) (ok.up.imp fun h => Int.ne_of_lt h) fun k hk => (ok.km k).mp hk
        rw [List.length_map] at z
        exact z
      have := ok.n1
      omega
    refine ⟨p, rfl, ⟨_, SqL.of p1⟩, fun D hD => ?_⟩
    refine lc_it (walk_list (xs := ks.map V.int)) (fun i H' => (∀ b o, b ≠ D → H1 b = some o → H' b = some o) ∧ ∃ us, H' D = some (.lst us) ∧ Paired (RowAt H') ((ks.take i).map (rowD c.dat n)) us)
      ⟨fun b o nb e => by rw [upd_ne nb]; exact e, [], upd_same, .nil⟩ (fun i H' _ q => SqL.of (q.1 _ _ (ne_of_none p1 hD) p1)) ?_ ?_
    · rintro i y H0 H' hi ⟨kp, us, hd, pu⟩ ⟨rfl, ey⟩
      obtain ⟨k, ek, rfl⟩ := getI' ey
      have sH : Same H H' := fun b o e => kp b o (ne_of_none (s1 _ _ e) hD) (s1 _ _ e)
      have x' := x.same sH
      obtain ⟨dx', ob'⟩ := x'.ob
      have tk1 : ks.take (i + 1) = ks.take i ++ [k] := by rw [List.take_add_one, ek]; rfl
      have lu := pw_len' pu
      refine ⟨rfl, _, rfl, tb, dx', _, rfl, ob', lkv, _, rfl, _, rfl, tb, k, n, c, m, rfl, x', ok, srt, fun v H2 s2 hv => ?_⟩
      have hd2 := s2 _ _ hd
      have rest : ∀ (a : Addr) (v2 : V) (xs : List V), SqT K H2 a xs → v = .ref a → xs[1]? = some v2 → RowAt H2 (rowD c.dat n k) v2 → ∃ a_1 ys i_1 v_1, v = V.ref a_1 ∧ V.int 1 = .int i_1 ∧ SqT K H2 a_1 ys ∧ atI ys i_1 = some v_1 ∧ ∃ acc, H2 D = some (.lst acc) ∧ acc.length < sizeLine ∧ (fun (i : Nat) (H' : Hp) => (∀ b o, b ≠ D → H1 b = some o → H' b = some o) ∧ ∃ us, H' D = some (.lst us) ∧ Paired (RowAt H') ((ks.take i).map (rowD c.dat n)) us) (i + 1) (upd H2 D (.lst (acc ++ [v_1]))) := fun a v2 xs hs ev e1 hr => by
        have tk2 : TK H2 (upd H2 D (.lst (us ++ [v2]))) := fun b u hu e => by rw [upd_ne (ne_of e hd2 (by intro z; subst z; exact hu))]; exact e
        refine ⟨a, xs, 1, v2, ev, rfl, hs, atI_nat (j := 1) e1, us, hd2, ?_, fun b o nb e => by rw [upd_ne nb]; exact s2 _ _ (kp b o nb e), us ++ [v2], upd_same, ?_⟩
        · rw [lu, List.length_map, List.length_take]
          exact Nat.lt_of_le_of_lt (show min i ks.length ≤ 100000 by omega) big
        · rw [tk1, List.map_append]
          exact pw_app (pw_imp (fun _ _ h => h.keep (TK.trans (TK.same s2) tk2)) pu) (.cons (hr.keep tk2) .nil)
      cases ev : verD (chainD c.dat.cl k) n with
      | none =>
        rw [ev] at hv
        obtain ⟨a, rfl, ha⟩ := hv
        exact rest a .non _ ha rfl rfl (by unfold rowD; rw [ev]; rfl)
      | some u =>
        obtain ⟨um, ur⟩ := u
        rw [ev] at hv
        obtain ⟨a, b, rfl, ha, hb⟩ := hv
        exact rest a (.ref b) _ (SqT.of ha) rfl rfl (by unfold rowD; rw [ev]; exact ⟨b, rfl, hb⟩)
    · rintro H2 ⟨kp, us, hd, pu⟩
      rw [List.length_map, List.take_length] at pu
      have lu := pw_len' pu
      rw [List.length_map] at lu
      have sH2 : Same H H2 := fun b o e => kp b o (ne_of_none (s1 _ _ e) hD) (s1 _ _ e)
      refine gn ⟨_, rfl, D, rfl, ⟨_, SqL.of hd⟩, fun D2 hD2 => ?_⟩
      refine lc_it (walk_list (xs := us)) (fun i H' => (∀ b o, b ≠ D2 → H2 b = some o → H' b = some o) ∧ ∃ ws, H' D2 = some (.lst ws) ∧ ws.length ≤ i ∧ Paired (fun r v => RowAt H' (some r) v) ((ks.take i).filterMap (rowD c.dat n)) ws)
        ⟨fun b o nb e => by rw [upd_ne nb]; exact e, [], upd_same, Nat.le_refl _, .nil⟩ (fun i H' _ q => SqL.of (q.1 _ _ (ne_of_none hd hD2) hd)) ?_ ?_
      · rintro i y H0 H' hi ⟨kp2, ws, hd2, lw, pw⟩ ⟨rfl, ey⟩
        obtain ⟨r, er, hr⟩ := pw_get pu ey
        rw [List.getElem?_map] at er
        cases ek : ks[i]? with
        | none => rw [ek] at er; cases er
        | some k =>
          rw [ek] at er
          have er : rowD c.dat n k = r := Option.some.inj er
          have tk1 : ks.take (i + 1) = ks.take i ++ [k] := by rw [List.take_add_one, ek]; rfl
          have tk' : TK H2 H' := fun b u hu e => kp2 b u (ne_of_none e hD2) e
          cases r with
          | none =>
            obtain rfl : y = .non := hr
            refine ⟨rfl, _, rfl, rfl, _, rfl, iteF ⟨kp2, ws, hd2, Nat.le_succ_of_le lw, ?_⟩⟩
            rw [tk1, List.filterMap_append]
            have e0 : ([k] : List Int).filterMap (rowD c.dat n) = [] := by rw [List.filterMap_cons, er]; rfl
            rw [e0, List.append_nil]; exact pw
          | some ns =>
            obtain ⟨b, rfl, hb⟩ := hr
            have tk2 : TK H' (upd H' D2 (.lst (ws ++ [.ref b]))) := fun b u hu e => by rw [upd_ne (ne_of e hd2 (by intro z; subst z; exact hu))]; exact e
            refine ⟨rfl, _, rfl, rfl, _, rfl, iteT ⟨_, rfl, ws, hd2, Nat.lt_of_le_of_lt (show ws.length ≤ 100000 by have : i < us.length := hi; omega) big, fun b o nb e => by rw [upd_ne nb]; exact kp2 b o nb e, ws ++ [.ref b], upd_same, by rw [List.length_append]; exact Nat.succ_le_succ lw, ?_⟩⟩
            rw [tk1, List.filterMap_append]
            have e0 : ([k] : List Int).filterMap (rowD c.dat n) = [ns] := by rw [List.filterMap_cons, er]; rfl
            rw [e0]
            exact pw_app (pw_imp (fun _ _ h => RowAt.keep tk2 h) pw) (.cons ⟨b, rfl, tk2.tup (tk'.tup hb)⟩ .nil)
      · rintro H3 ⟨kp2, ws, hd2, lw, pw⟩
        rw [lu, List.take_length] at pw
        exact kk ks D2 ws H3 mem sub (none_of_same sH2 hD2) (fun b o e => kp2 b o (ne_of_none (sH2 _ _ e) hD2) (sH2 _ _ e)) hd2 pw
end
end GS

set_option linter.all false
set_option maxHeartbeats 4000000
namespace GS
open PySem L2 HX
def tabD (d : SD) (z : Str) : Option TD := (d.tabs.find? fun t => decide (t.1 = z)).map fun t => t.2
def verS (d : SD) (z : Str) (k n : Int) : Option (Int × Row) := match tabD d z with
  | some t => verD (chainD t.cl k) n
  | none => none
def SC.Srt (sc : SC) : Prop := ∀ t ∈ sc.tabs, ∀ x ∈ t.2.2.cl, x.2.2.Pairwise fun a b => a.1 ≤ b.1
theorem tab_find {sc : SC} (nd : (sc.tabs.map (fun t => t.1)).Nodup) (z : Str) : (∃ u ∈ sc.tabs, u.1 = z ∧ tabD sc.dat z = some u.2.2.dat ∧ valV (skv sc.tabs) (Sum.inr z) = some (.ref u.2.1)) ∨ (tabD sc.dat z = none ∧ valV (skv sc.tabs) (Sum.inr z : Key) = none) := by
  by_cases m : z ∈ sc.tabs.map fun t => t.1
  · obtain ⟨u, hu, rfl⟩ := List.mem_map.mp m
    refine .inl ⟨u, hu, rfl, ?_, skv_at hu nd⟩
    unfold tabD
    cases f : sc.dat.tabs.find? fun t => decide (t.1 = u.1) with
    | none =>
      have h := List.find?_eq_none.mp f (u.1, u.2.2.dat) (List.mem_map.mpr ⟨u, hu, rfl⟩)
      simp at h
    | some x =>
      have mx := List.mem_of_find?_eq_some f
      have ex : x.1 = u.1 := by simpa using List.find?_some f
      obtain ⟨v, hv, rfl⟩ := List.mem_map.mp mx
      rw [nodup_inj nd hv hu ex]; rfl
  · refine .inr ⟨?_, valV_none fun h => ?_⟩
    · unfold tabD
      rw [List.find?_eq_none.mpr fun x hx => ?_]; rfl
      obtain ⟨v, hv, rfl⟩ := List.mem_map.mp hx
      simp only [decide_eq_true_eq]
      exact fun e => m (List.mem_map.mpr ⟨v, hv, e⟩)
    · unfold skv at h
      rw [List.map_map] at h
      obtain ⟨v, hv, e⟩ := List.mem_map.mp h
      exact m (List.mem_map.mpr ⟨v, hv, Sum.inr.inj e⟩)
def spSV (K : PySem.W.Frag) (CS CT CI : Addr) : Sp := fun vs H Q _ => ∃ (st : Addr) (z : Str) (k n : Int) (sc : SC) (m : Nat), vs = [.ref st, .str z, .int k, .int n] ∧ SAt K CS CT CI H st sc ∧ sc.Ok m ∧ sc.Srt ∧ sc.first ≤ n ∧ n ≤ sc.newest ∧
  ∀ v H', Same H H' → VerV K H' (verS sc.dat z k n) v → Q v H'
def spSR (K : PySem.W.Frag) (CS CT CI : Addr) : Sp := fun vs H Q _ => ∃ (st : Addr) (z : Str) (k n : Int) (sc : SC) (m : Nat), vs = [.ref st, .str z, .int k, .int n] ∧ SAt K CS CT CI H st sc ∧ sc.Ok m ∧ sc.Srt ∧ sc.first ≤ n ∧ n ≤ sc.newest ∧
  ∀ v H', Same H H' → RowAt H' ((verS sc.dat z k n).map fun u => u.2) v → Q v H'
/-- the rows of a table at a moment, within a span of keys -/
def RowsS (d : SD) (z : Str) (n : Int) (lo hi : Option Int) (rs : List Row) : Prop := (tabD d z = none → rs = []) ∧ ∀ t, tabD d z = some t → ∃ ks : List Int, rs = ks.filterMap (rowD t n) ∧ (∀ k, k ∈ ks ↔ k ∈ t.cl.map (fun x => x.1) ∧ inSpan (lo, hi) k = true) ∧ ks.Pairwise (· < ·)
def spSB (K : PySem.W.Frag) (CS CT CI : Addr) : Sp := fun vs H Q _ => ∃ (st : Addr) (z : Str) (lo hi : Option Int) (n : Int) (sc : SC) (m : Nat), vs = [.ref st, .str z, oV lo, oV hi, .int n] ∧ SAt K CS CT CI H st sc ∧ sc.Ok m ∧ m ≤ 100000 ∧ sc.Srt ∧ sc.first ≤ n ∧ n ≤ sc.newest ∧
  ∀ (rs : List Row) p us H', H p = none → Same H H' → H' p = some (.lst us) → Paired (fun r v => RowAt H' (some r) v) rs us → RowsS sc.dat z n lo hi rs → us.length ≤ m → Q (.ref p) H'
section
variable {P : Program} {w : World} {K : PySem.W.Frag} {mg : Str → Option Value} {base : Heap}
theorem scSV : FnScope ["self", "table", "key", "number"] ["self", "table", "key", "number"] (defScope s_Store_version) := ⟨rfl, rfl, rfl, by decide +kernel, rfl, by decide +kernel, by decide +kernel⟩
theorem ok_sv {f CS CT CI f1 f2 : Addr} {fd fd1 fd2 : FuncData} (F : Fun K "version" "Store.version" s_Store_version f fd) (TS : TxtS K CS) (TT : TxtT K CT) (Cck : CalM P w K mg base 2 CS "_check" ["self", "number"] (spCk K CS CT CI) f1 fd1) (Ctv : CalM P w K mg base 2 CT "version" ["self", "key", "number"] (spTV K CT CI) f2 fd2) : FnOk P w K mg base CX0 3 f fd ["self", "table", "key", "number"] (spSV K CS CT CI) := by
  refine F.ok scSV (fun vs H Q E h => ?_) (fun cdv A outer s H vs Q E hr h => ?_)
  · obtain ⟨st, z, k, n, sc, m, rfl, _⟩ := h
    rfl
  · obtain ⟨st, z, k, n, sc, m, rfl, x, ok, srt, n0, n1, kk⟩ := h
    have hr2 : Room 2 _ := hr
    have nd : (sc.tabs.map (fun t => t.1)).Nodup := pw_inj x.pd
    obtain ⟨dx, fs, ob, l⟩ := x.ob
    have lk : fs.lookup ("_check" : Str) = none := l.no _ (by decide +kernel) (by decide +kernel) (by decide +kernel) (by decide +kernel)
    refine ⟨_, (pss_cons (ps_expr (pe_meth (pv 0) TS.cl Cck.mt Cck.G hr2 Cck.b .nil pass0 (pa_cons (pv 3) pa_nil)))
      (pss_cons (ps_if (pt_cmp (pc_dnotin (hu_of hr) (pv 1) (pe_fld (pv 0) rfl))) (pss_one (ps_ret (pe_tup (pa_cons pe_non (pa_cons pe_non pa_nil))))) pss_nil)
      (pss_one (ps_ret (pe_meth (pe_dget (hu_of hr) (pe_fld (pv 0) rfl) (pv 1) (fun _ _ => rfl)) TT.cl Ctv.mt Ctv.G hr2 Ctv.b .nil pass0 (pa_cons (pv 2) (pa_cons (pv 3) pa_nil))))))), ?_⟩
    refine sq1 ⟨_, rfl, st, dx, fs, rfl, ob, lk, _, rfl, st, n, sc, rfl, x, n0, n1, ?_⟩
    refine sif ⟨_, rfl, _, rfl, st, CS, dx, fs, _, rfl, ob, TS.cl, TS.n3, l.l3, sc.td, _, rfl, DGet.k (k := Sum.inr z) x.td, _, rfl, ?_⟩
    rcases tab_find nd z with ⟨u, hu, rfl, et, ev⟩ | ⟨et, ev⟩
    · rw [ev]
      try dsimp only
      have tu := x.tv u hu
      have dg : DGet H sc.td (.str u.1) (some (.ref u.2.1)) := ev ▸ DGet.k (k := Sum.inr u.1) x.td
      obtain ⟨dxu, obu⟩ := tu.ob
      refine iteF ⟨_, rfl, st, CS, dx, fs, _, rfl, ob, TS.cl, TS.n3, l.l3, _, rfl, sc.td, .ref u.2.1, rfl, dg, u.2.1, dxu, _, rfl, obu, lk_no _ (by decide +kernel), _, rfl, _, rfl, u.2.1, k, n, u.2.2, m, rfl, tu, ok.ok u hu, srt u hu, fun v H' s hv => kk v H' s ?_⟩
      unfold verS
      rw [et]; exact hv
    · rw [ev]
      try dsimp only
      refine iteT ⟨by show 2 ≤ sizeLine; decide, fun t ht => kk _ _ (same_new ht) ?_⟩
      unfold verS
      rw [et]
      exact ⟨t, rfl, SqT.of upd_same⟩
theorem scSR : FnScope ["self", "table", "key", "number"] ["self", "table", "key", "number"] (defScope s_Store_row) := ⟨rfl, rfl, rfl, by decide +kernel, rfl, by decide +kernel, by decide +kernel⟩
theorem ok_sr {f CS CT CI f1 : Addr} {fd fd1 : FuncData} (F : Fun K "row" "Store.row" s_Store_row f fd) (TS : TxtS K CS) (Csv : CalM P w K mg base 3 CS "version" ["self", "table", "key", "number"] (spSV K CS CT CI) f1 fd1) : FnOk P w K mg base CX0 4 f fd ["self", "table", "key", "number"] (spSR K CS CT CI) := by
  refine F.ok scSR (fun vs H Q E h => ?_) (fun cdv A outer s H vs Q E hr h => ?_)
  · obtain ⟨st, z, k, n, sc, m, rfl, _⟩ := h
    rfl
  · obtain ⟨st, z, k, n, sc, m, rfl, x, ok, srt, n0, n1, kk⟩ := h
    have hr3 : Room 3 _ := hr
    obtain ⟨dx, fs, ob, l⟩ := x.ob
    have lk : fs.lookup ("version" : Str) = none := l.no _ (by decide +kernel) (by decide +kernel) (by decide +kernel) (by decide +kernel)
    refine ⟨_, (pss_one (ps_ret (pe_ix (RK.ixT (K := K)) (pe_meth (pv 0) TS.cl Csv.mt Csv.G hr3 Csv.b .nil pass0 (pa_cons (pv 1) (pa_cons (pv 2) (pa_cons (pv 3) pa_nil)))) pe_int (fun _ _ => rfl)))), ?_⟩
    refine ⟨_, rfl, st, dx, fs, rfl, ob, lk, _, rfl, _, rfl, _, rfl, st, z, k, n, sc, m, rfl, x, ok, srt, n0, n1, fun v H' s hv => ?_⟩
    cases e : verS sc.dat z k n with
    | none =>
      rw [e] at hv
      obtain ⟨a, rfl, ha⟩ := hv
      exact ⟨a, _, 1, .non, rfl, rfl, ha, rfl, kk _ _ s (by rw [e]; rfl)⟩
    | some u =>
      obtain ⟨um, ur⟩ := u
      rw [e] at hv
      obtain ⟨a, b, rfl, ha, hb⟩ := hv
      exact ⟨a, _, 1, .ref b, rfl, rfl, SqT.of ha, rfl, kk _ _ s (by rw [e]; exact ⟨b, rfl, hb⟩)⟩
theorem scSB : FnScope ["self", "table", "low", "high", "number"] ["self", "table", "low", "high", "number"] (defScope s_Store_between) := ⟨rfl, rfl, rfl, by decide +kernel, rfl, by decide +kernel, by decide +kernel⟩
theorem ok_sb {f CS CT CI f1 f2 : Addr} {fd fd1 fd2 : FuncData} (F : Fun K "between" "Store.between" s_Store_between f fd) (TS : TxtS K CS) (TT : TxtT K CT) (Cck : CalM P w K mg base 3 CS "_check" ["self", "number"] (spCk K CS CT CI) f1 fd1) (Cbw : CalM P w K mg base 3 CT "between" ["self", "low", "high", "number"] (spBw K CT CI) f2 fd2) : FnOk P w K mg base CX0 4 f fd ["self", "table", "low", "high", "number"] (spSB K CS CT CI) := by
  refine F.ok scSB (fun vs H Q E h => ?_) (fun cdv A outer s H vs Q E hr h => ?_)
  · obtain ⟨st, z, lo, hi, n, sc, m, rfl, _⟩ := h
    rfl
  · obtain ⟨st, z, lo, hi, n, sc, m, rfl, x, ok, few, srt, n0, n1, kk⟩ := h
    have hr3 : Room 3 _ := hr
    have nd : (sc.tabs.map (fun t => t.1)).Nodup := pw_inj x.pd
    obtain ⟨dx, fs, ob, l⟩ := x.ob
    have lk : fs.lookup ("_check" : Str) = none := l.no _ (by decide +kernel) (by decide +kernel) (by decide +kernel) (by decide +kernel)
    refine ⟨_, (pss_cons (ps_expr (pe_meth (pv 0) TS.cl Cck.mt Cck.G hr3 Cck.b .nil pass0 (pa_cons (pv 4) pa_nil)))
      (pss_cons (ps_if (pt_cmp (pc_dnotin (hu_of hr) (pv 1) (pe_fld (pv 0) rfl))) (pss_one (ps_ret (pe_lst pa_nil))) pss_nil)
      (pss_one (ps_ret (pe_meth (pe_dget (hu_of hr) (pe_fld (pv 0) rfl) (pv 1) (fun _ _ => rfl)) TT.cl Cbw.mt Cbw.G hr3 Cbw.b .nil pass0 (pa_cons (pv 2) (pa_cons (pv 3) (pa_cons (pv 4) pa_nil)))))))), ?_⟩
    refine sq1 ⟨_, rfl, st, dx, fs, rfl, ob, lk, _, rfl, st, n, sc, rfl, x, n0, n1, ?_⟩
    refine sif ⟨_, rfl, _, rfl, st, CS, dx, fs, _, rfl, ob, TS.cl, TS.n3, l.l3, sc.td, _, rfl, DGet.k (k := Sum.inr z) x.td, _, rfl, ?_⟩
    rcases tab_find nd z with ⟨u, hu, rfl, et, ev⟩ | ⟨et, ev⟩
    · rw [ev]
      try dsimp only
      have tu := x.tv u hu
      have dg : DGet H sc.td (.str u.1) (some (.ref u.2.1)) := ev ▸ DGet.k (k := Sum.inr u.1) x.td
      have ou := ok.ok u hu
      obtain ⟨dxu, obu⟩ := tu.ob
      refine iteF ⟨_, rfl, st, CS, dx, fs, _, rfl, ob, TS.cl, TS.n3, l.l3, _, rfl, sc.td, .ref u.2.1, rfl, dg, u.2.1, dxu, _, rfl, obu, lk_no _ (by decide +kernel), _, rfl, _, rfl, _, rfl, u.2.1, lo, hi, n, u.2.2, m, rfl, tu, ou, few, srt u hu, fun ks p us H' mem sub hp s h1 h2 => kk _ p us H' hp s h1 h2 ⟨fun e => ?_, fun t e => ?_⟩ ?_⟩
      · rw [et] at e; cases e
      · rw [et] at e
        obtain rfl := Option.some.inj e
        refine ⟨ks, rfl, fun k => ?_, ou.up.sublist sub⟩
        rw [mem k, ou.km k, keys_dat]
      · have a := pw_len h2
        have b := List.length_filterMap_le (rowD u.2.2.dat n) ks
        have d := sub.length_le
        have e : u.2.2.ks.length ≤ u.2.2.cl.length := by
          have z := nodup_le u.2.2.ks (u.2.2.cl.map fun x => x.1) (ou.up.imp fun h => Int.ne_of_lt h) fun k hk => (ou.km k).mp hk
          rw [List.length_map] at z
          exact z
        have := ou.n1
        omega
    · rw [ev]
      try dsimp only
      refine iteT ⟨by show 0 ≤ sizeLine; decide, fun t ht => kk [] t [] _ ht (same_new ht) upd_same .nil ⟨fun _ => rfl, fun t e => by rw [et] at e; cases e⟩ (Nat.zero_le _)⟩
end
end GS

set_option linter.all false
set_option maxHeartbeats 4000000
namespace GS
open PySem L2 HX
def shK (ts : List Tbn) (n : Int) : List (Key × V) := (ts.filter fun t => decide (t.2.2.num ≤ n)).map fun t => (Sum.inr t.1, V.ref t.2.2.tf)
def spSh (K : PySem.W.Frag) (CS CT CI : Addr) : Sp := fun vs H Q _ => ∃ (st : Addr) (n : Int) (sc : SC), vs = [.ref st, .int n] ∧ SAt K CS CT CI H st sc ∧ sc.tabs.length ≤ 8 ∧ sc.first ≤ n ∧ n ≤ sc.newest ∧
  ∀ d H', H d = none → Same H H' → H' d = some (.dK (shK sc.tabs n)) → Q (.ref d) H'
section
variable {P : Program} {w : World} {K : PySem.W.Frag} {mg : Str → Option Value} {base : Heap}
theorem scSh : FnScope ["self", "number", "name", "table"] ["self", "number"] (defScope s_Store_shapes) := ⟨rfl, rfl, rfl, by decide +kernel, rfl, by decide +kernel, by decide +kernel⟩
theorem ok_sh {f CS CT CI f1 : Addr} {fd fd1 : FuncData} (F : Fun K "shapes" "Store.shapes" s_Store_shapes f fd) (TS : TxtS K CS) (TT : TxtT K CT) (Cck : CalM P w K mg base 1 CS "_check" ["self", "number"] (spCk K CS CT CI) f1 fd1) : FnOk P w K mg base CX0 2 f fd ["self", "number"] (spSh K CS CT CI) := by
  refine F.ok scSh (fun vs H Q E h => ?_) (fun cdv A outer s H vs Q E hr h => ?_)
  · obtain ⟨st, n, sc, rfl, _⟩ := h
    rfl
  · obtain ⟨st, n, sc, rfl, x, few, n0, n1, kk⟩ := h
    have hr1 : Room 1 _ := hr
    have big : (1000 : Nat) < sizeLine := by decide
    have nd : (sc.tabs.map (fun t => t.1)).Nodup := pw_inj x.pd
    obtain ⟨dx, fs, ob, l⟩ := x.ob
    have lk : fs.lookup ("_check" : Str) = none := l.no _ (by decide +kernel) (by decide +kernel) (by decide +kernel) (by decide +kernel)
    refine ⟨_, (pss_cons (ps_expr (pe_meth (pv 0) TS.cl Cck.mt Cck.G hr1 Cck.b .nil pass0 (pa_cons (pv 1) pa_nil)))
      (pss_one (ps_ret (pe_lock (pe_dc (own := [("name", 2), ("table", 3)]) rfl scSh.nd (pi_items (pe_fld (pv 0) rfl)) (blkOk_by (N := ["self", "number", "name", "table"]) (sc := defScope s_Store_shapes) (by decide +kernel)) (fun _ _ _ _ _ => (RK.pgTup (K := K) (n := 2) rfl (pgs_cons (pg_name (i := 2) scSh.nd rfl (Or.inl rfl)) (pgs_cons (pg_name (i := 3) scSh.nd rfl (Or.inl rfl)) pgs_nil)))) (fun _ _ _ _ _ => (pts_one (pt_cmpR op_le (fldK (K := K) (pv 3)) (pv 1) (nomark _)))) (fun _ _ _ _ _ => (pv 2)) (fun _ _ _ _ _ => (fldK (K := K) (pv 3)))))))), ?_⟩
    refine sq1 ⟨_, rfl, st, dx, fs, rfl, ob, lk, _, rfl, st, n, sc, rfl, x, n0, n1, ?_⟩
    refine ⟨sc.td, _, x.td, trivial, fun od => ?_⟩
    refine ⟨_, rfl, st, CS, dx, fs, _, rfl, (upd_ne x.s1.1).trans ob, TS.cl, TS.n3, l.l3, sc.td, od, _, rfl, upd_same, fun D hD => ?_⟩
    have nDt : D ≠ sc.td := fun e => by rw [e, upd_same] at hD; cases hD
    have hDn : H D = none := by rw [upd_ne nDt] at hD; exact hD
    have lts : (skv sc.tabs).length = sc.tabs.length := List.length_map ..
    refine dc_it (walk_items (kvs := skv sc.tabs)) (fun i H' => H' sc.td = some (.frz od (.dK (skv sc.tabs))) ∧ (∀ b o, b ≠ D → b ≠ sc.td → H b = some o → H' b = some o) ∧ H' D = some (.dK (shK (sc.tabs.take i) n)))
      ⟨by rw [upd_ne (Ne.symm nDt), upd_same], fun b o n1 n2 e => by rw [upd_ne n1, upd_ne n2]; exact e, upd_same⟩ (fun i H' _ q => q.1) ?_ ?_
    · rintro i y H' H1' hi ⟨fz, kp, hd⟩ ⟨T, k0, v0, rfl, hT, rfl, e1, e2⟩
      have hi2 : i < sc.tabs.length := lts ▸ hi
      have et : sc.tabs[i]? = some sc.tabs[i] := List.getElem?_eq_getElem hi2
      generalize eu : sc.tabs[i] = u at et
      have es : (skv sc.tabs)[i]? = some (Sum.inr u.1, .ref u.2.1) := by unfold skv; rw [List.getElem?_map, et]; rfl
      dsimp only at e1 e2
      rw [es] at e1 e2
      have e1 : V.str u.1 = k0 := Option.some.inj e1
      have e2 : V.ref u.2.1 = v0 := Option.some.inj e2
      subst e1 e2
      have hu : u ∈ sc.tabs := List.mem_of_getElem? et
      have sT := same_new (o := .tup [.str u.1, .ref u.2.1]) hT
      have hT1 : (upd H' T (.tup [.str u.1, .ref u.2.1])) T = some (.tup [.str u.1, .ref u.2.1]) := upd_same
      have fz1 := sT _ _ fz
      have hd1 := sT _ _ hd
      have kp1 : ∀ b o, b ≠ D → b ≠ sc.td → H b = some o → (upd H' T (.tup [.str u.1, .ref u.2.1])) b = some o := fun b o h1 h2 e => sT _ _ (kp b o h1 h2 e)
      generalize upd H' T (.tup [.str u.1, .ref u.2.1]) = H2 at hT1 fz1 hd1 kp1
      have tu := x.tv u hu
      obtain ⟨dxu, obu⟩ := tu.ob
      have nu : ∀ b ∈ tfp u, b ≠ D ∧ b ≠ sc.td := fun b hb => by
        obtain ⟨o, e2, _⟩ := tu.notup hb
        refine ⟨fun e => ?_, fun e => (x.sp u hu).2.1 (by rw [← e]; exact hb)⟩
        rw [e, hDn] at e2; cases e2
      have mtb : u.2.1 ∈ tfp u := by simp [tfp, TC.fp]
      have obu2 := kp1 _ _ (nu _ mtb).1 (nu _ mtb).2 obu
      have tk1 : sc.tabs.take (i + 1) = sc.tabs.take i ++ [u] := by rw [List.take_add_one, et]; rfl
      refine ⟨T, _, rfl, SqT.of hT1, rfl, _, _, rfl, gn ⟨_, _, rfl, gn ⟨rfl, rfl, _, rfl, u.2.1, CT, dxu, _, _, rfl, obu2, TT.cl, TT.n1, lk1 u.2.2, _, rfl, u.2.2.num, n, rfl, rfl, _, rfl, ?_⟩⟩⟩
      try dsimp only
      by_cases c : u.2.2.num ≤ n
      · rw [decide_eq_true c]
        have ef : ([u] : List Tbn).filter (fun t => decide (t.2.2.num ≤ n)) = [u] := by rw [List.filter_cons, if_pos (decide_eq_true c)]; rfl
        have sh1 : shK (sc.tabs.take (i + 1)) n = shK (sc.tabs.take i) n ++ [(Sum.inr u.1, .ref u.2.2.tf)] := by
          unfold shK
          rw [tk1, List.filter_append, ef, List.map_append]; rfl
        have nv : valV (shK (sc.tabs.take i) n) (Sum.inr u.1 : Key) = none := valV_none fun m => by
          unfold shK at m
          rw [List.map_map] at m
          obtain ⟨v, hv, e⟩ := List.mem_map.mp m
          obtain ⟨hv, _⟩ := List.mem_filter.mp hv
          obtain ⟨j, ej⟩ := List.mem_iff_getElem?.mp hv
          have lj := (List.getElem?_eq_some_iff.mp ej).1
          rw [List.length_take] at lj
          rw [List.getElem?_take_of_lt (by omega)] at ej
          have h1 : (sc.tabs.map fun t => t.1)[j]? = some u.1 := by rw [List.getElem?_map, ej]; exact congrArg some (Sum.inr.inj e)
          have h2 : (sc.tabs.map fun t => t.1)[i]? = some u.1 := by rw [List.getElem?_map, et]; rfl
          have := (List.getElem?_inj (by rw [List.length_map]; omega) nd).mp (h1.trans h2.symm)
          omega
        refine iteT ⟨_, rfl, _, rfl, u.2.1, CT, dxu, _, _, rfl, obu2, TT.cl, TT.n2, lk2 u.2.2, shK (sc.tabs.take i) n, Sum.inr u.1, rfl, hd1, ?_, ?_, fun b o h1 h2 e => by rw [upd_ne h1]; exact kp1 b o h1 h2 e, ?_⟩
        · have : (shK (sc.tabs.take i) n).length ≤ 1000 := by
            unfold shK
            rw [List.length_map]
            refine Nat.le_trans (List.length_filter_le _ _) ?_
            rw [List.length_take]; omega
          exact Nat.lt_of_le_of_lt this big
        · rw [upd_ne (Ne.symm nDt)]; exact fz1
        · rw [upd_same, putK_new _ nv, sh1]
      · rw [decide_eq_false c]
        refine iteF ⟨fz1, kp1, ?_⟩
        have ef : ([u] : List Tbn).filter (fun t => decide (t.2.2.num ≤ n)) = [] := by rw [List.filter_cons, if_neg (by rw [decide_eq_false c]; exact Bool.false_ne_true)]; rfl
        rw [hd1]
        unfold shK
        rw [tk1, List.filter_append, ef, List.append_nil]
    · rintro H' ⟨fz, kp, hd⟩
      rw [lts, List.take_length] at hd
      refine ⟨fz, kk D _ hDn (fun b o e => ?_) (by rw [upd_ne nDt]; exact hd)⟩
      by_cases eb : b = sc.td
      · rw [eb, upd_same]; rw [eb, x.td] at e; exact e
      · rw [upd_ne eb]; exact kp b o (ne_of_none e hDn) eb e
end
end GS

set_option Elab.async false
set_option linter.all false
set_option maxRecDepth 100000
set_option maxHeartbeats 4000000
namespace SD
open PySem PySem.Spec PyProof.Rows L2 HT PySem.W
abbrev KAd := Addr × List L2.Key
def keyD : L2.Key → PyData
  | Sum.inl i => .int i
  | Sum.inr x => .str x
def encK (q : KAd) : PyData := .tuple (q.2.map keyD)
theorem reads_keys {h : Heap} : ∀ {ks : List L2.Key} {its : List Value}, Vals (ks.map kV) its → ReadsAll h its (ks.map keyD) []
  | [], _, .nil => .nil
  | k :: ks, _, .cons r t => by
    cases k with
    | inl i =>
      obtain ⟨tk, rfl⟩ := r
      exact ReadsAll.cons (as := []) (bs := []) (Reads.int i tk) (reads_keys t)
    | inr x =>
      obtain ⟨tk, rfl⟩ := r
      exact ReadsAll.cons (as := []) (bs := []) (Reads.str x tk) (reads_keys t)
theorem depth_keys : ∀ ks : List L2.Key, PyData.depthAll (ks.map keyD) = 0
  | [] => rfl
  | k :: ks => by
    show max (PyData.depth (keyD k)) (PyData.depthAll (ks.map keyD)) = 0
    rw [depth_keys ks]
    cases k <;> rfl
theorem each_of {R : Value → KAd → Prop} : ∀ {vs : List Value} {bs : List KAd}, vs.length = bs.length → (∀ (i : Nat) (v : Value) (b : KAd), vs[i]? = some v → bs[i]? = some b → R v b) → EachIs R vs bs
  | [], [], _, _ => .nil
  | v :: vs, b :: bs, l, h => .cons (h 0 v b rfl rfl) (each_of (by simpa using l) fun i v' b' e1 e2 => h (i + 1) v' b' (by simpa using e1) (by simpa using e2))
  | [], _ :: _, l, _ => by cases l
  | _ :: _, [], l, _ => by cases l
theorem vals_each : ∀ {vs : List Value} {bs : List KAd}, EachIs (fun v b => v = Value.ref b.1) vs bs → Vals (bs.map fun b => V.ref b.1) vs
  | _, _, .nil => .nil
  | _, _, .cons e r => .cons e (vals_each r)
theorem pw_len {α β : Type} {R : α → β → Prop} : ∀ {xs : List α} {ys : List β}, Paired R xs ys → xs.length = ys.length
  | _, _, .nil => rfl
  | _, _, .cons _ r => by rw [List.length_cons, List.length_cons, pw_len r]
theorem pw_get {α β : Type} {R : α → β → Prop} : ∀ {xs : List α} {ys : List β} {i : Nat} {y : β}, Paired R xs ys → ys[i]? = some y → ∃ x, xs[i]? = some x ∧ R x y
  | _, _, i, y, .nil, e => by simp at e
  | _, _, 0, y, .cons h _, e => ⟨_, rfl, by simp at e; subst e; exact h⟩
  | _, _, i + 1, y, .cons _ r, e => pw_get (i := i) r (by simpa using e)
theorem kt_keys {H : Hp} : ∀ {kvs : List (List L2.Key × V)} {ys : List (List L2.Key × Addr × Value)}, KT H kvs ys → ys.map ((fun x : KAd => x.2) ∘ fun y => (y.2.1, y.1)) = kvs.map (·.1)
  | _, _, .nil => rfl
  | _, _, .cons h r => by rw [List.map_cons, List.map_cons, kt_keys r]; congr 1; exact h.1.symm
variable {X : Cx}
/-- sorted(d), the keys of d tuples that compare -/
def rSortedDT : List V → Hp → VK → Prop := fun xs H Q => ∃ (a : Addr) (kvs : List (List L2.Key × V)), xs = [V.ref a] ∧ H a = some (.dT kvs) ∧ (∀ p ∈ kvs, p.1 ≠ []) ∧ (∀ p ∈ kvs, ∀ q ∈ kvs, alike (.tuple (p.1.map keyD)) (.tuple (q.1.map keyD)) = true) ∧
  ∀ (L : List KAd), (∀ q ∈ L, H q.1 = some (.tup (q.2.map kV))) → (L.map (·.2)).Perm (kvs.map (·.1)) → (∃ bs : List KAd, L = bs.mergeSort (dataLe false encK)) → ∀ p, H p = none → Q (.ref p) (upd H p (.lst (L.map fun q => V.ref q.1)))
theorem cr_sortedDT (hc : X.calm = true) (hu : X.A.units + 3 < cLine) : CallR X (.builtin "sorted") rSortedDT := by
  intro pins s σ H xs us Q I r h
  obtain ⟨a, kvs, rfl, ha, ne, al, q⟩ := h
  obtain ⟨u, rfl, rx⟩ := vals1 r
  cases rx
  obtain ⟨hz, hsys, ys, rel, dof⟩ := dt_of I.hok ha
  obtain ⟨es, ep, hr, hs, hv⟩ := dof.raw
  have lkv := pw_len rel
  refine Calls.call_function_entry PyProof.Rows.kind_sorted PyProof.Rows.plain_sorted PyProof.Rows.entry_sorted (PyProof.Rows.args_sorted1 _) ?_
  unfold Builtin.«sorted»
  refine wpAny_bind (m := checkCount "sorted" 1 1 _) (wpAny_pure ?_)
  refine wpAny_bind (PySem.W.kdu_collect (A := X.A.in1) (KdlSrc.rawDict (es := es) (ep := ep) hsys) (I.ok.hd hc) hr (by omega) fun h' tk acc hk hacc => ?_)
  have I1 : L2.Inv X pins σ H { s with heap := h', toks := tk } := I.kept hk
  have hal : acc.toList.length = ys.length := (Array.length_toList ..).trans (hacc.1.trans hs)
  refine wpAny_bind (wpAny_newList ?_ (by rw [hal]; omega))
  have hoL : (h'.push (seqObj "list" acc.toList.toArray 0)).get? h'.objs.size = some (seqObj "list" acc.toList.toArray 0) := Heap.get?_push_size _ rfl
  show wpAny _ _ _ _ _ { s with heap := h'.push (seqObj "list" acc.toList.toArray 0), toks := tk }
  let bs : List KAd := ys.map fun y => (y.2.1, y.1)
  have lbs : bs.length = ys.length := List.length_map ..
  have atb : ∀ b ∈ bs, H b.1 = some (.tup (b.2.map kV)) ∧ ∃ p ∈ kvs, p.1 = b.2 := fun b hb => by
    obtain ⟨y, hy, rfl⟩ := List.mem_map.mp hb
    obtain ⟨i, ei⟩ := List.mem_iff_getElem?.mp hy
    obtain ⟨p, ep, h1, h2, _⟩ := pw_get rel ei
    have h1 : p.1 = y.1 := h1
    exact ⟨by show H y.2.1 = some (.tup (y.1.map kV)); rw [← h1]; exact h2, p, List.mem_of_getElem? ep, h1⟩
  have e0 : EachIs (fun v b => v = Value.ref b.1) acc.toList bs := each_of (hal.trans lbs.symm) fun i v b e1 e2 => by
    rw [Array.getElem?_toList] at e1
    obtain ⟨hi, rfl⟩ := hacc.2 i v e1
    obtain ⟨y, ey, ek, _⟩ := hv i hi
    rw [List.getElem?_map, ey] at e2
    obtain rfl := Option.some.inj e2
    exact ek
  have rd : ∀ (v : Value) (b : KAd), v = Value.ref b.1 → b ∈ bs → Reads (h'.push (seqObj "list" acc.toList.toArray 0)) v (encK b) [] := fun v b ev hb => by
    subst ev
    obtain ⟨its, rv, ⟨o, ho, hcl, n, hd⟩, _⟩ := I1.tuple (SqT.of (atb b hb).1)
    exact Reads.tuple (Heap.get?_push_of_some _ ho) hcl hd (by simpa using reads_keys rv)
  have er : EachIs (fun v b => ∃ as, Reads (h'.push (seqObj "list" acc.toList.toArray 0)) v (encK b) as ∧ h'.objs.size ∉ as) acc.toList bs := (each_mem e0).mono fun v b ⟨e, hb⟩ => ⟨[], rd v b e hb, List.not_mem_nil⟩
  have hAl : AllAlike (bs.map encK) := fun d hd d' hd' => by
    obtain ⟨b, hb, rfl⟩ := List.mem_map.mp hd
    obtain ⟨b', hb', rfl⟩ := List.mem_map.mp hd'
    obtain ⟨_, p, hp, e1⟩ := atb b hb
    obtain ⟨_, p', hp', e2⟩ := atb b' hb'
    unfold encK
    rw [← e1, ← e2]
    exact al p hp p' hp'
  have hSo : Sortable (bs.map encK) := .inl fun d hd => by
    obtain ⟨b, hb, rfl⟩ := List.mem_map.mp hd
    obtain ⟨_, p, hp, e1⟩ := atb b hb
    cases e : b.2 with
    | nil => exact absurd (e1.trans e) (ne p hp)
    | cons k ks => exact ⟨_, _, by unfold encK; rw [e]; rfl⟩
  refine wpAny_bind (wpAny_holding (list_sort_data (s := { s with heap := h'.push (seqObj "list" acc.toList.toArray 0), toks := tk }) hoL e0 er hAl hSo (by rw [lbs]; omega) (fun b hb => ?_) fun out lo eo => ?_))
  · have e : (encK b).depth = 1 := by
      show PyData.depthAll (b.2.map keyD) + 1 = 1
      rw [depth_keys]
    rw [e]
    show X.A.units + 1 + 1 + 1 < cLine
    omega
  · obtain ⟨e', he'⟩ := PyProof.Rows.sortedHeap_at (vs := acc.toList) (out := out.toArray) hoL
    let L := bs.mergeSort (dataLe false encK)
    have pm : L.Perm bs := List.mergeSort_perm ..
    have lL : (L.map fun q => V.ref q.1).length ≤ sizeLine := by rw [List.length_map, pm.length_eq, lbs]; omega
    refine wpAny_pure ⟨_, rfl, .ref h'.objs.size, upd H h'.objs.size (.lst (L.map fun q => V.ref q.1)), I1.laid (t' := tk) (fun b u e => ?_) (Nat.le_refl _)
      (show ObjOk X.prog X.w _ _ _ (.lst (L.map fun q => V.ref q.1)) from ⟨lL, out, e', vals_each eo, he'⟩), rfl, q L (fun x hx => (atb x (pm.mem_iff.mp hx)).1) ?_ ?_ _ (I1.hok.fresh (Nat.le_refl _))⟩
    · have hb : b < h'.objs.size := Heap.lt_size e
      rw [PyProof.Rows.sortedHeap_old (Nat.ne_of_lt hb) (by rw [size_push']; exact Nat.lt_succ_of_lt hb)]
      exact Heap.get?_push_of_some _ e
    · refine (pm.map _).trans ?_
      have e : bs.map (·.2) = kvs.map (·.1) := by
        show (ys.map _).map _ = _
        rw [List.map_map]
        exact kt_keys rel
      rw [e]
    · exact ⟨bs, rfl⟩
end SD

set_option linter.all false
set_option maxRecDepth 100000
set_option maxHeartbeats 4000000
namespace SD
open PySem PySem.Spec PyProof.Rows L2 HT PySem.W
variable {X : Cx}
theorem each_refs : ∀ {bs : List KAd} {vs : List Value}, Vals (bs.map fun b => V.ref b.1) vs → EachIs (fun v b => v = Value.ref b.1) vs bs
  | [], [], _ => .nil
  | b :: bs, v :: vs, h => by
    cases h with
    | cons h1 h2 => exact .cons h1 (each_refs h2)
/-- sorted(xs), xs a list of tuples of texts and numbers that compare -/
def rSortedLT (K : PySem.W.Frag) : List V → Hp → VK → Prop := fun xs H Q => ∃ (a : Addr) (bs : List KAd), xs = [V.ref a] ∧ SqL K H a (bs.map fun b => V.ref b.1) ∧ (∀ b ∈ bs, H b.1 = some (.tup (b.2.map kV))) ∧ (∀ b ∈ bs, b.2 ≠ []) ∧ (∀ b ∈ bs, ∀ c ∈ bs, alike (.tuple (b.2.map keyD)) (.tuple (c.2.map keyD)) = true) ∧ bs.length ≤ 100000 ∧
  ∀ p, H p = none → Q (.ref p) (upd H p (.lst ((bs.mergeSort (dataLe false encK)).map fun q => V.ref q.1)))
theorem cr_sortedLT (hc : X.calm = true) (hu : X.A.units + 3 < cLine) : CallR X (.builtin "sorted") (rSortedLT X.K) := by
  intro pins s σ H xs us Q I r h
  obtain ⟨a, bs, rfl, hs, atb, ne, al, few, q⟩ := h
  obtain ⟨its, rv, hl, hz⟩ := I.list hs
  rw [Vals.ref1 r]
  have e0 := each_refs rv
  have rd : ∀ (v : Value) (b : KAd), v = Value.ref b.1 → b ∈ bs → Reads s.heap v (encK b) [] := fun v b ev hb => by
    subst ev
    obtain ⟨its2, rv2, ⟨o, ho, hcl, n, hd⟩, _⟩ := I.tuple (SqT.of (atb b hb))
    exact Reads.tuple ho hcl hd (by simpa using reads_keys rv2)
  have er : EachIs (fun v b => ∃ as, Reads s.heap v (encK b) as) its bs := (each_mem e0).mono fun v b ⟨e, hb⟩ => ⟨[], rd v b e hb⟩
  have hAl : AllAlike (bs.map encK) := fun d hd d' hd' => by
    obtain ⟨b, hb, rfl⟩ := List.mem_map.mp hd
    obtain ⟨b', hb', rfl⟩ := List.mem_map.mp hd'
    exact al b hb b' hb'
  have hSo : Sortable (bs.map encK) := .inl fun d hd => by
    obtain ⟨b, hb, rfl⟩ := List.mem_map.mp hd
    cases e : b.2 with
    | nil => exact absurd e (ne b hb)
    | cons k ks => exact ⟨_, _, by unfold encK; rw [e]; rfl⟩
  have big : bs.length ≤ sizeLine := Nat.le_trans few (by decide)
  refine sorted_data hl.isList e0 er hAl hSo big (fun b hb => ?_) fun out lo eo => ?_
  · have e : (encK b).depth = 1 := by
      show PyData.depthAll (b.2.map keyD) + 1 = 1
      rw [depth_keys]
    rw [e]
    exact hu
  · obtain ⟨ep, he'⟩ := PyProof.Rows.sortedAll_at s.heap its out.toArray
    have hlen : ((bs.mergeSort (dataLe false encK)).map fun q => V.ref q.1).length ≤ sizeLine := by rw [List.length_map, (List.mergeSort_perm ..).length_eq]; exact big
    exact ⟨.ref _, upd H (s.heap.objs.size + 1) (.lst ((bs.mergeSort (dataLe false encK)).map fun q => V.ref q.1)), I.laid (t' := s.toks) (fun _ _ => PyProof.Rows.sortedAll_old) (Nat.le_succ _) ⟨hlen, out, ep, vals_each eo, he'⟩, rfl, q _ (I.hok.fresh (Nat.le_succ _))⟩
end SD

set_option Elab.async false
set_option linter.all false
set_option maxRecDepth 100000
set_option maxHeartbeats 4000000
namespace LKN
open PySem L2 HX
/-- locked so many times -/
def tLockN : Nat → TE → TE
  | 0, t => t
  | n + 1, t => tLockE (tLockN n t)
def sLockN : Nat → TS → TS
  | 0, t => t
  | n + 1, t => tLock (sLockN n t)
theorem pe_lockN {X : Cx} {e : Expr} {t : TE} (h : PE X e t) : ∀ n, PE X e (tLockN n t)
  | 0 => h
  | n + 1 => pe_lock (pe_lockN h n)
theorem ps_lockN {X : Cx} {s : Stmt} {t : TS} (h : PS X s t) : ∀ n, PS X s (sLockN n t)
  | 0 => h
  | n + 1 => ps_lock (ps_lockN h n)
abbrev Lk := List (Addr × HO)
/-- H1 is H, the places of ds locked -/
structure Frz (ds : Lk) (H H1 : Hp) : Prop where
  out : ∀ b, b ∉ ds.map (fun d => d.1) → H1 b = H b
  inn : ∀ d ∈ ds, ∃ od, H1 d.1 = some (.frz od d.2)
/-- H2 is H', the places of ds as they were -/
structure Thw (ds : Lk) (H' H2 : Hp) : Prop where
  out : ∀ b, b ∉ ds.map (fun d => d.1) → H2 b = H' b
  inn : ∀ d ∈ ds, H2 d.1 = some d.2
theorem thw_nil {H' H2 : Hp} (h : Thw [] H' H2) : H2 = H' := funext fun b => h.out b List.not_mem_nil
theorem lockN_it {t : TE} {σ : L2.St} : ∀ (ds : Lk) {H : Hp} {Q : VK}, (ds.map fun d => d.1).Nodup → (∀ d ∈ ds, H d.1 = some d.2 ∧ Mut (some d.2)) →
    (∀ H1 (Q' : VK), Frz ds H H1 → (∀ v H', (∀ d ∈ ds, H' d.1 = H1 d.1) → (∀ H2, Thw ds H' H2 → Q v H2) → Q' v H') → t σ H1 Q') → tLockN ds.length t σ H Q
  | [], H, Q, _, _, hs => hs H Q ⟨fun _ _ => rfl, fun d h => by cases h⟩ fun v H' _ k => k H' ⟨fun _ _ => rfl, fun d h => by cases h⟩
  | (d, u) :: ds, H, Q, nd, mu, hs => by
    obtain ⟨n1, n2⟩ := List.nodup_cons.mp nd
    obtain ⟨m1, m2⟩ := mu (d, u) (List.mem_cons_self ..)
    refine ⟨d, u, m1, m2, fun od => lockN_it ds n2 (fun e he => ?_) fun H1 Q' fz k => ?_⟩
    · have ne : e.1 ≠ d := fun q => n1 (List.mem_map.mpr ⟨e, he, q⟩)
      rw [upd_ne ne]
      exact mu e (List.mem_cons_of_mem _ he)
    · have hd1 : H1 d = some (.frz od u) := by rw [fz.out d n1, upd_same]
      refine hs H1 Q' ⟨fun b nb => ?_, fun e he => ?_⟩ fun v H' kept kk => k v H' (fun e he => kept e (List.mem_cons_of_mem _ he)) fun H2 th => ⟨?_, kk _ ⟨fun b nb => ?_, fun e he => ?_⟩⟩
      · rw [List.map_cons, List.mem_cons, not_or] at nb
        rw [fz.out b nb.2, upd_ne nb.1]
      · rcases List.mem_cons.mp he with rfl | he
        · exact ⟨od, hd1⟩
        · exact fz.inn e he
      · rw [th.out d n1, kept (d, u) (List.mem_cons_self ..)]; exact hd1
      · rw [List.map_cons, List.mem_cons, not_or] at nb
        rw [upd_ne nb.1]; exact th.out b nb.2
      · rcases List.mem_cons.mp he with rfl | he
        · exact upd_same
        · have ne : e.1 ≠ d := fun q => n1 (List.mem_map.mpr ⟨e, he, q⟩)
          rw [upd_ne ne]; exact th.inn e he
theorem sLockN_it {t : TS} : ∀ (ds : Lk) {σ : L2.St} {H : Hp} {D : Ends}, (ds.map fun d => d.1).Nodup → (∀ d ∈ ds, H d.1 = some d.2 ∧ Mut (some d.2)) →
    (∀ H1 (D' : Ends), Frz ds H H1 → (∀ σ' H', (∀ d ∈ ds, H' d.1 = H1 d.1) → (∀ H2, Thw ds H' H2 → D.nx σ' H2) → D'.nx σ' H') → t D' σ H1) → sLockN ds.length t D σ H
  | [], σ, H, D, _, _, hs => hs H D ⟨fun _ _ => rfl, fun d h => by cases h⟩ fun v H' _ k => k H' ⟨fun _ _ => rfl, fun d h => by cases h⟩
  | (d, u) :: ds, σ, H, D, nd, mu, hs => by
    obtain ⟨n1, n2⟩ := List.nodup_cons.mp nd
    obtain ⟨m1, m2⟩ := mu (d, u) (List.mem_cons_self ..)
    refine ⟨d, u, m1, m2, fun od => sLockN_it ds n2 (fun e he => ?_) fun H1 D' fz k => ?_⟩
    · have ne : e.1 ≠ d := fun q => n1 (List.mem_map.mpr ⟨e, he, q⟩)
      rw [upd_ne ne]
      exact mu e (List.mem_cons_of_mem _ he)
    · have hd1 : H1 d = some (.frz od u) := by rw [fz.out d n1, upd_same]
      refine hs H1 D' ⟨fun b nb => ?_, fun e he => ?_⟩ fun v H' kept kk => k v H' (fun e he => kept e (List.mem_cons_of_mem _ he)) fun H2 th => ⟨?_, kk _ ⟨fun b nb => ?_, fun e he => ?_⟩⟩
      · rw [List.map_cons, List.mem_cons, not_or] at nb
        rw [fz.out b nb.2, upd_ne nb.1]
      · rcases List.mem_cons.mp he with rfl | he
        · exact ⟨od, hd1⟩
        · exact fz.inn e he
      · rw [th.out d n1, kept (d, u) (List.mem_cons_self ..)]; exact hd1
      · rw [List.map_cons, List.mem_cons, not_or] at nb
        rw [upd_ne nb.1]; exact th.out b nb.2
      · rcases List.mem_cons.mp he with rfl | he
        · exact upd_same
        · have ne : e.1 ≠ d := fun q => n1 (List.mem_map.mpr ⟨e, he, q⟩)
          rw [upd_ne ne]; exact th.inn e he
end LKN

set_option linter.all false
set_option maxHeartbeats 4000000
namespace GS
open PySem L2 HX
/-- the box: its cells (a list of ints) and a number -/
def BoxAt (H : Hp) (a b : Addr) : Prop := ∃ (z : Int) (cs : List Int), H a = some (.lst [.ref b, .int z]) ∧ H b = some (.lst (cs.map V.int)) ∧ cs.length ≤ 63
/-- all but the box stays -/
def Keep (a b : Addr) (H H' : Hp) : Prop := ∀ x o, x ≠ a → x ≠ b → H x = some o → H' x = some o

def spBegun (K : PySem.W.Frag) : Sp := fun vs H Q _ => ∃ (l : Addr) (ns : List Int), vs = [.ref l] ∧ SqL K H l (ns.map V.int) ∧ ns.length ≤ 63 ∧
  ∀ (a b : Addr) (H' : Hp), H a = none → H b = none → BoxAt H' a b → Same H H' → Q (.ref a) H'
section
variable {P : Program} {w : World} {K : PySem.W.Frag} {mg : Str → Option Value} {base : Heap}
theorem getI {ns : List Int} {i : Nat} {y : V} (h : (ns.map V.int)[i]? = some y) : ∃ z, ns[i]? = some z ∧ y = V.int z := by
  rw [List.getElem?_map] at h
  cases e : ns[i]? with
  | none => rw [e] at h; cases h
  | some u => rw [e] at h; exact ⟨u, rfl, (Option.some.inj h).symm⟩
theorem scBegun : FnScope ["_law_script", "_law_stirred", "_law_cell"] ["_law_script"] (defScope s_l_begun) := ⟨rfl, rfl, rfl, by decide +kernel, rfl, by decide +kernel, by decide +kernel⟩
theorem ok_begun {f : Addr} {fd : FuncData} (F : Fun K "_law_begun" "_law_begun" s_l_begun f fd) (T : Txt mg) : FnOk P w K mg base CX0 1 f fd ["_law_script"] (spBegun K) := by
  refine F.ok scBegun (fun vs H Q E h => ?_) (fun cdv A outer s H vs Q E hr h => ?_)
  · obtain ⟨l, ns, rfl, _⟩ := h
    rfl
  · obtain ⟨l, ns, rfl, hS, hl, k⟩ := h
    refine ⟨_, pss_cons (ps_set (i := 1) scBegun.nd rfl (Or.inl rfl) pe_int)
      (pss_cons (ps_for PassesOwn.never rfl (pi_list (pv 0)) (pg_name (i := 2) scBegun.nd rfl (Or.inl rfl))
        (pss_one (ps_set (i := 1) scBegun.nd rfl (Or.inl rfl) (pe_op op_mod (pe_op op_add (pe_op op_add (pe_op op_mul (pv 1) pe_int) (pe_op op_mul (pv 2) pe_int)) pe_int) pe_int))))
      (pss_one (ps_ret (pe_lst (pa_cons (pe_callTy call_list_of (by rfl) T.list (by decide +kernel) (pa_cons (pv 0) pa_nil))
        (pa_cons (pe_op op_mul (pv 1) (pe_callTy call_int1 (by rfl) T.int (by decide +kernel) (pa_cons (pe_cmpR op_gt (pe_callB call_len_seq (by rfl) T.len PySem.boot_len (pa_cons (pv 0) pa_nil)) pe_int (nomark _)) pa_nil))) pa_nil)))))), ?_⟩
    refine ⟨_, rfl, l, rfl, ⟨_, hS⟩, for_list (K := K) (a := l) (xs := ns.map V.int) (fun i σ H' => ∃ (z : Int) (v : Option V), σ = [some (.ref l), some (.int z), v] ∧ H' = H) ⟨0, none, rfl, rfl⟩ (fun i σ H' _ ⟨_, _, _, e⟩ => by rw [e]; exact hS) ?_ ?_⟩
    · rintro i y σ H' hi ⟨z, v, rfl, rfl⟩
      obtain ⟨u, _, rfl⟩ := getI hi
      refine ⟨_, rfl, _, _, rfl, rfl, .inr ⟨by decide, by decide⟩, _, rfl, _, _, rfl, rfl, .inr ⟨by decide, by decide⟩, _, _, rfl, rfl, _, _, rfl, rfl, _, _, rfl, rfl, (by show (0 : Int) < 2147483647; decide), _, _, rfl, rfl⟩
    · rintro σ H' ⟨z, v, rfl, rfl⟩
      have hp1 : ∀ p, H' p = none → SqL K (upd H' p (.lst (ns.map V.int))) l (ns.map V.int) := fun p hp => (show Same H' (upd H' p (.lst (ns.map V.int))) from fun c o e => by rw [upd_ne (ne_of_none e hp)]; exact e).seq hS
      refine ⟨_, rfl, l, _, rfl, .inl hS, fun p hp => ⟨_, rfl, _, rfl, l, _, rfl, .inl (hp1 p hp), _, _, rfl, rfl, .inr ⟨_, rfl, ?_⟩⟩⟩
      have hb : ∀ c : Bool, (-(2 ^ 64) < (if c = true then (1 : Int) else 0)) ∧ ((if c = true then (1 : Int) else 0) < 2 ^ 64) := fun c => by cases c <;> decide
      refine ⟨_, _, rfl, rfl, .inr (hb _), (by show 2 ≤ sizeLine; decide), fun q hq => ?_⟩
      have npq : p ≠ q := fun e => by rw [← e, upd_same] at hq; cases hq
      have hq0 : H' q = none := by rw [upd_ne npq.symm] at hq; exact hq
      refine k q p _ hq0 hp ⟨_, ns, upd_same, (by rw [upd_ne npq, upd_same]), hl⟩ (fun c o e => ?_)
      rw [upd_ne (ne_of_none e hq0), upd_ne (ne_of_none e hp)]
      exact e
end
/-- ints as data -/
theorem dpInts (K : PySem.W.Frag) (H : Hp) : ∀ ns : List Int, DpAll K H (ns.map V.int) (ns.map PyData.int)
  | [] => .nil
  | n :: r => .cons (.int n) (dpInts K H r)
theorem eqv_nil (ds : List PyData) : PyData.eqv (.list ds) (.list []) = ds.isEmpty := by
  cases ds <;> simp [PyData.eqv, PyData.eqvAll]
theorem Keep.refl (a b : Addr) (H : Hp) : Keep a b H H := fun _ _ _ _ h => h
theorem Keep.trans {a b : Addr} {H H1 H2 : Hp} (p : Keep a b H H1) (q : Keep a b H1 H2) : Keep a b H H2 := fun x o h1 h2 h => q x o h1 h2 (p x o h1 h2 h)
theorem Keep.at1 {a b : Addr} {H : Hp} {o : HO} : Keep a b H (upd H a o) := fun x u h1 _ h => by rw [upd_ne h1]; exact h
theorem Keep.at2 {a b : Addr} {H : Hp} {o : HO} : Keep a b H (upd H b o) := fun x u _ h2 h => by rw [upd_ne h2]; exact h
theorem Keep.new {a b p : Addr} {H : Hp} {o : HO} (hp : H p = none) : Keep a b H (upd H p o) := fun x u _ _ h => by rw [upd_ne (ne_of_none h hp)]; exact h
theorem fmod_lt {x n : Int} (h : 0 < n) : 0 ≤ x.fmod n ∧ x.fmod n < n := ⟨Int.fmod_nonneg_of_pos x h, Int.fmod_lt_of_pos x h⟩
theorem ix0 {n : Nat} : ixN (n + 1) 0 = some 0 := by
  unfold ixN
  rw [if_pos (by decide), if_pos (by omega)]
  rfl
def spTake (_K : PySem.W.Frag) : Sp := fun vs H Q _ => ∃ (a b : Addr) (n : Int), vs = [.ref a, .int n] ∧ 0 < n ∧ n < 1000000 ∧ BoxAt H a b ∧
  ∀ (r : Int) (H' : Hp), 0 ≤ r → r < n → BoxAt H' a b → Keep a b H H' → Q (.int r) H'
section
variable {P : Program} {w : World} {K : PySem.W.Frag} {mg : Str → Option Value} {base : Heap}
theorem scTake : FnScope ["_law_box", "_law_many", "_law_drawn"] ["_law_box", "_law_many"] (defScope s_l_take) := ⟨rfl, rfl, rfl, by decide +kernel, rfl, by decide +kernel, by decide +kernel⟩
theorem ok_take {f : Addr} {fd : FuncData} (F : Fun K "_law_take" "_law_take" s_l_take f fd) (T : Txt mg) : FnOk P w K mg base CX0 1 f fd ["_law_box", "_law_many"] (spTake K) := by
  refine F.ok scTake (fun vs H Q E h => ?_) (fun cdv A outer s H vs Q E hr h => ?_)
  · obtain ⟨a, b, n, rfl, _⟩ := h
    rfl
  · obtain ⟨a, b, n, rfl, n0, n1, ⟨z, cs, ha, hb, hc⟩, k⟩ := h
    refine ⟨_, pss_cons (ps_if (pt_cmpR (op_eqD hr.units) (pe_ix ix_list (pv 0) pe_int (fun _ _ => rfl)) (pe_lst pa_nil) (nomark _))
        (pss_cons (ps_asg (pe_op op_mod (pe_op op_mul (pe_ix ix_list (pv 0) pe_int (fun _ _ => rfl)) pe_int) pe_int) (pg_sub (pv 0) pe_int set_list))
          (pss_one (ps_ret (pe_op op_modN (pe_op op_fdiv (pe_ix ix_list (pv 0) pe_int (fun _ _ => rfl)) pe_int) (pv 1))))) pss_nil)
      (pss_cons (ps_set (i := 2) scTake.nd rfl (Or.inl rfl) (pe_ix ix_list (pe_ix ix_list (pv 0) pe_int (fun _ _ => rfl)) pe_int (fun _ _ => rfl)))
      (pss_cons (ps_asg (pe_op op_fdivN (pv 2) (pv 1)) (pg_sub (pe_ix ix_list (pv 0) pe_int (fun _ _ => rfl)) pe_int set_list))
      (pss_cons (ps_if (PW.pt (pw_or (pt_cmpR op_eq (pe_ix ix_list (pe_ix ix_list (pv 0) pe_int (fun _ _ => rfl)) pe_int (fun _ _ => rfl)) pe_int (nomark _))
            (pw_or1 (pt_cmpR op_eq (pe_ix ix_list (pe_ix ix_list (pv 0) pe_int (fun _ _ => rfl)) pe_int (fun _ _ => rfl)) (pe_un un_neg pe_int) (nomark _)))))
          (pss_one (ps_expr (pe_bm PySem.F.plainAttrs_list PySem.F.slot_list_pop PySem.F.type_list_pop mt_popAt (pe_ix ix_list (pv 0) pe_int (fun _ _ => rfl)) (pa_cons pe_int pa_nil)))) pss_nil)
      (pss_one (ps_ret (pe_op op_modN (pv 2) (pv 1))))))), ?_⟩
    have nab : a ≠ b := ne_of ha hb (by
      intro e
      injection e with e
      cases cs with
      | nil => cases e
      | cons c r => rw [List.map_cons] at e; injection e with e1 _; cases e1)
    refine ⟨_, rfl, a, _, _, _, rfl, rfl, SqL.of ha, rfl, (by show 0 ≤ sizeLine; decide), fun e he => ?_⟩
    have nae : a ≠ e := ne_of_none ha he
    have nbe : b ≠ e := ne_of_none hb he
    have ha1 : upd H e (.lst []) a = some (.lst [.ref b, .int z]) := by rw [upd_ne nae]; exact ha
    have hb1 : upd H e (.lst []) b = some (.lst (cs.map V.int)) := by rw [upd_ne nbe]; exact hb
    refine ⟨_, _, .lst (SqL.of hb1) (dpInts K _ cs), .lst (SqL.of upd_same) .nil, PySem.W.shaped_ints cs, rfl, _, rfl, ?_⟩
    rw [eqv_nil]
    cases cs with
    | nil =>
      refine iteT ?_
      refine ⟨_, rfl, a, _, _, _, rfl, rfl, SqL.of ha1, rfl, _, _, rfl, rfl, .inr ⟨by decide, by decide⟩, _, _, rfl, rfl, (by show (0 : Int) < 2147483647; decide), ?_⟩
      refine ⟨_, rfl, a, _, _, 1, rfl, rfl, ha1, rfl, ?_⟩
      refine ⟨_, rfl, a, _, _, _, rfl, rfl, SqL.of upd_same, rfl, _, _, rfl, rfl, ⟨by decide, by decide⟩, _, rfl, _, _, rfl, rfl, (by show n ≠ 0; omega), ?_⟩
      refine k _ _ (fmod_lt n0).1 (fmod_lt n0).2 ⟨_, [], upd_same, (by rw [upd_ne nab.symm]; exact hb1), hc⟩ ((Keep.new he).trans Keep.at1)
    | cons c r =>
      refine iteF ?_
      have b0 : upd H e (.lst []) b = some (.lst (V.int c :: r.map V.int)) := hb1
      refine ⟨_, rfl, a, _, _, _, rfl, rfl, SqL.of ha1, rfl, b, _, _, _, rfl, rfl, SqL.of b0, at0, ?_⟩
      -- box[0][0] = drawn // many
      refine ⟨_, rfl, _, rfl, _, _, rfl, rfl, ⟨by omega, by omega⟩, _, rfl, a, _, _, _, rfl, rfl, SqL.of ha1, rfl, b, _, _, 0, rfl, rfl, b0, ix0, ?_⟩
      have nba := nab.symm
      let q := c.fdiv n
      have ha2 : upd (upd H e (.lst [])) b (.lst (V.int q :: r.map V.int)) a = some (.lst [.ref b, .int z]) := by rw [upd_ne nab]; exact ha1
      have hb2 : upd (upd H e (.lst [])) b (.lst (V.int q :: r.map V.int)) b = some (.lst (V.int q :: r.map V.int)) := upd_same
      have kp : Keep a b H (upd (upd H e (.lst [])) b (.lst (V.int q :: r.map V.int))) := (Keep.new he).trans Keep.at2
      have lr : r.length ≤ 62 := by rw [List.length_cons] at hc; omega
      have fin : ∀ H', BoxAt H' a b → Keep a b H H' → tRet (tOp (rI (fun x j => j ≠ 0) fun i j => V.int (i.fmod j)) (tVar 2) (tVar 1)) { nx := fun _ H' => Q .non H', rt := Q } [some (.ref a), some (.int n), some (.int c)] H' := fun H' B K' =>
        ⟨_, rfl, _, rfl, _, _, rfl, rfl, (by show n ≠ 0; omega), k _ _ (fmod_lt n0).1 (fmod_lt n0).2 B K'⟩
      have popped : tDrop (tBM K "list" rPopAt (tOp (rIxL K) (tVar 0) (tC (V.int 0))) (tCons (tC (.int 0)) tNil)) { nx := fun σ H' => tRet (tOp (rI (fun x j => j ≠ 0) fun i j => V.int (i.fmod j)) (tVar 2) (tVar 1)) { nx := fun _ H' => Q .non H', rt := Q } σ H', rt := Q } [some (.ref a), some (.int n), some (.int c)] (upd (upd H e (.lst [])) b (.lst (V.int q :: r.map V.int))) :=
        ⟨_, rfl, a, _, _, _, rfl, rfl, SqL.of ha2, rfl, .inl ⟨rfl, _, SqL.of hb2⟩, b, _, _, 0, _, rfl, rfl, hb2, by decide, by decide, (ixN_seq ix0).1, rfl, by
          refine fin _ ⟨z, r, (by rw [upd_ne nab]; exact ha2), upd_same, by omega⟩ (kp.trans Keep.at2)⟩
      refine ⟨_, rfl, a, _, _, _, rfl, rfl, SqL.of ha2, rfl, b, _, _, _, rfl, rfl, SqL.of hb2, at0, rfl, _, rfl, ?_⟩
      refine ite2 (fun _ => iteT popped) (fun _ => ?_)
      refine ⟨_, rfl, a, _, _, _, rfl, rfl, SqL.of ha2, rfl, b, _, _, _, rfl, rfl, SqL.of hb2, at0, _, rfl, rfl, _, rfl, ?_⟩
      refine ite2 (fun _ => popped) (fun _ => ?_)
      exact fin _ ⟨z, q :: r, ha2, hb2, by rw [List.length_cons]; omega⟩ kp
end
end GS

set_option linter.all false
set_option maxHeartbeats 4000000
namespace GS
open PySem L2 HX
theorem tyT {K : PySem.W.Frag} {H : Hp} {a : Addr} {xs : List V} (h : SqT K H a xs) : TyX K H (.ref a) (.type "tuple") := by
  rcases h with (h | ⟨o, h⟩) | ⟨o, its, n, h, c, _⟩
  · exact .base (.tup h)
  · exact .fTuple h
  · exact .kTuple h c
theorem tyL {K : PySem.W.Frag} {H : Hp} {a : Addr} {xs : List V} (h : SqL K H a xs) : TyX K H (.ref a) (.type "list") := by
  rcases h with (h | ⟨o, h⟩) | ⟨o, its, n, h, c, _⟩
  · exact .base (.lst h)
  · exact .base (.frz h)
  · exact .kList h c
def leaf : V → Bool
  | .non => true
  | .int _ => true
  | .str _ => true
  | _ => false
/-- two that are alike, n deep -/
def Alk (K : PySem.W.Frag) (H : Hp) : Nat → V → V → Prop
  | 0, v, w => v = w ∧ leaf v = true
  | n + 1, v, w => (v = w ∧ leaf v = true) ∨ ∃ (a b : Addr) (xs ys : List V), v = .ref a ∧ w = .ref b ∧ ((SqT K H a xs ∧ SqT K H b ys) ∨ (SqL K H a xs ∧ SqL K H b ys)) ∧ xs.length ≤ 1000 ∧ Paired (Alk K H n) xs ys
def spAlk (K : PySem.W.Frag) (n : Nat) : Sp := fun vs H Q _ => ∃ v w, vs = [v, w] ∧ Alk K H n v w ∧ Q (.bl true) H
theorem pw_both {α β : Type} {R : α → β → Prop} : ∀ {xs : List α} {ys : List β} {i : Nat}, Paired R xs ys → i < xs.length → ∃ x y, xs[i]? = some x ∧ ys[i]? = some y ∧ R x y
  | _, _, 0, .cons h _, _ => ⟨_, _, rfl, rfl, h⟩
  | _, _, i + 1, .cons _ r, l => pw_both (i := i) r (by rw [List.length_cons] at l; omega)
theorem pw_join {α β : Type} {R : α → β → Prop} {S : β → β → Prop} (h : ∀ d v w, R d v → R d w → S v w) : ∀ {ds : List α} {xs ys : List β}, Paired R ds xs → Paired R ds ys → Paired S xs ys
  | _, _, _, .nil, .nil => .nil
  | _, _, _, .cons a r, .cons b q => .cons (h _ _ _ a b) (pw_join h r q)
section
variable {P : Program} {w : World} {K : PySem.W.Frag} {mg : Str → Option Value} {base : Heap}
theorem scAl : FnScope ["_law_found", "_law_due_here", "_law_k"] ["_law_found", "_law_due_here"] (defScope s_l_alike) := ⟨rfl, rfl, rfl, by decide +kernel, rfl, by decide +kernel, by decide +kernel⟩
theorem ok_alk {n j : Nat} {f : Addr} {fd : FuncData} (F : Fun K "_law_alike" "_law_alike" s_l_alike f fd) (T : Txt mg) (Calike : ∀ m, n = m + 1 → Cal P w K mg base j "_law_alike" ["_law_found", "_law_due_here"] (spAlk K m) f fd) : FnOk P w K mg base CX0 (j + 1) f fd ["_law_found", "_law_due_here"] (spAlk K n) := by
  have kI : PySem.W.kitOne K (.type "int") (.type "int") = some true := by unfold PySem.W.kitOne; rw [if_pos (by decide)]
  have kS : PySem.W.kitOne K (.type "str") (.type "str") = some true := by unfold PySem.W.kitOne; rw [if_pos (by decide)]
  have kT : PySem.W.kitOne K (.type "tuple") (.type "tuple") = some true := by unfold PySem.W.kitOne; rw [if_pos (by decide)]
  have kL : PySem.W.kitOne K (.type "list") (.type "list") = some true := by unfold PySem.W.kitOne; rw [if_pos (by decide)]
  have kIb : PySem.W.kitOne K (.type "int") (.type "bool") = some false := by first | rfl | decide +kernel
  have kSb : PySem.W.kitOne K (.type "str") (.type "bool") = some false := by first | rfl | decide +kernel
  have kSi : PySem.W.kitOne K (.type "str") (.type "int") = some false := by first | rfl | decide +kernel
  have kTb : PySem.W.kitOne K (.type "tuple") (.type "bool") = some false := by first | rfl | decide +kernel
  have kTi : PySem.W.kitOne K (.type "tuple") (.type "int") = some false := by first | rfl | decide +kernel
  have kTs : PySem.W.kitOne K (.type "tuple") (.type "str") = some false := by first | rfl | decide +kernel
  have kTl : PySem.W.kitOne K (.type "tuple") (.type "list") = some false := by first | rfl | decide +kernel
  have kLb : PySem.W.kitOne K (.type "list") (.type "bool") = some false := by first | rfl | decide +kernel
  have kLi : PySem.W.kitOne K (.type "list") (.type "int") = some false := by first | rfl | decide +kernel
  have kLs : PySem.W.kitOne K (.type "list") (.type "str") = some false := by first | rfl | decide +kernel
  have kLt : PySem.W.kitOne K (.type "list") (.type "tuple") = some false := by first | rfl | decide +kernel
  refine F.ok scAl (fun vs H Q E h => ?_) (fun cdv A outer s H vs Q E hr h => ?_)
  · obtain ⟨v, w, rfl, _⟩ := h
    rfl
  · obtain ⟨v, w', rfl, al, k⟩ := h
    have hr1 : Room j _ := hr
    have leafCase : (v = w' ∧ leaf v = true) → ∃ t, PSs (cxOf CX0 P w K mg base ["_law_found", "_law_due_here", "_law_k"] "_law_alike" (defScope s_l_alike) f cdv A outer s H E).nox (defBody s_l_alike) t ∧ t { nx := fun _ H' => Q .non H', rt := Q } (L2.start ["_law_found", "_law_due_here", "_law_k"] [v, w']) H := by
      rintro ⟨rfl, hl⟩
      refine ⟨_, (pss_cons (ps_if (pt_cmpR op_isN (pv 1) pe_non (nomark _)) (pss_one (ps_ret (pe_cmpR op_isN (pv 0) pe_non (nomark _)))) pss_nil)
        (pss_cons (ps_if (pt_val (pe_callB (RK.isi (K := K)) (by rfl) T.isinstance (by decide +kernel) (pa_cons (pv 1) (pa_cons (pe_bltn (v := .ty "bool") (u := .type "bool") (by rfl) T.bool (by decide +kernel) rfl) pa_nil)))) (pss_one (ps_ret (pe_and (pe_callB (RK.isi (K := K)) (by rfl) T.isinstance (by decide +kernel) (pa_cons (pv 0) (pa_cons (pe_bltn (v := .ty "bool") (u := .type "bool") (by rfl) T.bool (by decide +kernel) rfl) pa_nil))) (pe_one (pe_cmpR op_eq (pv 0) (pv 1) (nomark _)))))) pss_nil)
        (pss_cons (ps_if (pt_val (pe_callB (RK.isi (K := K)) (by rfl) T.isinstance (by decide +kernel) (pa_cons (pv 1) (pa_cons (pe_bltn (v := .ty "int") (u := .type "int") (by rfl) T.int (by decide +kernel) rfl) pa_nil)))) (pss_one (ps_ret (pe_and (pe_callB (RK.isi (K := K)) (by rfl) T.isinstance (by decide +kernel) (pa_cons (pv 0) (pa_cons (pe_bltn (v := .ty "int") (u := .type "int") (by rfl) T.int (by decide +kernel) rfl) pa_nil))) (pe_and (pe_not (pe_callB (RK.isi (K := K)) (by rfl) T.isinstance (by decide +kernel) (pa_cons (pv 0) (pa_cons (pe_bltn (v := .ty "bool") (u := .type "bool") (by rfl) T.bool (by decide +kernel) rfl) pa_nil)))) (pe_one (pe_cmpR op_eq (pv 0) (pv 1) (nomark _))))))) pss_nil)
        (pss_cons (ps_if (pt_val (pe_callB (RK.isi (K := K)) (by rfl) T.isinstance (by decide +kernel) (pa_cons (pv 1) (pa_cons (pe_bltn (v := .ty "str") (u := .type "str") (by rfl) T.str (by decide +kernel) rfl) pa_nil)))) (pss_one (ps_ret (pe_and (pe_callB (RK.isi (K := K)) (by rfl) T.isinstance (by decide +kernel) (pa_cons (pv 0) (pa_cons (pe_bltn (v := .ty "str") (u := .type "str") (by rfl) T.str (by decide +kernel) rfl) pa_nil))) (pe_one (pe_cmpR op_eq (pv 0) (pv 1) (nomark _)))))) pss_nil)
        (pss_cons ps_never (pss_cons ps_never (pss_cons ps_never (pss_one ps_never)))))))), ?_⟩
      cases v with
      | non => exact sif ⟨_, rfl, rfl, _, rfl, iteT ⟨_, rfl, rfl, k⟩⟩
      | int i =>
        refine sif ⟨_, rfl, rfl, _, rfl, iteF ?_⟩
        dsimp only [tNext]
        refine sif ⟨_, rfl, _, _, _, _, false, rfl, .ty "bool", .base (.int i), kIb, _, rfl, iteF ?_⟩
        dsimp only [tNext]
        refine sif ⟨_, rfl, _, _, _, _, true, rfl, .ty "int", .base (.int i), kI, _, rfl, iteT ?_⟩
        refine ⟨_, rfl, _, _, _, _, true, rfl, .ty "int", .base (.int i), kI, _, rfl, iteT ?_⟩
        refine ⟨_, rfl, _, _, _, _, false, rfl, .ty "bool", .base (.int i), kIb, _, rfl, _, rfl, iteT ?_⟩
        refine ⟨_, rfl, _, rfl, rfl, ?_⟩
        rw [decide_eq_true rfl]
        exact k
      | str x =>
        refine sif ⟨_, rfl, rfl, _, rfl, iteF ?_⟩
        dsimp only [tNext]
        refine sif ⟨_, rfl, _, _, _, _, false, rfl, .ty "bool", .base (.str x), kSb, _, rfl, iteF ?_⟩
        dsimp only [tNext]
        refine sif ⟨_, rfl, _, _, _, _, false, rfl, .ty "int", .base (.str x), kSi, _, rfl, iteF ?_⟩
        dsimp only [tNext]
        refine sif ⟨_, rfl, _, _, _, _, true, rfl, .ty "str", .base (.str x), kS, _, rfl, iteT ?_⟩
        refine ⟨_, rfl, _, _, _, _, true, rfl, .ty "str", .base (.str x), kS, _, rfl, iteT ?_⟩
        refine ⟨_, rfl, _, rfl, rfl, ?_⟩
        rw [decide_eq_true rfl]
        exact k
      | _ => cases hl
    cases n with
    | zero => exact leafCase al
    | succ m =>
      rcases al with al | ⟨a, b, xs, ys, rfl, rfl, kind, few, pw⟩
      · exact leafCase al
      have Ca := Calike m rfl
      have len := pw_len pw
      rcases kind with ⟨hx, hy⟩ | ⟨hx, hy⟩
      · refine ⟨_, (pss_cons (ps_if (pt_cmpR op_isN (pv 1) pe_non (nomark _)) (pss_one (ps_ret (pe_cmpR op_isN (pv 0) pe_non (nomark _)))) pss_nil)
          (pss_cons (ps_if (pt_val (pe_callB (RK.isi (K := K)) (by rfl) T.isinstance (by decide +kernel) (pa_cons (pv 1) (pa_cons (pe_bltn (v := .ty "bool") (u := .type "bool") (by rfl) T.bool (by decide +kernel) rfl) pa_nil)))) (pss_one (ps_ret (pe_and (pe_callB (RK.isi (K := K)) (by rfl) T.isinstance (by decide +kernel) (pa_cons (pv 0) (pa_cons (pe_bltn (v := .ty "bool") (u := .type "bool") (by rfl) T.bool (by decide +kernel) rfl) pa_nil))) (pe_one (pe_cmpR op_eq (pv 0) (pv 1) (nomark _)))))) pss_nil)
          (pss_cons (ps_if (pt_val (pe_callB (RK.isi (K := K)) (by rfl) T.isinstance (by decide +kernel) (pa_cons (pv 1) (pa_cons (pe_bltn (v := .ty "int") (u := .type "int") (by rfl) T.int (by decide +kernel) rfl) pa_nil)))) (pss_one (ps_ret (pe_and (pe_callB (RK.isi (K := K)) (by rfl) T.isinstance (by decide +kernel) (pa_cons (pv 0) (pa_cons (pe_bltn (v := .ty "int") (u := .type "int") (by rfl) T.int (by decide +kernel) rfl) pa_nil))) (pe_and (pe_not (pe_callB (RK.isi (K := K)) (by rfl) T.isinstance (by decide +kernel) (pa_cons (pv 0) (pa_cons (pe_bltn (v := .ty "bool") (u := .type "bool") (by rfl) T.bool (by decide +kernel) rfl) pa_nil)))) (pe_one (pe_cmpR op_eq (pv 0) (pv 1) (nomark _))))))) pss_nil)
          (pss_cons (ps_if (pt_val (pe_callB (RK.isi (K := K)) (by rfl) T.isinstance (by decide +kernel) (pa_cons (pv 1) (pa_cons (pe_bltn (v := .ty "str") (u := .type "str") (by rfl) T.str (by decide +kernel) rfl) pa_nil)))) (pss_one (ps_ret (pe_and (pe_callB (RK.isi (K := K)) (by rfl) T.isinstance (by decide +kernel) (pa_cons (pv 0) (pa_cons (pe_bltn (v := .ty "str") (u := .type "str") (by rfl) T.str (by decide +kernel) rfl) pa_nil))) (pe_one (pe_cmpR op_eq (pv 0) (pv 1) (nomark _)))))) pss_nil)
          (pss_cons (ps_if (PW.pt (pw_or (pt_cmpR op_ne (pe_callB (RK.isi (K := K)) (by rfl) T.isinstance (by decide +kernel) (pa_cons (pv 1) (pa_cons (pe_bltn (v := .ty "tuple") (u := .type "tuple") (by rfl) T.tuple (by decide +kernel) rfl) pa_nil))) (pe_callB (RK.isi (K := K)) (by rfl) T.isinstance (by decide +kernel) (pa_cons (pv 0) (pa_cons (pe_bltn (v := .ty "tuple") (u := .type "tuple") (by rfl) T.tuple (by decide +kernel) rfl) pa_nil))) (nomark _)) (pw_or1 (pt_cmpR op_ne (pe_callB (RK.isi (K := K)) (by rfl) T.isinstance (by decide +kernel) (pa_cons (pv 1) (pa_cons (pe_bltn (v := .ty "list") (u := .type "list") (by rfl) T.list (by decide +kernel) rfl) pa_nil))) (pe_callB (RK.isi (K := K)) (by rfl) T.isinstance (by decide +kernel) (pa_cons (pv 0) (pa_cons (pe_bltn (v := .ty "list") (u := .type "list") (by rfl) T.list (by decide +kernel) rfl) pa_nil))) (nomark _))))) (pss_one (ps_ret pe_bl)) pss_nil)
          (pss_cons (ps_if (pt_cmpR op_ne (pe_callB (RK.lenQ (K := K)) (by rfl) T.len PySem.boot_len (pa_cons (pv 0) pa_nil)) (pe_callB (RK.lenQ (K := K)) (by rfl) T.len PySem.boot_len (pa_cons (pv 1) pa_nil)) (nomark _)) (pss_one (ps_ret pe_bl)) pss_nil)
          (pss_cons (ps_for PassesOwn.never rfl (pi_range1 rfl T.range (pa_cons (pe_callB (RK.lenQ (K := K)) (by rfl) T.len PySem.boot_len (pa_cons (pv 1) pa_nil)) pa_nil)) (pg_name (i := 2) scAl.nd rfl (Or.inl rfl))
            (pss_one (ps_if (pt_not (pt_val (pe_call Ca.G hr1 (by rfl) Ca.g Ca.kp Ca.b .nil pass0 (pa_cons (pe_ix (RK.ixQ (K := K)) (pv 0) (pv 2) (fun _ _ => rfl)) (pa_cons (pe_ix (RK.ixQ (K := K)) (pv 1) (pv 2) (fun _ _ => rfl)) pa_nil))))) (pss_one (ps_ret pe_bl)) pss_nil)))
          (pss_one (ps_ret pe_bl))))))))), ?_⟩
        refine sif ⟨_, rfl, rfl, _, rfl, iteF ?_⟩
        dsimp only [tNext]
        refine sif ⟨_, rfl, _, _, _, _, false, rfl, .ty "bool", tyT hy, kTb, _, rfl, iteF ?_⟩
        dsimp only [tNext]
        refine sif ⟨_, rfl, _, _, _, _, false, rfl, .ty "int", tyT hy, kTi, _, rfl, iteF ?_⟩
        dsimp only [tNext]
        refine sif ⟨_, rfl, _, _, _, _, false, rfl, .ty "str", tyT hy, kTs, _, rfl, iteF ?_⟩
        dsimp only [tNext]
        refine sif ⟨_, rfl, _, _, _, _, true, rfl, .ty "tuple", tyT hy, kT, _, rfl, _, _, _, _, true, rfl, .ty "tuple", tyT hx, kT, rfl, _, rfl, iteF ?_⟩
        refine ⟨_, rfl, _, _, _, _, false, rfl, .ty "list", tyT hy, kTl, _, rfl, _, _, _, _, false, rfl, .ty "list", tyT hx, kTl, rfl, _, rfl, iteF ?_⟩
        dsimp only [tNext]
        refine sif ⟨_, rfl, a, xs, rfl, .inr hx, _, rfl, b, ys, rfl, .inr hy, rfl, _, rfl, ?_⟩
        rw [len, show (!decide (V.int (ys.length : Nat) = V.int (ys.length : Nat))) = false by simp]
        refine iteF ?_
        dsimp only [tNext]
        refine ⟨_, rfl, b, ys, rfl, .inr hy, _, rfl, ?_, ?_, for_range (lo := 0) (n := ((ys.length : Nat) : Int).toNat) (fun i σ H' => H' = H ∧ ∃ v2, σ = [some (.ref a), some (.ref b), v2]) ⟨rfl, none, rfl⟩ ?_ ?_⟩
        · omega
        · omega
        · rintro i σ H' hi ⟨rfl, v2, rfl⟩
          have li : i < xs.length := by have hi : i < ys.length := hi; omega
          obtain ⟨x, y, ex, ey, al⟩ := pw_both pw li
          have z0 : (0 : Int) + ((i : Nat) : Int) = ((i : Nat) : Int) := by omega
          refine gn ?_
          refine ⟨_, rfl, _, rfl, .inr (.inl ⟨a, xs, _, x, rfl, rfl, hx, by rw [z0]; exact atI_nat ex, _, rfl, _, rfl, .inr (.inl ⟨b, ys, _, y, rfl, rfl, hy, by rw [z0]; exact atI_nat ey, x, y, rfl, al, _, rfl, iteF ⟨rfl, _, rfl⟩⟩)⟩)⟩
        · rintro σ H' ⟨rfl, v2, rfl⟩
          exact k
      · refine ⟨_, (pss_cons (ps_if (pt_cmpR op_isN (pv 1) pe_non (nomark _)) (pss_one (ps_ret (pe_cmpR op_isN (pv 0) pe_non (nomark _)))) pss_nil)
          (pss_cons (ps_if (pt_val (pe_callB (RK.isi (K := K)) (by rfl) T.isinstance (by decide +kernel) (pa_cons (pv 1) (pa_cons (pe_bltn (v := .ty "bool") (u := .type "bool") (by rfl) T.bool (by decide +kernel) rfl) pa_nil)))) (pss_one (ps_ret (pe_and (pe_callB (RK.isi (K := K)) (by rfl) T.isinstance (by decide +kernel) (pa_cons (pv 0) (pa_cons (pe_bltn (v := .ty "bool") (u := .type "bool") (by rfl) T.bool (by decide +kernel) rfl) pa_nil))) (pe_one (pe_cmpR op_eq (pv 0) (pv 1) (nomark _)))))) pss_nil)
          (pss_cons (ps_if (pt_val (pe_callB (RK.isi (K := K)) (by rfl) T.isinstance (by decide +kernel) (pa_cons (pv 1) (pa_cons (pe_bltn (v := .ty "int") (u := .type "int") (by rfl) T.int (by decide +kernel) rfl) pa_nil)))) (pss_one (ps_ret (pe_and (pe_callB (RK.isi (K := K)) (by rfl) T.isinstance (by decide +kernel) (pa_cons (pv 0) (pa_cons (pe_bltn (v := .ty "int") (u := .type "int") (by rfl) T.int (by decide +kernel) rfl) pa_nil))) (pe_and (pe_not (pe_callB (RK.isi (K := K)) (by rfl) T.isinstance (by decide +kernel) (pa_cons (pv 0) (pa_cons (pe_bltn (v := .ty "bool") (u := .type "bool") (by rfl) T.bool (by decide +kernel) rfl) pa_nil)))) (pe_one (pe_cmpR op_eq (pv 0) (pv 1) (nomark _))))))) pss_nil)
          (pss_cons (ps_if (pt_val (pe_callB (RK.isi (K := K)) (by rfl) T.isinstance (by decide +kernel) (pa_cons (pv 1) (pa_cons (pe_bltn (v := .ty "str") (u := .type "str") (by rfl) T.str (by decide +kernel) rfl) pa_nil)))) (pss_one (ps_ret (pe_and (pe_callB (RK.isi (K := K)) (by rfl) T.isinstance (by decide +kernel) (pa_cons (pv 0) (pa_cons (pe_bltn (v := .ty "str") (u := .type "str") (by rfl) T.str (by decide +kernel) rfl) pa_nil))) (pe_one (pe_cmpR op_eq (pv 0) (pv 1) (nomark _)))))) pss_nil)
          (pss_cons (ps_if (PW.pt (pw_or (pt_cmpR op_ne (pe_callB (RK.isi (K := K)) (by rfl) T.isinstance (by decide +kernel) (pa_cons (pv 1) (pa_cons (pe_bltn (v := .ty "tuple") (u := .type "tuple") (by rfl) T.tuple (by decide +kernel) rfl) pa_nil))) (pe_callB (RK.isi (K := K)) (by rfl) T.isinstance (by decide +kernel) (pa_cons (pv 0) (pa_cons (pe_bltn (v := .ty "tuple") (u := .type "tuple") (by rfl) T.tuple (by decide +kernel) rfl) pa_nil))) (nomark _)) (pw_or1 (pt_cmpR op_ne (pe_callB (RK.isi (K := K)) (by rfl) T.isinstance (by decide +kernel) (pa_cons (pv 1) (pa_cons (pe_bltn (v := .ty "list") (u := .type "list") (by rfl) T.list (by decide +kernel) rfl) pa_nil))) (pe_callB (RK.isi (K := K)) (by rfl) T.isinstance (by decide +kernel) (pa_cons (pv 0) (pa_cons (pe_bltn (v := .ty "list") (u := .type "list") (by rfl) T.list (by decide +kernel) rfl) pa_nil))) (nomark _))))) (pss_one (ps_ret pe_bl)) pss_nil)
          (pss_cons (ps_if (pt_cmpR op_ne (pe_callB (RK.lenQ (K := K)) (by rfl) T.len PySem.boot_len (pa_cons (pv 0) pa_nil)) (pe_callB (RK.lenQ (K := K)) (by rfl) T.len PySem.boot_len (pa_cons (pv 1) pa_nil)) (nomark _)) (pss_one (ps_ret pe_bl)) pss_nil)
          (pss_cons (ps_for PassesOwn.never rfl (pi_range1 rfl T.range (pa_cons (pe_callB (RK.lenQ (K := K)) (by rfl) T.len PySem.boot_len (pa_cons (pv 1) pa_nil)) pa_nil)) (pg_name (i := 2) scAl.nd rfl (Or.inl rfl))
            (pss_one (ps_if (pt_not (pt_val (pe_call Ca.G hr1 (by rfl) Ca.g Ca.kp Ca.b .nil pass0 (pa_cons (pe_ix (RK.ixQ (K := K)) (pv 0) (pv 2) (fun _ _ => rfl)) (pa_cons (pe_ix (RK.ixQ (K := K)) (pv 1) (pv 2) (fun _ _ => rfl)) pa_nil))))) (pss_one (ps_ret pe_bl)) pss_nil)))
          (pss_one (ps_ret pe_bl))))))))), ?_⟩
        refine sif ⟨_, rfl, rfl, _, rfl, iteF ?_⟩
        dsimp only [tNext]
        refine sif ⟨_, rfl, _, _, _, _, false, rfl, .ty "bool", tyL hy, kLb, _, rfl, iteF ?_⟩
        dsimp only [tNext]
        refine sif ⟨_, rfl, _, _, _, _, false, rfl, .ty "int", tyL hy, kLi, _, rfl, iteF ?_⟩
        dsimp only [tNext]
        refine sif ⟨_, rfl, _, _, _, _, false, rfl, .ty "str", tyL hy, kLs, _, rfl, iteF ?_⟩
        dsimp only [tNext]
        refine sif ⟨_, rfl, _, _, _, _, false, rfl, .ty "tuple", tyL hy, kLt, _, rfl, _, _, _, _, false, rfl, .ty "tuple", tyL hx, kLt, rfl, _, rfl, iteF ?_⟩
        refine ⟨_, rfl, _, _, _, _, true, rfl, .ty "list", tyL hy, kL, _, rfl, _, _, _, _, true, rfl, .ty "list", tyL hx, kL, rfl, _, rfl, iteF ?_⟩
        dsimp only [tNext]
        refine sif ⟨_, rfl, a, xs, rfl, .inl hx, _, rfl, b, ys, rfl, .inl hy, rfl, _, rfl, ?_⟩
        rw [len, show (!decide (V.int (ys.length : Nat) = V.int (ys.length : Nat))) = false by simp]
        refine iteF ?_
        dsimp only [tNext]
        refine ⟨_, rfl, b, ys, rfl, .inl hy, _, rfl, ?_, ?_, for_range (lo := 0) (n := ((ys.length : Nat) : Int).toNat) (fun i σ H' => H' = H ∧ ∃ v2, σ = [some (.ref a), some (.ref b), v2]) ⟨rfl, none, rfl⟩ ?_ ?_⟩
        · omega
        · omega
        · rintro i σ H' hi ⟨rfl, v2, rfl⟩
          have li : i < xs.length := by have hi : i < ys.length := hi; omega
          obtain ⟨x, y, ex, ey, al⟩ := pw_both pw li
          have z0 : (0 : Int) + ((i : Nat) : Int) = ((i : Nat) : Int) := by omega
          refine gn ?_
          refine ⟨_, rfl, _, rfl, .inl ⟨a, xs, _, x, rfl, rfl, hx, by rw [z0]; exact atI_nat ex, _, rfl, _, rfl, .inl ⟨b, ys, _, y, rfl, rfl, hy, by rw [z0]; exact atI_nat ey, x, y, rfl, al, _, rfl, iteF ⟨rfl, _, rfl⟩⟩⟩⟩
        · rintro σ H' ⟨rfl, v2, rfl⟩
          exact k
end
end GS

set_option linter.all false
set_option maxHeartbeats 4000000
namespace BTR
open PySem PySem.Spec PyProof.Rows L2 HT
variable {X : Cx}
/-- a tuple display, its object known to carry no dict -/
def tTupB (t : TA) : TE := fun σ H Q => t σ H fun xs H1 => xs.length ≤ sizeLine ∧ ∀ (p : Addr) (o : Obj), H1 p = none → o.cls = .type "tuple" → o.dict = none → Q (.ref p) (upd H1 p (.frz o (.tup xs)))
theorem pe_tupB {es : List Expr} {t : TA} {x1 : Nat} {pos : Pos} (h : PA X es t) : PE X (.Tuple es x1 pos) (tTupB t) := by
  refine ⟨fun pins s σ H Q I hq => ?_⟩
  refine wpAny_Tuple_spliced (thn (h.run pos pins s σ H _ I hq) fun us s1 ⟨xs, H1, I1, r, z, q⟩ => ⟨by rw [← r.length]; exact z, ?_⟩)
  have hf : H1 s1.heap.objs.size = none := I1.hok.fresh (Nat.le_refl _)
  have hg := Heap.get?_push_size s1.heap (o := { cls := .type "tuple", data := .seq us.toArray }) rfl
  refine ⟨.ref s1.heap.objs.size, upd H1 s1.heap.objs.size (.frz _ (.tup xs)), I1.laid (t' := s1.toks) (fun b u e => Heap.get?_push_of_some _ e) (Nat.le_refl _) ⟨hg, z, us, r, ⟨_, hg, rfl, _, rfl⟩⟩, rfl, q _ _ hf rfl rfl⟩
def rSlB (K : PySem.W.Frag) : V → Option Int → Option Int → Hp → VK → Prop := fun x lo hi H Q => ∃ a xs, x = .ref a ∧ SqT K H a xs ∧
  (HT.sIx xs.length 0 lo = 0 ∧ HT.sIx xs.length xs.length hi = xs.length → Q (.ref a) H) ∧ (¬ (HT.sIx xs.length 0 lo = 0 ∧ HT.sIx xs.length xs.length hi = xs.length) → ∀ (p : Addr) (o : Obj), H p = none → o.cls = .type "tuple" → o.dict = none → Q (.ref p) (upd H p (.frz o (.tup (cutV xs lo hi)))))
theorem sl_tupB : SlR X (rSlB X.K) := by
  intro pins s σ H x v vl vu lo hi sl Q I rx hs pl pu h
  obtain ⟨a, xs, rfl, hx, q1, q2⟩ := h
  cases rx
  obtain ⟨its, r, ht, hz⟩ := I.tuple hx
  have hlen : its.toArray.size = xs.length := by rw [List.size_toArray]; exact r.length.symm
  by_cases hw : HT.sIx xs.length 0 lo = 0 ∧ HT.sIx xs.length xs.length hi = xs.length
  · refine ⟨"tuple", _, PyProof.Rows.slot_tuple_getitem.lookup, ht.typeIs, ?_⟩
    exact getItem_tuple_whole ht hs pl pu (by rw [hlen]; exact hw) ⟨.ref a, H, I, rfl, q1 hw⟩
  · refine ⟨"tuple", _, PyProof.Rows.slot_tuple_getitem.lookup, ht.typeIs, ?_⟩
    refine HT.getItem_tuple_cut ht hs pl pu (by rw [hlen]; exact hw) ?_ (by rw [hlen]; exact hz)
    rw [hlen]
    refine ⟨.ref s.heap.objs.size, _, I.laid (t' := s.toks) (o := .frz _ (.tup (cutV xs lo hi))) (fun b ob q => Heap.get?_push_of_some _ q) (Nat.le_refl _) ⟨Heap.get?_push_size _ rfl, Nat.le_trans (cutV_length xs lo hi) hz, _, (r.drop (HT.sIx xs.length 0 lo)).take (HT.sIx xs.length xs.length hi - HT.sIx xs.length 0 lo), IsTup.new _ _⟩, rfl, q2 hw _ _ (I.hok.fresh (Nat.le_refl _)) rfl rfl⟩
theorem slB {K : PySem.W.Frag} (h : X.K = K := by rfl) : SlR X (rSlB K) := by subst h; exact sl_tupB
end BTR

set_option linter.all false
set_option maxHeartbeats 4000000
namespace NE
open PySem PySem.Spec PyProof.Rows L2 HT
variable {X : Cx}
/-- xs != [] -/
def rNe0 (K : PySem.W.Frag) : R2 := fun x y H Q => ∃ a b xs, x = .ref a ∧ y = .ref b ∧ SqL K H a xs ∧ H b = some (.lst []) ∧ Q (.bl (!xs.isEmpty)) H
theorem op_ne0 {K : PySem.W.Frag} (hu : X.A.units + 2 < cLine) (hK : X.K = K := by rfl) : OpR X (compareOp .NotEq) (rNe0 K) := by
  subst hK
  intro pins s σ H x y v u Q I rx ry h
  obtain ⟨a, b, xs, rfl, rfl, ha, hb, q⟩ := h
  obtain rfl : v = Value.ref a := rx
  obtain rfl : u = Value.ref b := ry
  obtain ⟨its, r, hl, _⟩ := I.list ha
  obtain ⟨its2, r2, hl2, _⟩ := I.list (SqL.of hb)
  cases r2
  cases xs with
  | nil =>
    cases r
    exact (SeqAt.RcNeAt.lists hl.isList hl2.isList rfl (by omega) (e := fun _ => true) (fun j h1 => absurd h1 (by simp))) X.prog X.w _ _ ⟨.bl false, H, I, rfl, q⟩
  | cons x xs =>
    cases r
    exact (SeqAt.RcNeAt.lists_lengths hl.isList hl2.isList (by simp) (by omega)) X.prog X.w _ _ ⟨.bl true, H, I, rfl, q⟩
end NE

set_option linter.all false
set_option maxRecDepth 100000
set_option maxHeartbeats 4000000
namespace NE
open PySem PySem.Spec PyProof.Rows L2 HT
variable {X : Cx}
/-- t != () -/
def rNeT (K : PySem.W.Frag) : R2 := fun x y H Q => ∃ a b xs, x = .ref a ∧ y = .ref b ∧ SqT K H a xs ∧ SqT K H b [] ∧ Q (.bl (!xs.isEmpty)) H
theorem op_neT {K : PySem.W.Frag} (hu : X.A.units + 2 < cLine) (hK : X.K = K := by rfl) : OpR X (compareOp .NotEq) (rNeT K) := by
  subst hK
  intro pins s σ H x y v u Q I rx ry h
  obtain ⟨a, b, xs, rfl, rfl, ha, hb, q⟩ := h
  obtain rfl : v = Value.ref a := rx
  obtain rfl : u = Value.ref b := ry
  obtain ⟨its, r, hl, _⟩ := I.tuple ha
  obtain ⟨its2, r2, hl2, _⟩ := I.tuple hb
  cases r2
  have z : (!((List.range (min its.toArray.size ([] : List Value).toArray.size)).all (fun _ => true) && its.toArray.size == ([] : List Value).toArray.size)) = !xs.isEmpty := by
    cases r with
    | nil => rfl
    | cons _ _ => simp
  refine (SeqAt.RcNeAt.tuples hl hl2 (by omega) (e := fun _ => true) (fun j h1 h2 => absurd h2 (by simp))) X.prog X.w _ _ ?_
  rw [z]
  exact ⟨.bl (!xs.isEmpty), H, I, rfl, q⟩
end NE

set_option linter.all false
set_option maxHeartbeats 4000000
namespace TH
open PySem PySem.Spec PyProof.Rows L2
section
variable {X : Cx}
/-- X(), X an own exception class without __init__ -/
theorem pmk_own0 {C : Addr} {bmB : List Value} {B newId initId : String} {x : Str} {p pos : Pos} (F : ExcBaseFacts B newId initId bmB) (q : PySem.W.excIn X.K C bmB newId = true) (gC : X.mg x = some (.ref C)) (kC : PySem.W.keepIn X.K (.ref C) = true) (r : Raises X (.ref C)) (hg : Gl X x)
    (hdb : (x == ("__debug__" : Str)) = false := by decide) : PMk X (.Call (.Name x p) [] [] pos) (fun _ H Q => Q (.ref C) none H) := by
  intro pins s σ H Q I h
  refine wpAny_Call_Name_kw (ld_glob I hg gC ?_ hdb)
  refine PySem.W.callWith_K0 I.kIn kC ?_
  show wpAny _ _ (call (.ref C) []) _ _ _
  obtain ⟨bm, N, nm, qn, bs, hdct, sn, sub, ab, col, dd, k0, k1, k2, k3, k5, mN, hC, hN, hni, T⟩ := exc_obj I.kIn q
  refine wpAny_call_exc_subT F T hC hN hni (fun h' e hm => ?_) (by show 0 ≤ sizeLine; exact Nat.zero_le _)
  exact mk_of I hm r h (I.hok.gone hm.new)
end
end TH
namespace GS
open PySem L2 HX
/-- what a raising callee hands on -/
theorem passX {CX' : CXT} {P : Program} {w : World} {K : PySem.W.Frag} {mg : Str → Option Value} {base : Heap} {N : List Str} {q : Str} {sc : Scope} {f : Addr} {cd : Value} {A : Around} {outer : List Env} {s : Shared} {H : Hp} {E : XK} :
    Passes (L2.CX P w) (cxOf (L2.CX P w) P w K mg base N q sc f cd A outer s H E) E := passes_call (takes_of rfl rfl rfl rfl) fun _ _ _ _ h => h
/-- an own error's class -/
structure ErrF (K : PySem.W.Frag) (mg : Str → Option Value) (x : Str) (C : Addr) : Prop where
  g : mg x = some (.ref C)
  x : PySem.W.excIn K C [.type "ValueError", .type "Exception", .type "BaseException", .type "object"] "ValueError.__new__" = true
  k : PySem.W.keepIn K (.ref C) = true
  b : PySem.W.subIn K (.ref C) (.type "BaseException") = some true
  t : PySem.W.typeIn K (.ref C) = some (.type "type")
end GS

set_option linter.all false
set_option maxHeartbeats 4000000
namespace GS
open PySem L2 HX
def hasD (ms : List (Str × Int)) (f : Str) (n : Int) : Bool := match ms.find? fun m => decide (m.1 = f) with
  | some m => decide (m.2 ≤ n)
  | none => false
def hasS (d : SD) (z f : Str) (n : Int) : Bool := match tabD d z with
  | some t => hasD t.made f n
  | none => false
theorem valV_mkv (f : Str) : ∀ ms : List (Str × Int), valV (mkv ms) (Sum.inr f) = (ms.find? fun m => decide (m.1 = f)).map fun m => V.int m.2
  | [] => rfl
  | x :: ms => by
    by_cases e : x.1 = f
    · rw [List.find?_cons_of_pos (by simpa using e)]
      exact valV_pos (p := (Sum.inr x.1, V.int x.2)) (by rw [e])
    · rw [List.find?_cons_of_neg (by simpa using e), ← valV_mkv f ms]
      exact valV_neg (p := (Sum.inr x.1, V.int x.2)) (fun z => e (Sum.inr.inj z))
def spTH (K : PySem.W.Frag) (CT CI : Addr) : Sp := fun vs H Q _ => ∃ (tb : Addr) (f : Str) (n : Int) (c : TC), vs = [.ref tb, .str f, .int n] ∧ TAt K CT CI H tb c ∧ Q (.bl (hasD c.made f n)) H
def spSHI (K : PySem.W.Frag) (CS CT CI : Addr) : Sp := fun vs H Q _ => ∃ (st : Addr) (z f : Str) (n : Int) (sc : SC), vs = [.ref st, .str z, .str f, .int n] ∧ SAt K CS CT CI H st sc ∧ Q (.bl (hasS sc.dat z f n)) H
section
variable {P : Program} {w : World} {K : PySem.W.Frag} {mg : Str → Option Value} {base : Heap}
theorem scTH : FnScope ["self", "field", "number"] ["self", "field", "number"] (defScope s_Table_has_index) := ⟨rfl, rfl, rfl, by decide +kernel, rfl, by decide +kernel, by decide +kernel⟩
theorem ok_th {f CT CI : Addr} {fd : FuncData} (F : Fun K "has_index" "Table.has_index" s_Table_has_index f fd) (TT : TxtT K CT) : FnOk P w K mg base CX0 1 f fd ["self", "field", "number"] (spTH K CT CI) := by
  refine F.ok scTH (fun vs H Q E h => ?_) (fun cdv A outer s H vs Q E hr h => ?_)
  · obtain ⟨tb, f, n, c, rfl, _⟩ := h
    rfl
  · obtain ⟨tb, f, n, c, rfl, x, kk⟩ := h
    refine ⟨_, (pss_one (ps_ret (pe_and (pe_cmp (pc_din (hu_of hr) (pv 1) (pe_fld (pv 0) rfl)) rfl) (pe_one (pe_cmpR op_le (pe_dget (hu_of hr) (pe_fld (pv 0) rfl) (pv 1) (fun _ _ => rfl)) (pv 2) (nomark _)))))), ?_⟩
    obtain ⟨dx, ob⟩ := x.ob
    refine ⟨_, rfl, _, rfl, tb, CT, dx, _, _, rfl, ob, TT.cl, TT.n6, lk6 c, c.md, _, rfl, DGet.k (k := Sum.inr f) x.md, _, rfl, ?_⟩
    unfold hasD at kk
    rw [valV_mkv]
    cases e : c.made.find? fun m => decide (m.1 = f) with
    | none =>
      rw [e] at kk
      exact iteF kk
    | some m =>
      rw [e] at kk
      exact iteT ⟨_, rfl, tb, CT, dx, _, _, rfl, ob, TT.cl, TT.n6, lk6 c, _, rfl, c.md, .int m.2, rfl, by
        have g := DGet.k (k := Sum.inr f) x.md
        rw [valV_mkv, e] at g
        exact g, _, rfl, m.2, n, rfl, rfl, kk⟩
theorem scSHI : FnScope ["self", "table", "field", "number"] ["self", "table", "field", "number"] (defScope s_Store_has_index) := ⟨rfl, rfl, rfl, by decide +kernel, rfl, by decide +kernel, by decide +kernel⟩
theorem ok_shi {f CS CT CI f1 : Addr} {fd fd1 : FuncData} (F : Fun K "has_index" "Store.has_index" s_Store_has_index f fd) (TS : TxtS K CS) (TT : TxtT K CT) (Cth : CalM P w K mg base 1 CT "has_index" ["self", "field", "number"] (spTH K CT CI) f1 fd1) : FnOk P w K mg base CX0 2 f fd ["self", "table", "field", "number"] (spSHI K CS CT CI) := by
  refine F.ok scSHI (fun vs H Q E h => ?_) (fun cdv A outer s H vs Q E hr h => ?_)
  · obtain ⟨st, z, f, n, sc, rfl, _⟩ := h
    rfl
  · obtain ⟨st, z, f, n, sc, rfl, x, kk⟩ := h
    have hr1 : Room 1 _ := hr
    have nd : (sc.tabs.map (fun t => t.1)).Nodup := pw_inj x.pd
    obtain ⟨dx, fs, ob, l⟩ := x.ob
    refine ⟨_, (pss_one (ps_ret (pe_and (pe_cmp (pc_din (hu_of hr) (pv 1) (pe_fld (pv 0) rfl)) rfl) (pe_one (pe_meth (pe_dget (hu_of hr) (pe_fld (pv 0) rfl) (pv 1) (fun _ _ => rfl)) TT.cl Cth.mt Cth.G hr1 Cth.b .nil pass0 (pa_cons (pv 2) (pa_cons (pv 3) pa_nil))))))), ?_⟩
    refine ⟨_, rfl, _, rfl, st, CS, dx, fs, _, rfl, ob, TS.cl, TS.n3, l.l3, sc.td, _, rfl, DGet.k (k := Sum.inr z) x.td, _, rfl, ?_⟩
    unfold hasS at kk
    rcases tab_find nd z with ⟨u, hu, rfl, et, ev⟩ | ⟨et, ev⟩
    · rw [ev]
      rw [et] at kk
      have tu := x.tv u hu
      have dg : DGet H sc.td (.str u.1) (some (.ref u.2.1)) := ev ▸ DGet.k (k := Sum.inr u.1) x.td
      obtain ⟨dxu, obu⟩ := tu.ob
      exact iteT ⟨_, rfl, st, CS, dx, fs, _, rfl, ob, TS.cl, TS.n3, l.l3, _, rfl, sc.td, .ref u.2.1, rfl, dg, u.2.1, dxu, _, rfl, obu, lk_no _ (by decide +kernel), _, rfl, _, rfl, u.2.1, f, n, u.2.2, rfl, tu, kk⟩
    · rw [ev]
      rw [et] at kk
      exact iteF kk
end
end GS

set_option linter.all false
set_option maxHeartbeats 4000000
namespace GS
open PySem L2 HX LKN
def pairsT (ts : List Tbn) : List (List L2.Key) := ts.flatMap fun t => t.2.2.il.map fun i => [Sum.inr t.1, Sum.inr i.1]
def hasP (d : SD) (n : Int) : List L2.Key → Bool
  | [Sum.inr z, Sum.inr f] => hasS d z f n
  | _ => false
def spIxd (K : PySem.W.Frag) (CS CT CI : Addr) : Sp := fun vs H Q _ => ∃ (st : Addr) (n : Int) (sc : SC) (m : Nat), vs = [.ref st, .int n] ∧ SAt K CS CT CI H st sc ∧ sc.Ok m ∧ sc.first ≤ n ∧ n ≤ sc.newest ∧
  ∀ (bs bs0 : List SD.KAd) p H', Same H H' → H p = none → H' p = some (.lst (bs.map fun b => V.ref b.1)) → (∀ b ∈ bs, H' b.1 = some (.tup (b.2.map kV))) → bs = bs0.mergeSort (PySem.W.dataLe false SD.encK) → bs0.map (fun b => b.2) = (pairsT sc.tabs).filter (hasP sc.dat n) → Q (.ref p) H'
section
variable {P : Program} {w : World} {K : PySem.W.Frag} {mg : Str → Option Value} {base : Heap}
theorem scId : FnScope ["self", "number", "pairs", "name", "table", "field", "pair"] ["self", "number"] (defScope s_Store_indexed) := ⟨rfl, rfl, rfl, by decide +kernel, rfl, by decide +kernel, by decide +kernel⟩
theorem ok_ixd {f CS CT CI f1 f2 : Addr} {fd fd1 fd2 : FuncData} (F : Fun K "indexed" "Store.indexed" s_Store_indexed f fd) (T : Txt mg) (TS : TxtS K CS) (TT : TxtT K CT) (Cck : CalM P w K mg base 2 CS "_check" ["self", "number"] (spCk K CS CT CI) f1 fd1) (Chi : CalM P w K mg base 2 CS "has_index" ["self", "table", "field", "number"] (spSHI K CS CT CI) f2 fd2) : FnOk P w K mg base CX0 3 f fd ["self", "number"] (spIxd K CS CT CI) := by
  refine F.ok scId (fun vs H Q E h => ?_) (fun cdv A outer s H vs Q E hr h => ?_)
  · obtain ⟨st, n, sc, m, rfl, _⟩ := h
    rfl
  · obtain ⟨st, n, sc, m, rfl, x, ok, n0, n1, kk⟩ := h
    have hr2 : Room 2 _ := hr
    have big : (100000 : Nat) < sizeLine := by decide
    have hu3 := Nat.lt_of_le_of_lt (Nat.add_le_add_left (show 3 ≤ 66 by decide) _) (room66 hr)
    have nd : (sc.tabs.map (fun t => t.1)).Nodup := pw_inj x.pd
    obtain ⟨dx, fs, ob, l⟩ := x.ob
    have lk : fs.lookup ("_check" : Str) = none := l.no _ (by decide +kernel) (by decide +kernel) (by decide +kernel) (by decide +kernel)
    obtain ⟨ds, eds⟩ : ∃ ds : Lk, ds = (sc.td, HO.dK (skv sc.tabs)) :: sc.tabs.map fun t => (t.2.2.ix, HO.dK (ikv t.2.2.il)) := ⟨_, rfl⟩
    refine ⟨_, (pss_cons (ps_expr (pe_meth (pv 0) TS.cl Cck.mt Cck.G hr2 Cck.b .nil pass0 (pa_cons (pv 1) pa_nil)))
      (pss_cons (ps_lockN (ps_setLc2 (i := 2) (own := [("name", 3), ("table", 4), ("field", 5)]) (vs1 := [5]) rfl scId.nd rfl rfl (sw_true rfl rfl rfl (by decide +kernel)) (pi_items (pe_fld (pv 0) rfl)) (blkOk_by (N := ["self", "number", "pairs", "name", "table", "field", "pair"]) (sc := defScope s_Store_indexed) (by decide +kernel)) (by decide) (fun _ _ _ _ _ => (RK.pgTup (K := K) (n := 2) rfl (pgs_cons (pg_name (i := 3) scId.nd rfl (Or.inl rfl)) (pgs_cons (pg_name (i := 4) scId.nd rfl (Or.inl rfl)) pgs_nil)))) (fun _ _ _ _ _ => pts_nil) (fun _ _ _ _ _ => (pi_keys (fldK (K := K) (pv 4)))) (fun _ _ _ _ _ => (pg_name (i := 5) scId.nd rfl (Or.inl rfl))) (fun _ _ _ _ _ => pts_nil) (fun _ _ _ _ _ => (pe_tup (pa_cons (pv 3) (pa_cons (pv 5) pa_nil))))) ds.length)
      (pss_one (ps_ret (pe_callB (SD.cr_sortedLT rfl hu3) (by rfl) T.sorted (by decide +kernel) (pa_cons (pe_lc (own := [("pair", 6)]) rfl scId.nd (RK.piL (K := K) (pv 2)) (blkOk_by (N := ["self", "number", "pairs", "name", "table", "field", "pair"]) (sc := defScope s_Store_indexed) (by decide +kernel)) (fun _ _ _ _ _ => (pg_name (i := 6) scId.nd rfl (Or.inl rfl))) (fun _ _ _ _ _ => (pts_one (pt_val (pe_meth (pv 0) TS.cl Chi.mt Chi.G hr2 Chi.b .nil pass0 (pa_cons (pe_ix (RK.ixT (K := K)) (pv 6) pe_int (fun _ _ => rfl)) (pa_cons (pe_ix (RK.ixT (K := K)) (pv 6) pe_int (fun _ _ => rfl)) (pa_cons (pv 1) pa_nil))))))) (fun _ _ _ _ _ => (pv 6))) pa_nil)))))), ?_⟩
    refine sq1 ⟨_, rfl, st, dx, fs, rfl, ob, lk, _, rfl, st, n, sc, rfl, x, n0, n1, ?_⟩
    have mix : ∀ u : Tbn, u.2.2.ix ∈ tfp u := fun u => by simp [tfp, TC.fp]
    have emap : ds.map (fun d => d.1) = sc.td :: sc.tabs.map fun t => t.2.2.ix := by rw [eds, List.map_cons, List.map_map]; rfl
    have dnd : (ds.map fun d => d.1).Nodup := by
      rw [emap]
      refine List.nodup_cons.mpr ⟨fun h => ?_, List.pairwise_map.mpr (x.pd.imp fun {a b} h e => h.2 _ (mix a) (by rw [e]; exact mix b))⟩
      obtain ⟨u, hu, e⟩ := List.mem_map.mp h
      exact (x.sp u hu).2.1 (by rw [← e]; exact mix u)
    have dmu : ∀ d ∈ ds, H d.1 = some d.2 ∧ Mut (some d.2) := fun d hd => by
      rw [eds] at hd
      rcases List.mem_cons.mp hd with rfl | hd
      · exact ⟨x.td, trivial⟩
      · obtain ⟨u, hu, rfl⟩ := List.mem_map.mp hd
        exact ⟨(x.tv u hu).ix, trivial⟩
    refine sLockN_it ds dnd dmu fun H1 D' fz kD => ?_
    obtain ⟨od, f1⟩ := fz.inn (sc.td, HO.dK (skv sc.tabs)) (by rw [eds]; exact List.mem_cons_self ..)
    have out : ∀ b, b ≠ sc.td → (∀ u ∈ sc.tabs, b ≠ u.2.2.ix) → H1 b = H b := fun b h1 h2 => fz.out b (by
      rw [emap, List.mem_cons, not_or]
      refine ⟨h1, fun h => ?_⟩
      obtain ⟨u, hu, e⟩ := List.mem_map.mp h
      exact h2 u hu e.symm)
    have ob1 : H1 st = some (.ins CS dx fs) := by rw [out st x.s1.1 fun u hu e => (x.sp u hu).1 (by rw [e]; exact mix u)]; exact ob
    refine ⟨_, rfl, st, CS, dx, fs, _, rfl, ob1, TS.cl, TS.n3, l.l3, sc.td, od, _, rfl, f1, fun D hD => ?_⟩
    have lts : (skv sc.tabs).length = sc.tabs.length := List.length_map ..
    have lil : ∀ u ∈ sc.tabs, u.2.2.il.length ≤ 4 := fun u hu => by
      have z := nodup_le (u.2.2.il.map (fun x => x.1)) u.2.2.fields (ok.ok u hu).ind (fun y my => by
        obtain ⟨i, hi, rfl⟩ := List.mem_map.mp my
        exact (ok.ok u hu).inf i hi)
      rw [List.length_map] at z
      exact Nat.le_trans z (ok.td u hu).l4
    have lpairs : ∀ ts : List Tbn, (∀ t ∈ ts, t ∈ sc.tabs) → (pairsT ts).length ≤ 4 * ts.length := fun ts h => by
      induction ts with
      | nil => exact Nat.le_refl _
      | cons t ts ih =>
        have e : pairsT (t :: ts) = (t.2.2.il.map fun i => [Sum.inr t.1, Sum.inr i.1]) ++ pairsT ts := rfl
        rw [e, List.length_append, List.length_cons, List.length_map]
        have a := lil t (h t (List.mem_cons_self ..))
        have b := ih fun u m => h u (List.mem_cons_of_mem _ m)
        omega
    have f8 := ok.few
    have tk_ : ∀ {A B : Hp}, (∀ b o, b ≠ D → A b = some o → B b = some o) → A D = none → TK A B := fun k hd a u hu e => k a u (ne_of_none e hd) e
    refine lc2_out (walk_items (kvs := skv sc.tabs)) (fun i H' => (∀ b o, b ≠ D → H1 b = some o → H' b = some o) ∧ ∃ bs : List SD.KAd, H' D = some (.lst (bs.map fun b => V.ref b.1)) ∧ (∀ b ∈ bs, H' b.1 = some (.tup (b.2.map kV))) ∧ bs.map (fun b => b.2) = pairsT (sc.tabs.take i))
      ⟨fun b o nb e => by rw [upd_ne nb]; exact e, [], upd_same, fun b h => (by cases h), rfl⟩ (fun i H' _ q => q.1 _ _ (ne_of_none f1 hD) f1) ?_ ?_
    · rintro i y H' H1' hi ⟨kp, bs, hd, hb, eb⟩ ⟨T0, k0, v0, rfl, hT, rfl, e1, e2⟩
      have hi2 : i < sc.tabs.length := lts ▸ hi
      have et : sc.tabs[i]? = some sc.tabs[i] := List.getElem?_eq_getElem hi2
      generalize eu : sc.tabs[i] = u at et
      have es : (skv sc.tabs)[i]? = some (Sum.inr u.1, .ref u.2.1) := by unfold skv; rw [List.getElem?_map, et]; rfl
      dsimp only at e1 e2
      rw [es] at e1 e2
      have e1 : V.str u.1 = k0 := Option.some.inj e1
      have e2 : V.ref u.2.1 = v0 := Option.some.inj e2
      subst e1 e2
      have hu : u ∈ sc.tabs := List.mem_of_getElem? et
      have sT := same_new (o := .tup [.str u.1, .ref u.2.1]) hT
      have hT1 : (upd H' T0 (.tup [.str u.1, .ref u.2.1])) T0 = some (.tup [.str u.1, .ref u.2.1]) := upd_same
      have hd1 := sT _ _ hd
      have kp1 : ∀ b o, b ≠ D → H1 b = some o → (upd H' T0 (.tup [.str u.1, .ref u.2.1])) b = some o := fun b o h1 e => sT _ _ (kp b o h1 e)
      have hb1 : ∀ b ∈ bs, (upd H' T0 (.tup [.str u.1, .ref u.2.1])) b.1 = some (.tup (b.2.map kV)) := fun b m => sT _ _ (hb b m)
      generalize upd H' T0 (.tup [.str u.1, .ref u.2.1]) = H2 at hT1 hd1 kp1 hb1
      have tu := x.tv u hu
      obtain ⟨dxu, obu⟩ := tu.ob
      have nd1 := (ne_of_none f1 hD)
      have tbu : u.2.1 ∈ tfp u := by simp [tfp, TC.fp]
      have obu1 : H1 u.2.1 = some (.ins CT dxu (tfl u.2.2)) := by
        rw [out u.2.1 (fun e => (x.sp u hu).2.1 (by rw [← e]; exact tbu)) fun v hv e => ?_]; exact obu
        have e3 := (x.tv v hv).ix
        rw [← e, obu] at e3; cases e3
      obtain ⟨od2, f2⟩ := fz.inn (u.2.2.ix, HO.dK (ikv u.2.2.il)) (by rw [eds]; exact List.mem_cons_of_mem _ (List.mem_map.mpr ⟨u, hu, rfl⟩))
      have lik : (ikv u.2.2.il).length = u.2.2.il.length := List.length_map ..
      have tk1 : sc.tabs.take (i + 1) = sc.tabs.take i ++ [u] := by rw [List.take_add_one, et]; rfl
      have ep1 : pairsT (sc.tabs.take (i + 1)) = pairsT (sc.tabs.take i) ++ u.2.2.il.map fun i => [Sum.inr u.1, Sum.inr i.1] := by
        unfold pairsT
        rw [tk1, List.flatMap_append]
        simp
      have lb : bs.length ≤ 40 := by
        have a := congrArg List.length eb
        rw [List.length_map] at a
        have b := lpairs (sc.tabs.take i) fun t m => List.mem_of_mem_take m
        rw [List.length_take] at b
        omega
      have few4 := lil u hu
      refine ⟨T0, _, rfl, SqT.of hT1, rfl, _, _, rfl, gn ⟨_, _, rfl, gn ⟨rfl, rfl, _, rfl, u.2.1, CT, dxu, _, _, rfl, kp1 _ _ (ne_of_none obu1 hD) obu1, TT.cl, TT.n5, lk5 u.2.2, u.2.2.ix, od2, rfl, .inl ⟨_, kp1 _ _ (ne_of_none f2 hD) f2, ?_⟩⟩⟩⟩
      refine lc2_in (walk_keys (kvs := ikv u.2.2.il)) (fun j H' => (∀ b o, b ≠ D → H1 b = some o → H' b = some o) ∧ ∃ bs' : List SD.KAd, H' D = some (.lst (bs'.map fun b => V.ref b.1)) ∧ (∀ b ∈ bs', H' b.1 = some (.tup (b.2.map kV))) ∧ bs'.map (fun b => b.2) = pairsT (sc.tabs.take i) ++ (u.2.2.il.take j).map fun i => [Sum.inr u.1, Sum.inr i.1])
        ⟨kp1, bs, hd1, hb1, by rw [eb]; simp⟩ (fun j H' _ q => q.1 _ _ (ne_of_none f2 hD) f2) ?_ ?_
      · rintro j y H0 H3 hj ⟨kp2, bs2, hd2, hb2, eb2⟩ ⟨rfl, k0, v0, hx, rfl⟩
        have hj2 : j < u.2.2.il.length := lik ▸ hj
        have ei : u.2.2.il[j]? = some u.2.2.il[j] := List.getElem?_eq_getElem hj2
        generalize u.2.2.il[j] = ii at ei
        have ek : (ikv u.2.2.il)[j]? = some (Sum.inr ii.1, V.ref ii.2.1.1) := by unfold ikv; rw [List.getElem?_map, ei]; rfl
        rw [ek] at hx
        obtain ⟨rfl, rfl⟩ := Prod.mk.inj (Option.some.inj hx)
        have tk2 : u.2.2.il.take (j + 1) = u.2.2.il.take j ++ [ii] := by rw [List.take_add_one, ei]; rfl
        refine ⟨rfl, _, rfl, _, rfl, by show 2 ≤ sizeLine; decide, fun p hp => ?_⟩
        have sp := same_new (o := .tup [.str u.1, .str ii.1]) hp
        have p1 : (upd H3 p (.tup [.str u.1, .str ii.1])) p = some (.tup ([Sum.inr u.1, Sum.inr ii.1].map kV)) := upd_same
        have nD : p ≠ D := Ne.symm (ne_of_none hd2 hp)
        refine ⟨_, sp _ _ hd2, ?_, fun b o nb e => by rw [upd_ne nb]; exact sp _ _ (kp2 b o nb e), bs2 ++ [(p, [Sum.inr u.1, Sum.inr ii.1])], by rw [upd_same, List.map_append]; rfl, fun b m => ?_, by rw [List.map_append, eb2, tk2, List.map_append, List.append_assoc]; rfl⟩
        · have a := congrArg List.length eb2
          rw [List.length_map, List.length_append, List.length_map, List.length_take] at a
          have b := lpairs (sc.tabs.take i) fun t m => List.mem_of_mem_take m
          rw [List.length_take] at b
          rw [List.length_map]
          exact Nat.lt_of_le_of_lt (show bs2.length ≤ 100000 by omega) big
        · rcases List.mem_append.mp m with m | m
          · have ht := hb2 b m
            rw [upd_ne (ne_of ht hd2 (by intro z; cases z))]
            exact sp _ _ ht
          · rw [List.mem_singleton.mp m, upd_ne nD]; exact p1
      · rintro H3 ⟨kp2, bs2, hd2, hb2, eb2⟩
        rw [lik, List.take_length, ← ep1] at eb2
        exact ⟨kp2, bs2, hd2, hb2, eb2⟩
    · rintro H2 ⟨kp, bs, hd, hb, eb⟩
      rw [lts, List.take_length] at eb
      have dD : ∀ d ∈ ds, d.1 ≠ D := fun d hd2 e => by
        obtain ⟨o, h⟩ := fz.inn d hd2
        rw [e, hD] at h; cases h
      refine gn (kD _ _ (fun d hd2 => ?_) fun H3 th => ?_)
      · obtain ⟨o, h⟩ := fz.inn d hd2
        rw [h]; exact kp _ _ (dD d hd2) h
      have s3 : Same H H3 := fun b o e => by
        by_cases mb : b ∈ ds.map fun d => d.1
        · obtain ⟨d, hd2, rfl⟩ := List.mem_map.mp mb
          rw [th.inn d hd2, ← (dmu d hd2).1]; exact e
        · have e1 : H1 b = some o := by rw [fz.out b mb]; exact e
          rw [th.out b mb]
          exact kp b o (ne_of_none e1 hD) e1
      have hD0 : H D = none := by
        cases e : H D with
        | none => rfl
        | some o =>
          have mb : D ∉ ds.map fun d => d.1 := fun m => by
            obtain ⟨d, hd2, e2⟩ := List.mem_map.mp m
            exact dD d hd2 e2
          rw [← fz.out D mb, hD] at e; cases e
      have d3 : H3 D = some (.lst (bs.map fun b => V.ref b.1)) := by
        rw [th.out D fun m => ?_]; exact hd
        obtain ⟨d, hd2, e2⟩ := List.mem_map.mp m
        exact dD d hd2 e2
      have b3 : ∀ b ∈ bs, H3 b.1 = some (.tup (b.2.map kV)) := fun b m => by
        rw [th.out b.1 fun m2 => ?_]; exact hb b m
        obtain ⟨d, hd2, e2⟩ := List.mem_map.mp m2
        obtain ⟨o, h⟩ := fz.inn d hd2
        have h := kp _ _ (dD d hd2) h
        rw [e2, hb b m] at h; cases h
      have lb : bs.length ≤ 40 := by
        have a := congrArg List.length eb
        rw [List.length_map] at a
        have b := lpairs sc.tabs fun t m => m
        omega
      clear kp hd hb hD kD th fz dmu dnd emap out ob1 f1 tk_
      refine ⟨_, rfl, D, rfl, ⟨_, SqL.of d3⟩, fun D2 hD2 => ?_⟩
      refine lc_it (walk_list (xs := bs.map fun b => V.ref b.1)) (fun i H' => (∀ b o, b ≠ D2 → H3 b = some o → H' b = some o) ∧ H' D2 = some (.lst (((bs.take i).filter fun b => hasP sc.dat n b.2).map fun b => V.ref b.1)))
        ⟨fun b o nb e => by rw [upd_ne nb]; exact e, upd_same⟩ (fun i H' _ q => SqL.of (q.1 _ _ (ne_of_none d3 hD2) d3)) ?_ ?_
      · rintro i y H0 H' hi ⟨kp, hd⟩ ⟨rfl, ey⟩
        rw [List.getElem?_map] at ey
        cases ez : bs[i]? with
        | none => rw [ez] at ey; cases ey
        | some b =>
          rw [ez] at ey
          obtain rfl := Option.some.inj ey
          have mb := List.mem_of_getElem? ez
          have tk1 : bs.take (i + 1) = bs.take i ++ [b] := by rw [List.take_add_one, ez]; rfl
          have sH : Same H H' := fun a o e => kp a o (ne_of_none (s3 _ _ e) hD2) (s3 _ _ e)
          have x' := x.same sH
          obtain ⟨dx', fs', ob', l'⟩ := x'.ob
          obtain ⟨z, f, eb2⟩ : ∃ z f, b.2 = [Sum.inr z, Sum.inr f] := by
            have m : b.2 ∈ pairsT sc.tabs := by rw [← eb]; exact List.mem_map_of_mem (f := fun b : SD.KAd => b.2) mb
            obtain ⟨u, _, h⟩ := List.mem_flatMap.mp m
            obtain ⟨ii, _, e⟩ := List.mem_map.mp h
            exact ⟨_, _, e.symm⟩
          have hb := b3 b mb
          have hb' := kp _ _ (ne_of_none hb hD2) hb
          rw [eb2] at hb'
          have hb' : H' b.1 = some (.tup [.str z, .str f]) := hb'
          have hp : hasP sc.dat n b.2 = hasS sc.dat z f n := by rw [eb2]; rfl
          refine ⟨rfl, _, rfl, st, dx', fs', rfl, ob', l'.no _ (by decide +kernel) (by decide +kernel) (by decide +kernel) (by decide +kernel), _, rfl, b.1, _, 0, _, rfl, rfl, SqT.of hb', at0, _, rfl, b.1, _, 1, _, rfl, rfl, SqT.of hb', rfl, _, rfl, st, z, f, n, sc, rfl, x', ?_⟩
          cases c : hasS sc.dat z f n with
          | true =>
            have ef : ([b] : List SD.KAd).filter (fun b => hasP sc.dat n b.2) = [b] := by rw [List.filter_cons, if_pos (by rw [hp, c])]; rfl
            refine ⟨_, rfl, iteT ⟨_, rfl, _, hd, ?_, fun a o nb e => by rw [upd_ne nb]; exact kp a o nb e, ?_⟩⟩
            · rw [List.length_map]
              refine Nat.lt_of_le_of_lt (Nat.le_trans (List.length_filter_le _ _) ?_) big
              rw [List.length_take]; omega
            · rw [upd_same, tk1, List.filter_append, ef, List.map_append]; rfl
          | false =>
            have ef : ([b] : List SD.KAd).filter (fun b => hasP sc.dat n b.2) = [] := by rw [List.filter_cons, if_neg (by rw [hp, c]; exact Bool.false_ne_true)]; rfl
            refine ⟨_, rfl, iteF ⟨kp, ?_⟩⟩
            rw [tk1, List.filter_append, ef, List.append_nil]; exact hd
      · rintro H4 ⟨kp, hd⟩
        rw [List.length_map, List.take_length] at hd
        have s34 : ∀ b o, H3 b = some o → H4 b = some o := fun b o e => kp b o (ne_of_none e hD2) e
        have sub : ∀ b ∈ bs.filter fun b => hasP sc.dat n b.2, b ∈ bs := fun b m => (List.mem_filter.mp m).1
        have shp : ∀ b ∈ bs, ∃ z f, b.2 = [Sum.inr z, Sum.inr f] := fun b mb => by
          have m : b.2 ∈ pairsT sc.tabs := by rw [← eb]; exact List.mem_map_of_mem (f := fun b : SD.KAd => b.2) mb
          obtain ⟨u, _, h⟩ := List.mem_flatMap.mp m
          obtain ⟨ii, _, e⟩ := List.mem_map.mp h
          exact ⟨_, _, e.symm⟩
        refine ⟨D2, bs.filter fun b => hasP sc.dat n b.2, rfl, SqL.of hd, fun b m => s34 _ _ (b3 b (sub b m)), fun b m => ?_, fun b m c m2 => ?_, Nat.le_trans (List.length_filter_le _ _) (by omega), fun p hp => ?_⟩
        · obtain ⟨z, f, e⟩ := shp b (sub b m)
          rw [e]; exact fun h => by cases h
        · obtain ⟨z, f, e⟩ := shp b (sub b m)
          obtain ⟨z', f', e'⟩ := shp c (sub c m2)
          rw [e, e']; rfl
        · have s4 := same_new (o := .lst (((bs.filter fun b => hasP sc.dat n b.2).mergeSort (PySem.W.dataLe false SD.encK)).map fun q => V.ref q.1)) hp
          have pn : H p = none := by
            cases e : H p with
            | none => rfl
            | some o => rw [s34 _ _ (s3 _ _ e)] at hp; cases hp
          refine kk _ (bs.filter fun b => hasP sc.dat n b.2) p _ (fun b o e => s4 _ _ (s34 _ _ (s3 _ _ e))) pn upd_same (fun b m => ?_) rfl ?_
          · have m2 := (List.mergeSort_perm _ _).mem_iff.mp m
            exact s4 _ _ (s34 _ _ (b3 b (sub b m2)))
          · rw [← eb, List.filter_map]; rfl
end
end GS

set_option linter.all false
set_option maxHeartbeats 4000000
namespace GS
open PySem L2 HX
abbrev Zr := Str × List Row
/-- a table's name and its rows -/
def ZrAt (H : Hp) (x : Zr) (v : V) : Prop := ∃ q r us, v = .ref q ∧ H q = some (.tup [.str x.1, .ref r]) ∧ H r = some (.tup us) ∧ Paired (fun r v => RowAt H (some r) v) x.2 us
theorem ZrAt.keep {H H' : Hp} (t : TK H H') {x : Zr} {v : V} (h : ZrAt H x v) : ZrAt H' x v := by
  obtain ⟨q, r, us, e, h1, h2, h3⟩ := h
  exact ⟨q, r, us, e, t.tup h1, t.tup h2, pw_imp (fun _ _ h => RowAt.keep t h) h3⟩
/-- a table's name and its fields -/
def ZfAt (H : Hp) (sc : SC) (z : Str) (v : V) : Prop := ∃ q u, v = .ref q ∧ u ∈ sc.tabs ∧ u.1 = z ∧ H q = some (.tup [.str z, .ref u.2.2.tf])
def spCn (K : PySem.W.Frag) (CS CT CI : Addr) : Sp := fun vs H Q _ => ∃ (st : Addr) (n : Int) (sc : SC) (m : Nat), vs = [.ref st, .int n] ∧ SAt K CS CT CI H st sc ∧ sc.Ok m ∧ m ≤ 100000 ∧ sc.Srt ∧ sc.first ≤ n ∧ n ≤ sc.newest ∧
  ∀ p p0 p1 p2 (ys : List Str) us0 (bs bs0 : List SD.KAd) (zs : List Zr) us2 H', Same H H' → H' p = some (.tup [.ref p0, .ref p1, .ref p2]) →
    ys.Perm ((sc.tabs.filter fun t => decide (t.2.2.num ≤ n)).map fun t => t.1) → PyProof.Rows.sortedS ys = true → H' p0 = some (.tup us0) → Paired (ZfAt H' sc) ys us0 →
    H' p1 = some (.tup (bs.map fun b => V.ref b.1)) → (∀ b ∈ bs, H' b.1 = some (.tup (b.2.map kV))) → bs = bs0.mergeSort (PySem.W.dataLe false SD.encK) → bs0.map (fun b => b.2) = (pairsT sc.tabs).filter (hasP sc.dat n) →
    zs.map (fun x => x.1) = ys → (∀ x ∈ zs, RowsS sc.dat x.1 n none none x.2) → H' p2 = some (.tup us2) → Paired (ZrAt H') (zs.filter fun x => !x.2.isEmpty) us2 → Q (.ref p) H'
section
variable {P : Program} {w : World} {K : PySem.W.Frag} {mg : Str → Option Value} {base : Heap}
theorem scCn : FnScope ["self", "number", "shapes", "names", "rows", "name", "pair"] ["self", "number"] (defScope s_Store_content) := ⟨rfl, rfl, rfl, by decide +kernel, rfl, by decide +kernel, by decide +kernel⟩
theorem ok_cn {f CS CT CI f1 f2 f3 : Addr} {fd fd1 fd2 fd3 : FuncData} (F : Fun K "content" "Store.content" s_Store_content f fd) (T : Txt mg) (TS : TxtS K CS) (Csh : CalM P w K mg base 4 CS "shapes" ["self", "number"] (spSh K CS CT CI) f1 fd1) (Csb : CalM P w K mg base 4 CS "between" ["self", "table", "low", "high", "number"] (spSB K CS CT CI) f2 fd2) (Cix : CalM P w K mg base 4 CS "indexed" ["self", "number"] (spIxd K CS CT CI) f3 fd3) : FnOk P w K mg base CX0 5 f fd ["self", "number"] (spCn K CS CT CI) := by
  refine F.ok scCn (fun vs H Q E h => ?_) (fun cdv A outer s H vs Q E hr h => ?_)
  · obtain ⟨st, n, sc, m, rfl, _⟩ := h
    rfl
  · obtain ⟨st, n, sc, m, rfl, x, ok, few, srt, n0, n1, kk⟩ := h
    have hr4 : Room 4 _ := hr
    have big : (100000 : Nat) < sizeLine := by decide
    have hu2 := Nat.lt_of_le_of_lt (Nat.add_le_add_left (show 2 ≤ 66 by decide) _) (room66 hr)
    have nd : (sc.tabs.map (fun t => t.1)).Nodup := pw_inj x.pd
    have lno : ∀ {fs : List (Str × V)} (mm : Str), Sfl sc fs → mm ≠ "first" → mm ≠ "newest" → mm ≠ "_tables" → mm ≠ "_moments" → fs.lookup mm = none := fun mm l => l.no mm
    refine ⟨_, (pss_cons (ps_set (i := 2) scCn.nd rfl (Or.inr rfl) (pe_meth (pv 0) TS.cl Csh.mt Csh.G hr4 Csh.b .nil pass0 (pa_cons (pv 1) pa_nil)))
      (pss_cons (ps_set (i := 3) scCn.nd rfl (Or.inl rfl) (pe_callB (call_sortedD rfl) (by rfl) T.sorted (by decide +kernel) (pa_cons (pv 2) pa_nil)))
      (pss_cons (ps_setLc (i := 4) (own := [("name", 5)]) rfl scCn.nd rfl rfl (sw_true rfl rfl rfl (by decide +kernel)) (RK.piL (K := K) (pv 3)) (blkOk_by (N := ["self", "number", "shapes", "names", "rows", "name", "pair"]) (sc := defScope s_Store_content) (by decide +kernel)) (fun _ _ _ _ _ => (pg_name (i := 5) scCn.nd rfl (Or.inl rfl))) (fun _ _ _ _ _ => pts_nil) (fun _ _ _ _ _ => (pe_tup (pa_cons (pv 5) (pa_cons (pe_callTy (RK.tupQ (K := K)) (by rfl) T.tuple (by decide +kernel) (pa_cons (pe_meth (pv 0) TS.cl Csb.mt Csb.G hr4 Csb.b .nil pass0 (pa_cons (pv 5) (pa_cons pe_non (pa_cons pe_non (pa_cons (pv 1) pa_nil))))) pa_nil)) pa_nil)))))
      (pss_one (ps_ret (pe_tup (pa_cons (pe_callTy (RK.tupQ (K := K)) (by rfl) T.tuple (by decide +kernel) (pa_cons (pe_lc (own := [("name", 5)]) rfl scCn.nd (RK.piL (K := K) (pv 3)) (blkOk_by (N := ["self", "number", "shapes", "names", "rows", "name", "pair"]) (sc := defScope s_Store_content) (by decide +kernel)) (fun _ _ _ _ _ => (pg_name (i := 5) scCn.nd rfl (Or.inl rfl))) (fun _ _ _ _ _ => pts_nil) (fun _ _ _ _ _ => (pe_tup (pa_cons (pv 5) (pa_cons (pe_dget (hu_of hr) (pv 2) (pv 5) (fun _ _ => rfl)) pa_nil))))) pa_nil)) (pa_cons (pe_callTy (RK.tupQ (K := K)) (by rfl) T.tuple (by decide +kernel) (pa_cons (pe_meth (pv 0) TS.cl Cix.mt Cix.G hr4 Cix.b .nil pass0 (pa_cons (pv 1) pa_nil)) pa_nil)) (pa_cons (pe_callTy (RK.tupQ (K := K)) (by rfl) T.tuple (by decide +kernel) (pa_cons (pe_lc (own := [("pair", 6)]) rfl scCn.nd (RK.piL (K := K) (pv 4)) (blkOk_by (N := ["self", "number", "shapes", "names", "rows", "name", "pair"]) (sc := defScope s_Store_content) (by decide +kernel)) (fun _ _ _ _ _ => (pg_name (i := 6) scCn.nd rfl (Or.inl rfl))) (fun _ _ _ _ _ => (pts_one (pt_cmpR (NE.op_neT (K := K) hu2) (pe_ix (RK.ixT (K := K)) (pv 6) pe_int (fun _ _ => rfl)) (pe_tup pa_nil) (nomark _)))) (fun _ _ _ _ _ => (pv 6))) pa_nil)) pa_nil))))))))), ?_⟩
    obtain ⟨dx, fs, ob, l⟩ := x.ob
    refine sa1 ⟨_, rfl, st, dx, fs, rfl, ob, lno _ l (by decide +kernel) (by decide +kernel) (by decide +kernel) (by decide +kernel), _, rfl, st, n, sc, rfl, x, ok.few, n0, n1, fun d H1 hd s1 hd1 => gn ?_⟩
    have keys : (shK sc.tabs n).map (·.1) = ((sc.tabs.filter fun t => decide (t.2.2.num ≤ n)).map fun t => t.1).map Sum.inr := by
      unfold shK
      rw [List.map_map, List.map_map]; rfl
    have f8 := ok.few
    have l8 : ((sc.tabs.filter fun t => decide (t.2.2.num ≤ n)).map fun t => t.1).length ≤ 8 := by
      rw [List.length_map]
      exact Nat.le_trans (List.length_filter_le _ _) f8
    refine sa1 ⟨_, rfl, d, shK sc.tabs n, (sc.tabs.filter fun t => decide (t.2.2.num ≤ n)).map fun t => t.1, rfl, .inl hd1, keys, by omega, fun ys p3 pm so hp3 => gn ?_⟩
    have s2 := same_new (o := .lst (ys.map V.str)) hp3
    have p31 : (upd H1 p3 (.lst (ys.map V.str))) p3 = some (.lst (ys.map V.str)) := upd_same
    generalize upd H1 p3 (.lst (ys.map V.str)) = H2 at s2 p31
    have s02 := s1.trans s2
    have ly : ys.length ≤ 8 := by rw [pm.length_eq]; exact l8
    have lys : (ys.map V.str).length = ys.length := List.length_map ..
    -- the rows of each
    try dsimp only
    refine sa1 ⟨_, rfl, p3, rfl, ⟨_, SqL.of p31⟩, fun D hD => ?_⟩
    refine lc_it (walk_list (xs := ys.map V.str)) (fun i H' => (∀ b o, b ≠ D → H2 b = some o → H' b = some o) ∧ ∃ (zs : List Zr) (us : List V), H' D = some (.lst us) ∧ Paired (ZrAt H') zs us ∧ zs.map (fun x => x.1) = ys.take i ∧ ∀ x ∈ zs, RowsS sc.dat x.1 n none none x.2)
      ⟨fun b o nb e => by rw [upd_ne nb]; exact e, [], [], upd_same, .nil, rfl, fun x h => by cases h⟩ (fun i H' _ q => SqL.of (q.1 _ _ (ne_of_none p31 hD) p31)) ?_ ?_
    · rintro i y H0 H' hi ⟨kp, zs, us, hd2, pz, ez, rz⟩ ⟨rfl, ey⟩
      rw [List.getElem?_map] at ey
      cases e : ys[i]? with
      | none => rw [e] at ey; cases ey
      | some z =>
        rw [e] at ey
        obtain rfl := Option.some.inj ey
        have tk1 : ys.take (i + 1) = ys.take i ++ [z] := by rw [List.take_add_one, e]; rfl
        have sH : Same H H' := fun b o e => kp b o (ne_of_none (s02 _ _ e) hD) (s02 _ _ e)
        have x' := x.same sH
        obtain ⟨dx', fs', ob', l'⟩ := x'.ob
        refine ⟨rfl, _, rfl, _, rfl, st, dx', fs', rfl, ob', lno _ l' (by decide +kernel) (by decide +kernel) (by decide +kernel) (by decide +kernel), _, rfl, _, rfl, st, z, none, none, n, sc, m, rfl, x', ok, few, srt, n0, n1, fun rs q us2 H3 hq s3 q3 pr rS lu => ⟨q, us2, rfl, .inl ⟨SqL.of q3, fun t ht => ⟨by show 2 ≤ sizeLine; decide, fun t2 ht2 => ?_⟩⟩⟩⟩
        have s4 := same_new (o := .tup us2) ht
        have t4 : (upd H3 t (.tup us2)) t = some (.tup us2) := upd_same
        generalize upd H3 t (.tup us2) = H4 at s4 t4 ht2
        have s5 := same_new (o := .tup [.str z, .ref t]) ht2
        have t5 : (upd H4 t2 (.tup [.str z, .ref t])) t2 = some (.tup [.str z, .ref t]) := upd_same
        generalize upd H4 t2 (.tup [.str z, .ref t]) = H5 at s5 t5
        have s35 := s4.trans s5
        have s'5 := s3.trans s35
        have hd5 := s'5 _ _ hd2
        have tkD : TK H5 (upd H5 D (.lst (us ++ [.ref t2]))) := fun b u hu e => by rw [upd_ne (ne_of e hd5 (by intro z; subst z; exact hu))]; exact e
        have lu1 := pw_len pz
        have lz := congrArg List.length ez
        rw [List.length_map, List.length_take] at lz
        refine ⟨us, hd5, Nat.lt_of_le_of_lt (show us.length ≤ 100000 by omega) big, fun b o nb e => by rw [upd_ne nb]; exact s'5 _ _ (kp b o nb e), zs ++ [(z, rs)], us ++ [.ref t2], upd_same, ?_, by rw [List.map_append, ez, tk1]; rfl, fun u m => ?_⟩
        · refine pw_app (pw_imp (fun _ _ h => h.keep (TK.trans (TK.same s'5) tkD)) pz) (.cons ⟨t2, t, us2, rfl, tkD.tup t5, tkD.tup (s5 _ _ t4), ?_⟩ .nil)
          exact pw_imp (fun _ _ h => RowAt.keep (TK.trans (TK.same s35) tkD) h) pr
        · rcases List.mem_append.mp m with m | m
          · exact rz u m
          · rw [List.mem_singleton.mp m]; exact rS
    rintro H3 ⟨kp, zs, us, hd3, pz, ez, rz⟩
    rw [lys, List.take_length] at ez
    refine gn ?_
    have s23 : Same H2 H3 := fun b o e => kp b o (ne_of_none e hD) e
    have s03 := s02.trans s23
    have p33 := s23 _ _ p31
    have d3 := s23 _ _ (s2 _ _ hd1)
    have lus := pw_len pz
    have lz := congrArg List.length ez
    rw [List.length_map] at lz
    have ndk : ((shK sc.tabs n).map (·.1)).Nodup := by
      rw [keys]
      have a : ((sc.tabs.filter fun t => decide (t.2.2.num ≤ n)).map fun t => t.1).Nodup := nd.sublist (List.filter_sublist.map _)
      exact List.Pairwise.map _ (fun a b h e => h (Sum.inr.inj e)) a
    -- the tables
    refine ⟨_, rfl, p3, rfl, ⟨_, SqL.of p33⟩, fun D1 hD1 => ?_⟩
    refine lc_it (walk_list (xs := ys.map V.str)) (fun i H' => (∀ b o, b ≠ D1 → H3 b = some o → H' b = some o) ∧ ∃ us0, H' D1 = some (.lst us0) ∧ Paired (ZfAt H' sc) (ys.take i) us0)
      ⟨fun b o nb e => by rw [upd_ne nb]; exact e, [], upd_same, .nil⟩ (fun i H' _ q => SqL.of (q.1 _ _ (ne_of_none p33 hD1) p33)) ?_ ?_
    · rintro i y H0 H' hi ⟨kp1, us0, h1, pf⟩ ⟨rfl, ey⟩
      rw [List.getElem?_map] at ey
      cases e : ys[i]? with
      | none => rw [e] at ey; cases ey
      | some z =>
        rw [e] at ey
        obtain rfl := Option.some.inj ey
        have tk1 : ys.take (i + 1) = ys.take i ++ [z] := by rw [List.take_add_one, e]; rfl
        obtain ⟨u, hu, rfl⟩ := List.mem_map.mp (pm.mem_iff.mp (List.mem_of_getElem? e))
        obtain ⟨hu1, hu2⟩ := List.mem_filter.mp hu
        have mm : ((Sum.inr u.1 : Key), V.ref u.2.2.tf) ∈ shK sc.tabs n := List.mem_map.mpr ⟨u, hu, rfl⟩
        obtain ⟨j, ej⟩ := List.mem_iff_getElem?.mp mm
        have dg : DGet H' d (.str u.1) (some (.ref u.2.2.tf)) := valV_mem ndk ej ▸ DGet.k (k := Sum.inr u.1) (kp1 _ _ (ne_of_none d3 hD1) d3)
        have lp := pw_len pf
        rw [List.length_take] at lp
        refine ⟨rfl, _, rfl, _, rfl, _, rfl, d, .ref u.2.2.tf, rfl, dg, by show 2 ≤ sizeLine; decide, fun t ht => ?_⟩
        have s5 := same_new (o := .tup [.str u.1, .ref u.2.2.tf]) ht
        have t5 : (upd H' t (.tup [.str u.1, .ref u.2.2.tf])) t = some (.tup [.str u.1, .ref u.2.2.tf]) := upd_same
        generalize upd H' t (.tup [.str u.1, .ref u.2.2.tf]) = H5 at s5 t5
        have h15 := s5 _ _ h1
        have tkD : TK H5 (upd H5 D1 (.lst (us0 ++ [.ref t]))) := fun b u hu e => by rw [upd_ne (ne_of e h15 (by intro z; subst z; exact hu))]; exact e
        refine ⟨us0, h15, Nat.lt_of_le_of_lt (show us0.length ≤ 100000 by omega) big, fun b o nb e => by rw [upd_ne nb]; exact s5 _ _ (kp1 b o nb e), us0 ++ [.ref t], upd_same, ?_⟩
        rw [tk1]
        exact pw_app (pw_imp (fun _ _ ⟨q, v, a, b, c, g⟩ => ⟨q, v, a, b, c, tkD.tup (s5 _ _ g)⟩) pf) (.cons ⟨t, u, rfl, hu1, rfl, tkD.tup t5⟩ .nil)
    rintro H4 ⟨kp1, us0, h1, pf⟩
    rw [lys, List.take_length] at pf
    have s34 : Same H3 H4 := fun b o e => kp1 b o (ne_of_none e hD1) e
    refine ⟨D1, us0, rfl, .inl ⟨SqL.of h1, fun p0 hp0 => ?_⟩⟩
    have s45 := same_new (o := .tup us0) hp0
    have p05 : (upd H4 p0 (.tup us0)) p0 = some (.tup us0) := upd_same
    generalize upd H4 p0 (.tup us0) = H5 at s45 p05
    have s35 := s34.trans s45
    have pf5 : Paired (ZfAt H5 sc) ys us0 := pw_imp (fun _ _ ⟨q, v, a, b, c, g⟩ => ⟨q, v, a, b, c, s45 _ _ g⟩) pf
    have pz5 : Paired (ZrAt H5) zs us := pw_imp (fun _ _ h => ZrAt.keep (TK.same s35) h) pz
    have hd5 := s35 _ _ hd3
    have s05 := s03.trans s35
    clear pf pz kp1 h1 hD1 s34 s45 hp0 kp
    -- the indexes
    have x5 := x.same s05
    obtain ⟨dx5, fs5, ob5, l5⟩ := x5.ob
    refine ⟨_, rfl, st, dx5, fs5, rfl, ob5, lno _ l5 (by decide +kernel) (by decide +kernel) (by decide +kernel) (by decide +kernel), _, rfl, st, n, sc, m, rfl, x5, ok, n0, n1, fun bs bs0 q1 H6 s56 hq1 q16 hb6 eb1 eb2 => ⟨q1, _, rfl, .inl ⟨SqL.of q16, fun p1 hp1 => ?_⟩⟩⟩
    have s67 := same_new (o := .tup (bs.map fun b => V.ref b.1)) hp1
    have p17 : (upd H6 p1 (.tup (bs.map fun b => V.ref b.1))) p1 = some (.tup (bs.map fun b => V.ref b.1)) := upd_same
    generalize upd H6 p1 (.tup (bs.map fun b => V.ref b.1)) = H7 at s67 p17
    have s57 := s56.trans s67
    have hb7 : ∀ b ∈ bs, H7 b.1 = some (.tup (b.2.map kV)) := fun b m => s67 _ _ (hb6 b m)
    have pf7 : Paired (ZfAt H7 sc) ys us0 := pw_imp (fun _ _ ⟨q, v, a, b, c, g⟩ => ⟨q, v, a, b, c, s57 _ _ g⟩) pf5
    have pz7 : Paired (ZrAt H7) zs us := pw_imp (fun _ _ h => ZrAt.keep (TK.same s57) h) pz5
    have hd7 := s57 _ _ hd5
    have p07 := s57 _ _ p05
    have s07 := s05.trans s57
    clear pf5 pz5 s56 s67 hb6 q16 hp1 hq1
    -- the rows that there are
    refine ⟨_, rfl, D, rfl, ⟨_, SqL.of hd7⟩, fun D2 hD2 => ?_⟩
    refine lc_it (walk_list (xs := us)) (fun i H' => (∀ b o, b ≠ D2 → H7 b = some o → H' b = some o) ∧ ∃ ws, H' D2 = some (.lst ws) ∧ Paired (ZrAt H') ((zs.take i).filter fun x => !x.2.isEmpty) ws)
      ⟨fun b o nb e => by rw [upd_ne nb]; exact e, [], upd_same, .nil⟩ (fun i H' _ q => SqL.of (q.1 _ _ (ne_of_none hd7 hD2) hd7)) ?_ ?_
    · rintro i y H0 H' hi ⟨kp2, ws, h2, pw⟩ ⟨rfl, ey⟩
      obtain ⟨u, eu, q, r, vs, rfl, g1, g2, g3⟩ := pw_get pz7 ey
      have tk1 : zs.take (i + 1) = zs.take i ++ [u] := by rw [List.take_add_one, eu]; rfl
      have g1' := kp2 _ _ (ne_of_none g1 hD2) g1
      refine ⟨rfl, _, rfl, q, _, 1, _, rfl, rfl, SqT.of g1', rfl, by show 0 ≤ sizeLine; decide, fun e he => ?_⟩
      have s8 := same_new (o := .tup []) he
      have e8 : (upd H' e (.tup [])) e = some (.tup []) := upd_same
      generalize upd H' e (.tup []) = H8 at s8 e8
      have h28 := s8 _ _ h2
      have g2' := s8 _ _ (kp2 _ _ (ne_of_none g2 hD2) g2)
      have lv := pw_len g3
      have lp := pw_len pw
      have lf := List.length_filter_le (fun x : Zr => !x.2.isEmpty) (zs.take i)
      rw [List.length_take] at lf
      refine ⟨r, e, vs, rfl, rfl, SqT.of g2', SqT.of e8, _, rfl, ?_⟩
      cases vs with
      | nil =>
        have e0 : u.2 = [] := List.length_eq_zero_iff.mp lv
        have ef : ([u] : List Zr).filter (fun x => !x.2.isEmpty) = [] := by rw [List.filter_cons, if_neg (by rw [e0]; exact Bool.false_ne_true)]; rfl
        refine iteF ⟨fun b o nb e => s8 _ _ (kp2 b o nb e), ws, h28, ?_⟩
        rw [tk1, List.filter_append, ef, List.append_nil]
        exact pw_imp (fun _ _ h => ZrAt.keep (TK.same s8) h) pw
      | cons v0 vs =>
        have ef : ([u] : List Zr).filter (fun x => !x.2.isEmpty) = [u] := by
          cases e0 : u.2 with
          | nil => rw [e0] at lv; cases lv
          | cons _ _ => rw [List.filter_cons, if_pos (by rw [e0]; rfl)]; rfl
        have tkD : TK H8 (upd H8 D2 (.lst (ws ++ [.ref q]))) := fun b u hu e => by rw [upd_ne (ne_of e h28 (by intro z; subst z; exact hu))]; exact e
        refine iteT ⟨_, rfl, ws, h28, Nat.lt_of_le_of_lt (show ws.length ≤ 100000 by omega) big, fun b o nb e => by rw [upd_ne nb]; exact s8 _ _ (kp2 b o nb e), ws ++ [.ref q], upd_same, ?_⟩
        rw [tk1, List.filter_append, ef]
        have t78 : TK H7 H8 := fun b u hu e => s8 _ _ (kp2 b u (ne_of_none e hD2) e)
        exact pw_app (pw_imp (fun _ _ h => ZrAt.keep (TK.trans (TK.same s8) tkD) h) pw) (.cons (ZrAt.keep (TK.trans t78 tkD) ⟨q, r, _, rfl, g1, g2, g3⟩) .nil)
    rintro H8 ⟨kp2, ws, h2, pw⟩
    rw [← lus, List.take_length] at pw
    have s78 : Same H7 H8 := fun b o e => kp2 b o (ne_of_none e hD2) e
    refine ⟨D2, ws, rfl, .inl ⟨SqL.of h2, fun p2 hp2 => ?_⟩⟩
    have s89 := same_new (o := .tup ws) hp2
    have p29 : (upd H8 p2 (.tup ws)) p2 = some (.tup ws) := upd_same
    generalize upd H8 p2 (.tup ws) = H9 at s89 p29
    refine ⟨by show 3 ≤ sizeLine; decide, fun p hp => ?_⟩
    have s9A := same_new (o := .tup [.ref p0, .ref p1, .ref p2]) hp
    have pA : (upd H9 p (.tup [.ref p0, .ref p1, .ref p2])) p = some (.tup [.ref p0, .ref p1, .ref p2]) := upd_same
    generalize upd H9 p (.tup [.ref p0, .ref p1, .ref p2]) = HA at s9A pA
    have s7A := s78.trans (s89.trans s9A)
    exact kk p p0 p1 p2 ys us0 bs bs0 zs ws HA (s07.trans s7A) pA pm so (s7A _ _ p07) (pw_imp (fun _ _ ⟨q, v, a, b, c, g⟩ => ⟨q, v, a, b, c, s7A _ _ g⟩) pf7) (s7A _ _ p17) (fun b m => s7A _ _ (hb7 b m)) eb1 eb2 ez rz (s9A _ _ p29) (pw_imp (fun _ _ h => ZrAt.keep (TK.same (s89.trans s9A)) h) pw)
end
end GS

set_option linter.all false
set_option maxHeartbeats 4000000
namespace GS
open PySem L2 HX
/-! ### the law's book -/
abbrev Tin := Str × Int × List Str
abbrev Kpt := Str × Int × Int × Option Row
structure BC where
  tb : Addr
  md : Addr
  st : Addr
  kp : Addr
  tabs : List Tin
  made : List ((Str × Str) × Int)
  kept : List Kpt
  states : List (List (Str × List (Int × Row)))
def TinAt (K : PySem.W.Frag) (H : Hp) (kv : Key × V) (x : Tin) : Prop := kv.1 = Sum.inr x.1 ∧ ∃ p f, kv.2 = .ref p ∧ SqT K H p [.int x.2.1, .ref f] ∧ BT K H f (x.2.2.map V.str)
def KptAt (K : PySem.W.Frag) (H : Hp) (x : Kpt) (v : V) : Prop := ∃ p rv, v = .ref p ∧ SqT K H p [.str x.1, .int x.2.1, .int x.2.2.1, rv] ∧ RowAt H x.2.2.2 rv
def mdkv (ms : List ((Str × Str) × Int)) : List (List L2.Key × V) := ms.map fun m => ([Sum.inr m.1.1, Sum.inr m.1.2], V.int m.2)
/-- the rows of a table at a moment, as the book has them -/
abbrev Rws := List (Int × Row)
abbrev StD := List (Str × Rws)
def RkR (H : Hp) (kv : Key × V) (x : Int × Row) : Prop := kv.1 = Sum.inl x.1 ∧ RowAt H (some x.2) kv.2
def RwAt (H : Hp) (r : Addr) (rs : Rws) : Prop := ∃ rkv : List (Key × V), H r = some (.dK rkv) ∧ Paired (RkR H) rkv rs
def skvS : StD → List Addr → List (Key × V)
  | x :: s, r :: rl => (Sum.inr x.1, V.ref r) :: skvS s rl
  | _, _ => []
def StAt (H : Hp) (own : List Addr) (s : StD) (v : V) : Prop := ∃ a rl, v = .ref a ∧ own = a :: rl ∧ H a = some (.dK (skvS s rl)) ∧ Paired (fun r (x : Str × Rws) => RwAt H r x.2) rl s
def StIn (H : Hp) (own : List Addr) (s : StD) (v : V) : Prop := ∃ o, (∀ b ∈ o, b ∈ own) ∧ o.Nodup ∧ StAt H o s v
structure BAt (K : PySem.W.Frag) (H : Hp) (own : List Addr) (bk : Addr) (B : BC) : Prop where
  h0 : H bk = some (.dK [(Sum.inr (Str.ofString "tables"), .ref B.tb), (Sum.inr (Str.ofString "made"), .ref B.md), (Sum.inr (Str.ofString "states"), .ref B.st), (Sum.inr (Str.ofString "kept"), .ref B.kp)])
  tb : ∃ kvs, H B.tb = some (.dK kvs) ∧ Paired (TinAt K H) kvs B.tabs
  md : H B.md = some (.dT (mdkv B.made))
  kp : ∃ vs, H B.kp = some (.lst vs) ∧ Paired (KptAt K H) B.kept vs
  st : ∃ us, H B.st = some (.lst us) ∧ Paired (StIn H own) B.states us
  ne : bk ≠ B.tb ∧ B.st ≠ B.kp
  no : ∀ b ∈ own, b ≠ bk ∧ b ≠ B.tb ∧ b ≠ B.md ∧ b ≠ B.st ∧ b ≠ B.kp
  ex : ∀ b ∈ own, ∃ o, H b = some o ∧ ¬ TupO o
def bfp (own : List Addr) (bk : Addr) (B : BC) : List Addr := bk :: B.tb :: B.md :: B.st :: B.kp :: own
theorem RwAt.keep {H H' : Hp} {r : Addr} {rs : Rws} (k : ∀ o, H r = some o → H' r = some o) (t : TK H H') (h : RwAt H r rs) : RwAt H' r rs := by
  obtain ⟨rkv, h1, h2⟩ := h
  exact ⟨rkv, k _ h1, pw_imp (fun _ _ ⟨a, b⟩ => ⟨a, RowAt.keep t b⟩) h2⟩
theorem rws_keep {H H' : Hp} (t : TK H H') : ∀ {rl : List Addr} {s : StD}, (∀ b ∈ rl, ∀ o, H b = some o → H' b = some o) → Paired (fun r (x : Str × Rws) => RwAt H r x.2) rl s → Paired (fun r (x : Str × Rws) => RwAt H' r x.2) rl s
  | _, _, _, .nil => .nil
  | _, _, k, .cons h r => .cons (h.keep (k _ (List.mem_cons_self ..)) t) (rws_keep t (fun b m => k b (List.mem_cons_of_mem _ m)) r)
theorem StAt.keep {H H' : Hp} {own : List Addr} {s : StD} {v : V} (k : ∀ b ∈ own, ∀ o, H b = some o → H' b = some o) (t : TK H H') (h : StAt H own s v) : StAt H' own s v := by
  obtain ⟨a, rl, e, eo, h1, h2⟩ := h
  subst eo
  exact ⟨a, rl, e, rfl, k a (List.mem_cons_self ..) _ h1, rws_keep t (fun b m => k b (List.mem_cons_of_mem _ m)) h2⟩
theorem StIn.keep {H H' : Hp} {own own' : List Addr} {s : StD} {v : V} (k : ∀ b ∈ own, ∀ o, H b = some o → H' b = some o) (t : TK H H') (sub : ∀ b ∈ own, b ∈ own') (h : StIn H own s v) : StIn H' own' s v := by
  obtain ⟨o, h1, h2, h3⟩ := h
  exact ⟨o, fun b m => sub b (h1 b m), h2, h3.keep (fun b m => k b (h1 b m)) t⟩
theorem tin_keep {K : PySem.W.Frag} {H H' : Hp} (t : TK H H') {kvs : List (Key × V)} {xs : List Tin} (h : Paired (TinAt K H) kvs xs) : Paired (TinAt K H') kvs xs := pw_imp (fun _ _ ⟨a, p, f, b, c, d⟩ => ⟨a, p, f, b, sqt_keep t c, d.keep t⟩) h
theorem kpt_keep {K : PySem.W.Frag} {H H' : Hp} (t : TK H H') {xs : List Kpt} {vs : List V} (h : Paired (KptAt K H) xs vs) : Paired (KptAt K H') xs vs := pw_imp (fun _ _ ⟨p, rv, a, b, c⟩ => ⟨p, rv, a, sqt_keep t b, c.keep t⟩) h
theorem BAt.keep {K : PySem.W.Frag} {H H' : Hp} {own : List Addr} {bk : Addr} {B : BC} (x : BAt K H own bk B) (k : ∀ b ∈ bfp own bk B, ∀ o, H b = some o → H' b = some o) (t : TK H H') : BAt K H' own bk B := by
  obtain ⟨kvs, t1, t2⟩ := x.tb
  obtain ⟨vs, p1, p2⟩ := x.kp
  obtain ⟨us, u1, u2⟩ := x.st
  have ko : ∀ b ∈ own, ∀ o, H b = some o → H' b = some o := fun b hb => k b (by simp [bfp, hb])
  refine ⟨k _ (by simp [bfp]) _ x.h0, ⟨kvs, k _ (by simp [bfp]) _ t1, tin_keep t t2⟩, k _ (by simp [bfp]) _ x.md, ⟨vs, k _ (by simp [bfp]) _ p1, kpt_keep t p2⟩, ⟨us, k _ (by simp [bfp]) _ u1, pw_imp (fun _ _ h => h.keep ko t fun _ m => m) u2⟩, x.ne, x.no, fun b hb => ?_⟩
  obtain ⟨o, e, n⟩ := x.ex b hb
  exact ⟨o, ko b hb o e, n⟩
def spBook (K : PySem.W.Frag) : Sp := fun vs H Q _ => vs = [] ∧ ∀ own bk B H', BAt K H' own bk B → B.tabs = [] → B.made = [] → B.kept = [] → B.states = [[]] → (∀ b ∈ bfp own bk B, H b = none) → Same H H' → Q (.ref bk) H'
section
variable {P : Program} {w : World} {K : PySem.W.Frag} {mg : Str → Option Value} {base : Heap}
theorem scBk : FnScope [] [] (defScope s_l_book) := ⟨rfl, rfl, rfl, by decide +kernel, rfl, by decide +kernel, by decide +kernel⟩
theorem ok_book {f : Addr} {fd : FuncData} (F : Fun K "_law_book" "_law_book" s_l_book f fd) : FnOk P w K mg base CX0 1 f fd [] (spBook K) := by
  refine F.ok scBk (fun vs H Q E h => ?_) (fun cdv A outer s H vs Q E hr h => ?_)
  · obtain ⟨rfl, _⟩ := h
    rfl
  · obtain ⟨rfl, k⟩ := h
    refine ⟨_, (pss_one (ps_ret (pe_disp (pps_cons pe_str pe_dnewK (pps_cons pe_str pe_dnewT (pps_cons pe_str (pe_lst (pa_cons pe_dnewK pa_nil)) (pps_cons pe_str (pe_lst pa_nil) pps_nil)))) (by rfl) (by rfl) (fun z => by cases z) (by decide)))), ?_⟩
    intro bk hbk
    have s0 := same_new (o := .dK []) hbk
    have b0 : (upd H bk (.dK [])) bk = some (.dK []) := upd_same
    generalize upd H bk (.dK []) = H0 at s0 b0
    intro tb htb
    have e1 : bk ≠ tb := ne_of_none b0 htb
    have z1 : H tb = none := none_of_same s0 htb
    have s1 := same_new (o := .dK []) htb
    have b1 : (upd H0 tb (.dK [])) tb = some (.dK []) := upd_same
    generalize upd H0 tb (.dK []) = H1 at s1 b1
    have b0 := s1 _ _ b0
    have s01 := s0.trans s1
    intro md hmd
    have e2 : bk ≠ md := ne_of_none b0 hmd
    have e3 : tb ≠ md := ne_of_none b1 hmd
    have z2 : H md = none := none_of_same s01 hmd
    have s2 := same_new (o := .dT []) hmd
    have b2 : (upd H1 md (.dT [])) md = some (.dT []) := upd_same
    generalize upd H1 md (.dT []) = H2 at s2 b2
    have b0 := s2 _ _ b0
    have b1 := s2 _ _ b1
    have s02 := s01.trans s2
    intro a ha
    have e4 : bk ≠ a := ne_of_none b0 ha
    have e5 : tb ≠ a := ne_of_none b1 ha
    have e9 : md ≠ a := ne_of_none b2 ha
    have z3 : H a = none := none_of_same s02 ha
    have s3 := same_new (o := .dK []) ha
    have b3 : (upd H2 a (.dK [])) a = some (.dK []) := upd_same
    generalize upd H2 a (.dK []) = H3 at s3 b3
    have b0 := s3 _ _ b0
    have b1 := s3 _ _ b1
    have b2 := s3 _ _ b2
    have s03 := s02.trans s3
    refine ⟨by show 1 ≤ sizeLine; decide, fun st hst => ?_⟩
    have e6 : bk ≠ st := ne_of_none b0 hst
    have e10 : a ≠ st := ne_of_none b3 hst
    have z4 : H st = none := none_of_same s03 hst
    have s4 := same_new (o := .lst [.ref a]) hst
    have b4 : (upd H3 st (.lst [.ref a])) st = some (.lst [.ref a]) := upd_same
    generalize upd H3 st (.lst [.ref a]) = H4 at s4 b4
    have b0 := s4 _ _ b0
    have b1 := s4 _ _ b1
    have b2 := s4 _ _ b2
    have b3 := s4 _ _ b3
    have s04 := s03.trans s4
    refine ⟨by show 0 ≤ sizeLine; decide, fun kp hkp => ?_⟩
    have e7 : bk ≠ kp := ne_of_none b0 hkp
    have e11 : a ≠ kp := ne_of_none b3 hkp
    have e8 : st ≠ kp := ne_of_none b4 hkp
    have z5 : H kp = none := none_of_same s04 hkp
    have s5 := same_new (o := .lst []) hkp
    have b5 : (upd H4 kp (.lst [])) kp = some (.lst []) := upd_same
    generalize upd H4 kp (.lst []) = H5 at s5 b5
    have b0 := s5 _ _ b0
    have b1 := s5 _ _ b1
    have b2 := s5 _ _ b2
    have b3 := s5 _ _ b3
    have b4 := s5 _ _ b4
    have s05 := s04.trans s5
    refine ⟨b0, [(Sum.inr (Str.ofString "tables"), .ref tb), (Sum.inr (Str.ofString "made"), .ref md), (Sum.inr (Str.ofString "states"), .ref st), (Sum.inr (Str.ofString "kept"), .ref kp)], rfl, by show 4 ≤ 15; decide, ?_⟩
    have mk : mergeK [] [(Sum.inr (Str.ofString "tables"), V.ref tb), (Sum.inr (Str.ofString "made"), .ref md), (Sum.inr (Str.ofString "states"), .ref st), (Sum.inr (Str.ofString "kept"), .ref kp)] = [((Sum.inr (Str.ofString "tables") : Key), V.ref tb), (Sum.inr (Str.ofString "made"), .ref md), (Sum.inr (Str.ofString "states"), .ref st), (Sum.inr (Str.ofString "kept"), .ref kp)] := by
      have d1 : ¬ ((Sum.inr (Str.ofString "tables") : Key) = Sum.inr (Str.ofString "made")) := by decide +kernel
      have d2 : ¬ ((Sum.inr (Str.ofString "tables") : Key) = Sum.inr (Str.ofString "states")) := by decide +kernel
      have d3 : ¬ ((Sum.inr (Str.ofString "tables") : Key) = Sum.inr (Str.ofString "kept")) := by decide +kernel
      have d4 : ¬ ((Sum.inr (Str.ofString "made") : Key) = Sum.inr (Str.ofString "states")) := by decide +kernel
      have d5 : ¬ ((Sum.inr (Str.ofString "made") : Key) = Sum.inr (Str.ofString "kept")) := by decide +kernel
      have d6 : ¬ ((Sum.inr (Str.ofString "states") : Key) = Sum.inr (Str.ofString "kept")) := by decide +kernel
      simp [mergeK, putK, d1, d2, d3, d4, d5, d6]
    rw [mk]
    have nb : ∀ x o, H5 x = some o → bk ≠ x → (upd H5 bk (.dK [(Sum.inr (Str.ofString "tables"), V.ref tb), (Sum.inr (Str.ofString "made"), .ref md), (Sum.inr (Str.ofString "states"), .ref st), (Sum.inr (Str.ofString "kept"), .ref kp)])) x = some o := fun x o e n => by rw [upd_ne (Ne.symm n)]; exact e
    refine k [a] bk ⟨tb, md, st, kp, [], [], [], [[]]⟩ _ ⟨upd_same, ⟨[], nb _ _ b1 e1, .nil⟩, nb _ _ b2 e2, ⟨[], nb _ _ b5 e7, .nil⟩, ⟨[.ref a], nb _ _ b4 e6, .cons ⟨[a], fun b m => m, List.nodup_cons.mpr ⟨List.not_mem_nil, List.nodup_nil⟩, a, [], rfl, rfl, nb _ _ b3 e4, .nil⟩ .nil⟩, ⟨e1, e8⟩, fun b hb => by rw [List.mem_singleton.mp hb]; exact ⟨Ne.symm e4, Ne.symm e5, Ne.symm e9, e10, e11⟩, fun b hb => ?_⟩ rfl rfl rfl rfl (fun b hb => ?_) fun b o e => ?_
    · rw [List.mem_singleton.mp hb]
      exact ⟨_, nb _ _ b3 e4, by intro z; exact z⟩
    · simp only [bfp, List.mem_cons, List.not_mem_nil, or_false] at hb
      rcases hb with h | h | h | h | h | h
      · rw [h]; exact hbk
      · rw [h]; exact z1
      · rw [h]; exact z2
      · rw [h]; exact z4
      · rw [h]; exact z5
      · rw [h]; exact z3
    · exact nb _ _ (s05 _ _ e) (Ne.symm (ne_of_none e hbk))
end
end GS

set_option linter.all false
set_option maxHeartbeats 4000000
namespace GS
open PySem L2 HX
def spRow (K : PySem.W.Frag) : Sp := fun vs H Q _ => ∃ (a b f : Addr) (k : Int) (fs : List Str), vs = [.ref a, .int k, .ref f] ∧ BoxAt H a b ∧ SqT K H f (fs.map V.str) ∧ fs ≠ [] ∧ fs.length ≤ 4 ∧ k ≤ 100 ∧
  ∀ (p : Addr) (ns : List Int) (H' : Hp), Keep a b H H' → BoxAt H' a b → H' p = some (.tup (ns.map V.int)) → ns.length = fs.length → ns.head? = some k → (∀ v ∈ ns, v ≤ 100) → Q (.ref p) H'
theorem box_ne {H : Hp} {a b x : Addr} {o : HO} (B : BoxAt H a b) (hx : H x = some o) (nl : ∀ xs, o ≠ .lst xs) : x ≠ a ∧ x ≠ b := by
  obtain ⟨z, cs, h1, h2, _⟩ := B
  exact ⟨ne_of hx h1 (nl _), ne_of hx h2 (nl _)⟩
theorem box_new {H : Hp} {a b x : Addr} (B : BoxAt H a b) (hx : H x = none) : x ≠ a ∧ x ≠ b := by
  obtain ⟨z, cs, h1, h2, _⟩ := B
  exact ⟨fun e => (by rw [e, h1] at hx; cases hx), fun e => (by rw [e, h2] at hx; cases hx)⟩
theorem BoxAt.upd {H : Hp} {a b x : Addr} {o : HO} (B : BoxAt H a b) (n : x ≠ a ∧ x ≠ b) : BoxAt (L2.upd H x o) a b := by
  obtain ⟨z, cs, h1, h2, h3⟩ := B
  exact ⟨z, cs, by rw [upd_ne (Ne.symm n.1)]; exact h1, by rw [upd_ne (Ne.symm n.2)]; exact h2, h3⟩
theorem BoxAt.same {H H' : Hp} {a b : Addr} (B : BoxAt H a b) (s : Same H H') : BoxAt H' a b := by
  obtain ⟨z, cs, h1, h2, h3⟩ := B
  exact ⟨z, cs, s _ _ h1, s _ _ h2, h3⟩
theorem Keep.tk {H H' : Hp} {a b : Addr} (B : BoxAt H a b) (k : Keep a b H H') : TK H H' := fun x u hu e => by
  have n := box_ne B e (fun xs z => by rw [z] at hu; exact hu)
  exact k x u n.1 n.2 e
theorem Keep.same' {H H' : Hp} {a b : Addr} (s : Same H H') : Keep a b H H' := fun x o _ _ e => s x o e
section
variable {P : Program} {w : World} {K : PySem.W.Frag} {mg : Str → Option Value} {base : Heap}
theorem scRw : FnScope ["_law_box", "_law_mark", "_law_fields", "_law_field"] ["_law_box", "_law_mark", "_law_fields"] (defScope s_l_row) := ⟨rfl, rfl, rfl, by decide +kernel, rfl, by decide +kernel, by decide +kernel⟩
theorem ok_row {f ft : Addr} {fd fdt : FuncData} (F : Fun K "_law_row" "_law_row" s_l_row f fd) (T : Txt mg) (Ctake : Cal P w K mg base 1 "_law_take" ["_law_box", "_law_many"] (spTake K) ft fdt) : FnOk P w K mg base CX0 2 f fd ["_law_box", "_law_mark", "_law_fields"] (spRow K) := by
  refine F.ok scRw (fun vs H Q E h => ?_) (fun cdv A outer s H vs Q E hr h => ?_)
  · obtain ⟨a, b, f, k, fs, rfl, _⟩ := h
    rfl
  · obtain ⟨a, b, f, k, fs, rfl, B, hf, nf, l4, k100, kk⟩ := h
    have hr1 : Room 1 _ := hr
    refine ⟨_, (pss_one (ps_ret (pe_op (RK.catT (K := K)) (pe_tup (pa_cons (pv 1) pa_nil)) (pe_callTy (RK.tupQ (K := K)) (by rfl) T.tuple (by decide +kernel) (pa_cons (pe_lc (own := [("_law_field", 3)]) rfl scRw.nd (RK.piT (K := K) (pe_slice (RK.slT (K := K)) (pv 2) (po_some pe_int) po_none)) (blkOk_by (N := ["_law_box", "_law_mark", "_law_fields", "_law_field"]) (sc := defScope s_l_row) (by decide +kernel)) (fun _ _ _ _ _ => (pg_name (i := 3) scRw.nd rfl (Or.inl rfl))) (fun _ _ _ _ _ => pts_nil) (fun _ _ _ _ _ => (pe_op op_sub (pe_call Ctake.G hr1 (by rfl) Ctake.g Ctake.kp Ctake.b .nil pass0 (pa_cons (pv 0) (pa_cons (pe_ix (RK.ixL (K := K)) (pe_lst (pa_cons pe_int (pa_cons pe_int pa_nil))) (pe_call Ctake.G hr1 (by rfl) Ctake.g Ctake.kp Ctake.b .nil pass0 (pa_cons (pv 0) (pa_cons pe_int pa_nil))) (fun _ _ => rfl)) pa_nil))) pe_int))) pa_nil))))), ?_⟩
    obtain ⟨f0, fr, ef⟩ : ∃ f0 fr, fs = f0 :: fr := by
      cases fs with
      | nil => exact absurd rfl nf
      | cons x l => exact ⟨x, l, rfl⟩
    subst ef
    refine ⟨_, rfl, by show 1 ≤ sizeLine; decide, fun p1 hp1 => ?_⟩
    have s1 := same_new (o := .tup [V.int k]) hp1
    have h1 : (upd H p1 (.tup [V.int k])) p1 = some (.tup [V.int k]) := upd_same
    generalize upd H p1 (.tup [V.int k]) = H1 at s1 h1
    have hf1 := sqt_keep (TK.same s1) hf
    have B1 := B.same s1
    have nw : ¬ (HT.sIx ((f0 :: fr).map V.str).length 0 (some 1) = 0 ∧ HT.sIx ((f0 :: fr).map V.str).length ((f0 :: fr).map V.str).length none = ((f0 :: fr).map V.str).length) := fun h => by
      have h := h.1
      rw [show (some (1 : Int)) = some ((1 : Nat) : Int) from rfl, HT.sIx_nat, List.length_map, List.length_cons] at h
      omega
    have ec : cutV ((f0 :: fr).map V.str) (some 1) none = fr.map V.str := by
      unfold cutV
      rw [show (some (1 : Int)) = some ((1 : Nat) : Int) from rfl, HT.sIx_nat, HT.sIx_none, List.length_map, List.length_cons]
      have e1 : min 1 (fr.length + 1) = 1 := by omega
      rw [e1]
      show (fr.map V.str).take _ = _
      rw [List.take_of_length_le (by rw [List.length_map]; omega)]
    refine ⟨_, rfl, 1, rfl, f, _, rfl, hf1, fun h => absurd h nw, fun _ p2 hp2 => ?_⟩
    rw [ec]
    have s2 := same_new (o := .tup (fr.map V.str)) hp2
    have h2 : (upd H1 p2 (.tup (fr.map V.str))) p2 = some (.tup (fr.map V.str)) := upd_same
    generalize upd H1 p2 (.tup (fr.map V.str)) = H2 at s2 h2
    have B2 := B1.same s2
    have h1 := s2 _ _ h1
    have s12 := s1.trans s2
    refine ⟨p2, rfl, ⟨_, SqT.of h2⟩, fun D hD => ?_⟩
    have nDb := box_new B2 hD
    have lfr : (fr.map V.str).length = fr.length := List.length_map ..
    have l3 : fr.length ≤ 3 := by rw [List.length_cons] at l4; omega
    refine lc_it (walk_tup (xs := fr.map V.str)) (fun i H' => BoxAt H' a b ∧ (∀ x o, x ≠ a → x ≠ b → x ≠ D → H2 x = some o → H' x = some o) ∧ ∃ ns : List Int, H' D = some (.lst (ns.map V.int)) ∧ ns.length = i ∧ ∀ v ∈ ns, v ≤ 100)
      ⟨B2.upd nDb, fun x o _ _ n e => by rw [upd_ne n]; exact e, [], upd_same, rfl, fun v m => (by cases m)⟩ (fun i H' _ q => SqT.of (q.2.1 _ _ (box_ne B2 h2 (by intro xs z; cases z)).1 (box_ne B2 h2 (by intro xs z; cases z)).2 (ne_of_none h2 hD) h2)) ?_ ?_
    · rintro i y H0 H' hi ⟨B', kp, ns, hd, la, lv⟩ ⟨rfl, ey⟩
      have hi2 : i < fr.length := lfr ▸ hi
      refine ⟨rfl, _, rfl, by show 2 ≤ sizeLine; decide, fun q hq => ?_⟩
      have s3 := same_new (o := .lst [.int 4, .int 40]) hq
      have h3 : (upd H' q (.lst [.int 4, .int 40])) q = some (.lst [.int 4, .int 40]) := upd_same
      have nq := box_new B' hq
      have nqD : q ≠ D := fun e => by rw [e, hd] at hq; cases hq
      have B3 := B'.same s3
      have hd3 := s3 _ _ hd
      have kp3 : ∀ x o, x ≠ a → x ≠ b → x ≠ D → H2 x = some o → (upd H' q (.lst [.int 4, .int 40])) x = some o := fun x o n1 n2 n3 e => s3 _ _ (kp x o n1 n2 n3 e)
      generalize upd H' q (.lst [.int 4, .int 40]) = H3 at s3 h3 B3 hd3 kp3
      refine ⟨_, rfl, a, b, 2, rfl, by decide, by decide, B3, fun r H4 r0 r1 B4 k4 => ?_⟩
      have h34 : H4 q = some (.lst [.int 4, .int 40]) := k4 _ _ nq.1 nq.2 h3
      have nine : ∃ j : Nat, r = j ∧ ([V.int 4, V.int 40] : List V)[j]? = some (.int (if r = 0 then 4 else 40)) := by
        have h : r = 0 ∨ r = 1 := by omega
        rcases h with rfl | rfl
        · exact ⟨0, rfl, rfl⟩
        · exact ⟨1, rfl, rfl⟩
      obtain ⟨j, ej, ej2⟩ := nine
      have bnd : 0 < (if r = 0 then (4 : Int) else 40) ∧ (if r = 0 then (4 : Int) else 40) ≤ 40 := by split <;> omega
      generalize (if r = 0 then (4 : Int) else 40) = n at ej2 bnd
      refine ⟨q, _, r, .int n, rfl, rfl, SqL.of h34, by rw [ej]; exact atI_nat ej2, ?_⟩
      refine ⟨a, b, n, rfl, bnd.1, by omega, B4, fun r2 H5 q0 q1 B5 k5 => ?_⟩
      have hd5 : H5 D = some (.lst (ns.map V.int)) := k5 _ _ nDb.1 nDb.2 (k4 _ _ nDb.1 nDb.2 hd3)
      refine ⟨r2, 2, rfl, rfl, _, hd5, ?_, B5.upd nDb, fun x o n1 n2 n3 e => by rw [upd_ne n3]; exact k5 x o n1 n2 (k4 x o n1 n2 (kp3 x o n1 n2 n3 e)), ns ++ [r2 - 2], by rw [upd_same, List.map_append]; rfl, by rw [List.length_append, la]; rfl, fun v m => ?_⟩
      · rw [List.length_map]
        exact Nat.lt_of_le_of_lt (show ns.length ≤ 3 by omega) (by decide)
      · rcases List.mem_append.mp m with m | m
        · exact lv v m
        · rw [List.mem_singleton.mp m]; omega
    · rintro H' ⟨B', kp, ns, hd, la, lv⟩
      rw [lfr] at la
      have tk2 : TK H2 H' := fun x u hu e => by
        have n := box_ne B2 e (fun xs z => by rw [z] at hu; exact hu)
        exact kp x u n.1 n.2 (ne_of_none e hD) e
      have kH : Keep a b H H' := fun x o n1 n2 e => kp x o n1 n2 (ne_of_none (s12 _ _ e) hD) (s12 _ _ e)
      refine ⟨D, _, rfl, .inl ⟨SqL.of hd, fun p3 hp3 => ?_⟩⟩
      have s4 := same_new (o := .tup (ns.map V.int)) hp3
      have h4 : (upd H' p3 (.tup (ns.map V.int))) p3 = some (.tup (ns.map V.int)) := upd_same
      have h14 := s4 _ _ (tk2.tup h1)
      have B4 := B'.same s4
      have kH4 : Keep a b H (upd H' p3 (.tup (ns.map V.int))) := fun x o n1 n2 e => s4 _ _ (kH x o n1 n2 e)
      generalize upd H' p3 (.tup (ns.map V.int)) = H4 at s4 h4 h14 B4 kH4
      have all : ∀ v ∈ k :: ns, v ≤ 100 := fun v m => by
        rcases List.mem_cons.mp m with m | m
        · rw [m]; exact k100
        · exact lv v m
      refine ⟨p1, p3, _, _, rfl, rfl, SqT.of h14, SqT.of h4, ?_, fun z => (by cases z), fun _ z => ?_, fun _ z p4 hp4 => ?_⟩
      · rw [List.length_map]
        show 1 + ns.length ≤ sizeLine
        exact Nat.le_trans (show _ ≤ 4 by omega) (by decide)
      · have e : ns = [] := by simpa using z
        subst e
        exact kk p1 [k] H4 kH4 B4 h14 (by rw [List.length_cons, List.length_cons]; exact congrArg Nat.succ la) rfl all
      · have s5 := same_new (o := .tup ([V.int k] ++ ns.map V.int)) hp4
        refine kk p4 (k :: ns) _ (fun x o n1 n2 e => s5 _ _ (kH4 x o n1 n2 e)) (B4.same s5) upd_same (by rw [List.length_cons, List.length_cons, la]) rfl all
end
end GS

set_option linter.all false
set_option maxHeartbeats 4000000
namespace EE
open PySem PySem.Spec PyProof.Rows L2 HT
variable {X : Cx}
/-- d == {} -/
def rEq0 : R2 := fun x y H Q => ∃ a b ks, x = .ref a ∧ y = .ref b ∧ H a = some (.dK ks) ∧ H b = some (.dK []) ∧ Q (.bl ks.isEmpty) H
theorem op_eq0 (hu : X.A.units + 66 < cLine) : OpR X (compareOp .Eq) rEq0 := by
  intro pins s σ H x y v u Q I rx ry h
  obtain ⟨a, b, ks, rfl, rfl, ha, hb, q⟩ := h
  obtain rfl : v = Value.ref a := rx
  obtain rfl : u = Value.ref b := ry
  obtain ⟨_, ya, va, ra, da⟩ := (show ObjOk X.prog X.w H s.heap a (.dK ks) from I.hok a _ ha)
  obtain ⟨_, yb, vb, rb, db⟩ := (show ObjOk X.prog X.w H s.heap b (.dK []) from I.hok b _ hb)
  cases rb
  have lr := ra.length
  refine PySem.W.keq_eq (knd := mixKind X.prog X.w) (r := true) ya yb da db (by omega) (fun e => ?_) ?_
  · cases va with
    | nil => exact .nil
    | cons p va => cases e
  · cases ks with
    | nil => cases ra; exact ⟨.bl true, H, I, rfl, q⟩
    | cons p ks => cases ra; exact ⟨.bl false, H, I, rfl, q⟩
theorem mergeK_nd : ∀ (more kvs : List (Key × V)), ((kvs ++ more).map (·.1)).Nodup → mergeK kvs more = kvs ++ more
  | [], kvs, _ => by show kvs = _; rw [List.append_nil]
  | p :: more, kvs, nd => by
    have nv : valV kvs p.1 = none := GS.valV_none fun m => by
      rw [List.map_append, List.map_cons] at nd
      exact (List.nodup_append.mp nd).2.2 _ m _ (List.mem_cons_self ..) rfl
    show mergeK (putK kvs p.1 p.2) more = _
    rw [putK_new _ nv, mergeK_nd more (kvs ++ [(p.1, p.2)]) (by simpa using nd)]
    simp
end EE

set_option linter.all false
set_option maxHeartbeats 4000000
namespace GS
open PySem L2 HX
def wrB (B : BC) (n : Int) : Wr → BC
  | .tab z fs => { B with tabs := B.tabs ++ [(z, n, fs)] }
  | .idx t f => { B with made := B.made ++ [((t, f), n)] }
  | .row t k r => { B with kept := B.kept ++ [(t, k, n, r)] }
def wrsB (B : BC) (n : Int) : List Wr → BC
  | [] => B
  | w :: ws => wrsB (wrB B n w) n ws
def WrOkB (B : BC) : Wr → Prop
  | .tab z _ => z ∉ B.tabs.map (fun t => t.1) ∧ B.tabs.length < 10
  | .idx t f => (t, f) ∉ B.made.map (fun m => m.1) ∧ B.made.length < 100
  | .row t k _ => t ∈ B.tabs.map (fun t => t.1) ∧ 0 ≤ k ∧ k < 60 ∧ B.kept.length < 100000
def WrsOkB (B : BC) (n : Int) : List Wr → Prop
  | [] => True
  | w :: ws => WrOkB B w ∧ WrsOkB (wrB B n w) n ws
theorem wrsB_snoc (n : Int) (w : Wr) : ∀ (ws : List Wr) (B : BC), wrsB B n (ws ++ [w]) = wrB (wrsB B n ws) n w
  | [], _ => rfl
  | x :: ws, B => wrsB_snoc n w ws (wrB B n x)
theorem wrsB_at {n : Int} {w : Wr} : ∀ {ws : List Wr} {B : BC} {i : Nat}, WrsOkB B n ws → ws[i]? = some w → WrOkB (wrsB B n (ws.take i)) w
  | [], _, i, _, e => by simp at e
  | x :: ws, B, 0, h, e => by
    obtain rfl : x = w := by simpa using e
    exact h.1
  | x :: ws, B, i + 1, h, e => wrsB_at (ws := ws) (B := wrB B n x) h.2 (by simpa using e)
section
variable {K : PySem.W.Frag} {H : Hp} {own : List Addr} {bk : Addr} {B : BC}
theorem g_all : (∀ x y z w : V, valV [((Sum.inr (Str.ofString "tables") : Key), x), (Sum.inr (Str.ofString "made"), y), (Sum.inr (Str.ofString "states"), z), (Sum.inr (Str.ofString "kept"), w)] (Sum.inr (Str.ofString "tables")) = some x) ∧
    (∀ x y z w : V, valV [((Sum.inr (Str.ofString "tables") : Key), x), (Sum.inr (Str.ofString "made"), y), (Sum.inr (Str.ofString "states"), z), (Sum.inr (Str.ofString "kept"), w)] (Sum.inr (Str.ofString "made")) = some y) ∧
    (∀ x y z w : V, valV [((Sum.inr (Str.ofString "tables") : Key), x), (Sum.inr (Str.ofString "made"), y), (Sum.inr (Str.ofString "states"), z), (Sum.inr (Str.ofString "kept"), w)] (Sum.inr (Str.ofString "states")) = some z) ∧
    ∀ x y z w : V, valV [((Sum.inr (Str.ofString "tables") : Key), x), (Sum.inr (Str.ofString "made"), y), (Sum.inr (Str.ofString "states"), z), (Sum.inr (Str.ofString "kept"), w)] (Sum.inr (Str.ofString "kept")) = some w := by
  have d1 : ¬ ((Sum.inr (Str.ofString "tables") : Key) = Sum.inr (Str.ofString "made")) := by decide +kernel
  have d2 : ¬ ((Sum.inr (Str.ofString "tables") : Key) = Sum.inr (Str.ofString "states")) := by decide +kernel
  have d3 : ¬ ((Sum.inr (Str.ofString "tables") : Key) = Sum.inr (Str.ofString "kept")) := by decide +kernel
  have d4 : ¬ ((Sum.inr (Str.ofString "made") : Key) = Sum.inr (Str.ofString "states")) := by decide +kernel
  have d5 : ¬ ((Sum.inr (Str.ofString "made") : Key) = Sum.inr (Str.ofString "kept")) := by decide +kernel
  have d6 : ¬ ((Sum.inr (Str.ofString "states") : Key) = Sum.inr (Str.ofString "kept")) := by decide +kernel
  refine ⟨fun x y z w => valV_pos rfl, fun x y z w => (valV_neg d1).trans (valV_pos rfl), fun x y z w => (valV_neg d2).trans ((valV_neg d4).trans (valV_pos rfl)), fun x y z w => (valV_neg d3).trans ((valV_neg d5).trans ((valV_neg d6).trans (valV_pos rfl)))⟩
theorem BAt.g1 (x : BAt K H own bk B) : DGet H bk (.str (Str.ofString "tables")) (some (.ref B.tb)) := g_all.1 (.ref B.tb) (.ref B.md) (.ref B.st) (.ref B.kp) ▸ DGet.k (k := Sum.inr (Str.ofString "tables")) x.h0
theorem BAt.g2 (x : BAt K H own bk B) : DGet H bk (.str (Str.ofString "made")) (some (.ref B.md)) := g_all.2.1 (.ref B.tb) (.ref B.md) (.ref B.st) (.ref B.kp) ▸ DGet.k (k := Sum.inr (Str.ofString "made")) x.h0
theorem BAt.g3 (x : BAt K H own bk B) : DGet H bk (.str (Str.ofString "states")) (some (.ref B.st)) := g_all.2.2.1 (.ref B.tb) (.ref B.md) (.ref B.st) (.ref B.kp) ▸ DGet.k (k := Sum.inr (Str.ofString "states")) x.h0
theorem BAt.g4 (x : BAt K H own bk B) : DGet H bk (.str (Str.ofString "kept")) (some (.ref B.kp)) := g_all.2.2.2 (.ref B.tb) (.ref B.md) (.ref B.st) (.ref B.kp) ▸ DGet.k (k := Sum.inr (Str.ofString "kept")) x.h0
/-- what is changed at one of the book's own places, or at a new one -/
theorem BAt.notup (x : BAt K H own bk B) {b : Addr} (hb : b ∈ bfp own bk B) : ∃ o, H b = some o ∧ ¬ TupO o := by
  obtain ⟨kvs, t1, _⟩ := x.tb
  obtain ⟨vs, p1, _⟩ := x.kp
  obtain ⟨us, u1, _⟩ := x.st
  simp only [bfp, List.mem_cons] at hb
  rcases hb with h | h | h | h | h | h
  · exact ⟨_, h ▸ x.h0, by intro z; exact z⟩
  · exact ⟨_, h ▸ t1, by intro z; exact z⟩
  · exact ⟨_, h ▸ x.md, by intro z; exact z⟩
  · exact ⟨_, h ▸ u1, by intro z; exact z⟩
  · exact ⟨_, h ▸ p1, by intro z; exact z⟩
  · exact x.ex b h
/-- a table is written down -/
theorem BAt.addTab {z : Str} {n : Int} {fs : List Str} {p f : Addr} {kvs : List (Key × V)} (x : BAt K H own bk B) (h1 : H B.tb = some (.dK kvs)) (h2 : Paired (TinAt K H) kvs B.tabs) (nz : z ∉ B.tabs.map (fun t => t.1)) (hp : SqT K H p [.int n, .ref f]) (hf : BT K H f (fs.map V.str)) :
    BAt K (upd H B.tb (.dK (putK kvs (Sum.inr z) (.ref p)))) own bk { B with tabs := B.tabs ++ [(z, n, fs)] } := by
  have tk : TK H (upd H B.tb (.dK (putK kvs (Sum.inr z) (.ref p)))) := fun b u hu e => by rw [upd_ne (ne_of e h1 (by intro z; subst z; exact hu))]; exact e
  have o : ∀ b o, b ≠ B.tb → H b = some o → (upd H B.tb (.dK (putK kvs (Sum.inr z) (.ref p)))) b = some o := fun b o n e => by rw [upd_ne n]; exact e
  obtain ⟨vs, p1, p2⟩ := x.kp
  obtain ⟨us, u1, u2⟩ := x.st
  have nk : (Sum.inr z : Key) ∉ kvs.map (·.1) := fun m => by
    obtain ⟨kv, mk, e⟩ := List.mem_map.mp m
    obtain ⟨i, ei⟩ := List.mem_iff_getElem?.mp mk
    obtain ⟨t, et, e1, _⟩ := pw_get' h2 ei
    have e1 : kv.1 = Sum.inr t.1 := e1
    have e2 : z = t.1 := Sum.inr.inj (e.symm.trans e1)
    exact nz (by rw [e2]; exact List.mem_map_of_mem (f := fun t : Tin => t.1) (List.mem_of_getElem? et))
  refine ⟨o _ _ x.ne.1 x.h0, ⟨_, upd_same, ?_⟩, o _ _ (ne_of x.md h1 (by intro z; cases z)) x.md, ⟨vs, o _ _ (ne_of p1 h1 (by intro z; cases z)) p1, kpt_keep tk p2⟩, ⟨us, o _ _ (ne_of u1 h1 (by intro z; cases z)) u1, pw_imp (fun _ _ h => h.keep (fun b hb q e => o b q (x.no b hb).2.1 e) tk fun _ m => m) u2⟩, x.ne, x.no, fun b hb => ?_⟩
  · have g := pw_app (tin_keep tk h2) (.cons (b := ((z, n, fs) : Tin)) (a := ((Sum.inr z : Key), V.ref p)) ⟨rfl, p, f, rfl, sqt_keep tk hp, hf.keep tk⟩ .nil)
    rw [← putK_new (V.ref p) (valV_none nk)] at g
    exact g
  · obtain ⟨q, e, nt⟩ := x.ex b hb
    exact ⟨q, o b q (x.no b hb).2.1 e, nt⟩
/-- an index is written down -/
theorem BAt.addMade {t f : Str} {n : Int} (x : BAt K H own bk B) (nz : (t, f) ∉ B.made.map (fun m => m.1)) :
    BAt K (upd H B.md (.dT (putK (mdkv B.made) [Sum.inr t, Sum.inr f] (.int n)))) own bk { B with made := B.made ++ [((t, f), n)] } := by
  have tk : TK H (upd H B.md (.dT (putK (mdkv B.made) [Sum.inr t, Sum.inr f] (.int n)))) := fun b u hu e => by rw [upd_ne (ne_of e x.md (by intro z; subst z; exact hu))]; exact e
  have o : ∀ b o, b ≠ B.md → H b = some o → (upd H B.md (.dT (putK (mdkv B.made) [Sum.inr t, Sum.inr f] (.int n)))) b = some o := fun b o n e => by rw [upd_ne n]; exact e
  obtain ⟨kvs, t1, t2⟩ := x.tb
  obtain ⟨vs, p1, p2⟩ := x.kp
  obtain ⟨us, u1, u2⟩ := x.st
  have own_ne : ∀ b, (∃ xs, H b = some (.dK xs)) → b ≠ B.md := fun b ⟨xs, e⟩ => ne_of e x.md (by intro z; cases z)
  have nk : ([Sum.inr t, Sum.inr f] : List L2.Key) ∉ (mdkv B.made).map (·.1) := fun m => by
    unfold mdkv at m
    rw [List.map_map] at m
    obtain ⟨q, mq, e⟩ := List.mem_map.mp m
    have e : ([Sum.inr q.1.1, Sum.inr q.1.2] : List L2.Key) = [Sum.inr t, Sum.inr f] := e
    injection e with e1 e2
    injection e2 with e2 _
    exact nz (List.mem_map.mpr ⟨q, mq, Prod.ext (Sum.inr.inj e1) (Sum.inr.inj e2)⟩)
  refine ⟨o _ _ (own_ne _ ⟨_, x.h0⟩) x.h0, ⟨kvs, o _ _ (own_ne _ ⟨_, t1⟩) t1, tin_keep tk t2⟩, ?_, ⟨vs, o _ _ (ne_of p1 x.md (by intro z; cases z)) p1, kpt_keep tk p2⟩, ⟨us, o _ _ (ne_of u1 x.md (by intro z; cases z)) u1, pw_imp (fun _ _ h => h.keep (fun b hb q e => o b q (x.no b hb).2.2.1 e) tk fun _ m => m) u2⟩, x.ne, x.no, fun b hb => ?_⟩
  · refine upd_same.trans ?_
    rw [putK_new _ (valV_none nk)]
    show some (HO.dT _) = some (HO.dT (mdkv (B.made ++ [((t, f), n)])))
    unfold mdkv
    rw [List.map_append]
    rfl
  · obtain ⟨q, e, nt⟩ := x.ex b hb
    by_cases z : b = B.md
    · exact ⟨_, by rw [z]; exact upd_same, by intro z; exact z⟩
    · exact ⟨q, o b q z e, nt⟩
theorem kpt_keep1 {H' : Hp} (t : TK H H') {x : Kpt} {v : V} (h : KptAt K H x v) : KptAt K H' x v := by
  obtain ⟨p, rv, a, b, c⟩ := h
  exact ⟨p, rv, a, sqt_keep t b, c.keep t⟩
/-- a row is written down -/
theorem BAt.addKept {y : Kpt} {v : V} {vs : List V} (x : BAt K H own bk B) (h1 : H B.kp = some (.lst vs)) (h2 : Paired (KptAt K H) B.kept vs) (hv : KptAt K H y v) :
    BAt K (upd H B.kp (.lst (vs ++ [v]))) own bk { B with kept := B.kept ++ [y] } := by
  have tk : TK H (upd H B.kp (.lst (vs ++ [v]))) := fun b u hu e => by rw [upd_ne (ne_of e h1 (by intro z; subst z; exact hu))]; exact e
  have o : ∀ b o, b ≠ B.kp → H b = some o → (upd H B.kp (.lst (vs ++ [v]))) b = some o := fun b o n e => by rw [upd_ne n]; exact e
  obtain ⟨kvs, t1, t2⟩ := x.tb
  obtain ⟨us, u1, u2⟩ := x.st
  have own_ne : ∀ b, (∃ xs, H b = some (.dK xs)) → b ≠ B.kp := fun b ⟨xs, e⟩ => ne_of e h1 (by intro z; cases z)
  refine ⟨o _ _ (own_ne _ ⟨_, x.h0⟩) x.h0, ⟨kvs, o _ _ (own_ne _ ⟨_, t1⟩) t1, tin_keep tk t2⟩, o _ _ (ne_of x.md h1 (by intro z; cases z)) x.md, ⟨_, upd_same, pw_app (kpt_keep tk h2) (.cons (kpt_keep1 tk hv) .nil)⟩, ⟨us, o _ _ x.ne.2 u1, pw_imp (fun _ _ h => h.keep (fun b hb q e => o b q (x.no b hb).2.2.2.2 e) tk fun _ m => m) u2⟩, x.ne, x.no, fun b hb => ?_⟩
  obtain ⟨q, e, nt⟩ := x.ex b hb
  by_cases z : b = B.kp
  · exact ⟨_, by rw [z]; exact upd_same, by intro z; exact z⟩
  · exact ⟨q, o b q z e, nt⟩
end
end GS

set_option linter.all false
set_option maxHeartbeats 4000000
namespace GS
open PySem L2 HX
/-! ### states, as data -/
def putR (rs : Rws) (k : Int) (ns : Row) : Rws := if (rs.any fun x => decide (x.1 = k)) = true then rs.map (fun x => if x.1 = k then (x.1, ns) else x) else rs ++ [(k, ns)]
def dropR (rs : Rws) (k : Int) : Rws := rs.filter fun x => decide (x.1 ≠ k)
def rowR (rs : Rws) (k : Int) : Option Row → Rws
  | some ns => putR rs k ns
  | none => dropR rs k
def setS (s : StD) (t : Str) (g : Rws → Rws) : StD := s.map fun x => if x.1 = t then (x.1, g x.2) else x
def wrS (s : StD) : Wr → StD
  | .tab z _ => s ++ [(z, [])]
  | .idx _ _ => s
  | .row t k r => setS s t fun rs => rowR rs k r
def wrsS (s : StD) (ws : List Wr) : StD := ws.foldl wrS s
theorem wrsS_snoc (s : StD) (ws : List Wr) (w : Wr) : wrsS s (ws ++ [w]) = wrS (wrsS s ws) w := by
  unfold wrsS
  rw [List.foldl_append]; rfl
theorem rk_any {H : Hp} {k : Int} : ∀ {rkv : List (Key × V)} {rs : Rws}, Paired (RkR H) rkv rs → (rkv.any fun kv => decide (kv.1 = (Sum.inl k : Key))) = rs.any fun x => decide (x.1 = k)
  | _, _, .nil => rfl
  | _, x :: rs, .cons (a := kv) h r => by
    rw [List.any_cons, List.any_cons, rk_any r, h.1]
    congr 1
    by_cases c : x.1 = k
    · rw [c, decide_eq_true rfl, decide_eq_true rfl]
    · rw [decide_eq_false c, decide_eq_false fun e => c (Sum.inl.inj e)]
theorem rk_map {H : Hp} {k : Int} {ns : Row} {rv : V} (hv : RowAt H (some ns) rv) : ∀ {rkv : List (Key × V)} {rs : Rws}, Paired (RkR H) rkv rs → Paired (RkR H) (rkv.map fun kv => if kv.1 = Sum.inl k then (kv.1, rv) else kv) (rs.map fun x => if x.1 = k then (x.1, ns) else x)
  | _, _, .nil => .nil
  | _, x :: rs, .cons (a := kv) h r => by
    rw [List.map_cons, List.map_cons]
    refine .cons ?_ (rk_map hv r)
    by_cases c : x.1 = k
    · rw [if_pos c, if_pos (by rw [h.1, c])]
      exact ⟨h.1, hv⟩
    · rw [if_neg c, if_neg (by rw [h.1]; exact fun e => c (Sum.inl.inj e))]
      exact h
theorem rk_put {H : Hp} {k : Int} {ns : Row} {rv : V} (hv : RowAt H (some ns) rv) {rkv : List (Key × V)} {rs : Rws} (h : Paired (RkR H) rkv rs) : Paired (RkR H) (putK rkv (Sum.inl k) rv) (putR rs k ns) := by
  unfold putK putR
  rw [rk_any h]
  split
  · exact rk_map hv h
  · exact pw_app h (.cons ⟨rfl, hv⟩ .nil)
theorem rk_drop {H : Hp} {k : Int} : ∀ {rkv : List (Key × V)} {rs : Rws}, Paired (RkR H) rkv rs → Paired (RkR H) (rkv.filter fun kv => decide (kv.1 ≠ Sum.inl k)) (dropR rs k)
  | _, _, .nil => .nil
  | _, x :: rs, .cons (a := kv) h r => by
    unfold dropR
    by_cases c : x.1 = k
    · rw [List.filter_cons_of_neg (by rw [h.1, c]; simp), List.filter_cons_of_neg (by simp [c])]
      exact rk_drop r
    · rw [List.filter_cons_of_pos (by rw [h.1]; simpa using c), List.filter_cons_of_pos (by simpa using c)]
      exact .cons h (rk_drop r)
theorem drop_put {rkv : List (Key × V)} {k : Int} {v : V} : dropK (putK rkv (Sum.inl k) v) (Sum.inl k) = rkv.filter fun kv => decide (kv.1 ≠ Sum.inl k) := by
  unfold dropK putK
  split
  · rw [List.filter_map]
    have e : ((fun kv : Key × V => decide (kv.1 ≠ Sum.inl k)) ∘ fun kv : Key × V => if kv.1 = Sum.inl k then (kv.1, v) else kv) = fun kv => decide (kv.1 ≠ Sum.inl k) := funext fun x => by
      show decide ((if x.1 = Sum.inl k then (x.1, v) else x).1 ≠ Sum.inl k) = decide (x.1 ≠ Sum.inl k)
      split <;> rfl
    rw [e]
    have e2 : ∀ l : List (Key × V), (∀ p ∈ l, p.1 ≠ Sum.inl k) → l.map (fun kv : Key × V => if kv.1 = Sum.inl k then (kv.1, v) else kv) = l := fun l h => by
      have q : l.map (fun kv : Key × V => if kv.1 = Sum.inl k then (kv.1, v) else kv) = l.map id := List.map_congr_left fun p hp => if_neg (h p hp)
      rw [q, List.map_id]
    exact e2 _ fun p hp => of_decide_eq_true (List.mem_filter.mp hp).2
  · rw [List.filter_append]
    simp
theorem skvS_keys : ∀ {s : StD} {rl : List Addr}, rl.length = s.length → (skvS s rl).map (·.1) = s.map fun x => (Sum.inr x.1 : Key)
  | [], [], _ => rfl
  | x :: s, r :: rl, h => by
    show (Sum.inr x.1 : Key) :: (skvS s rl).map (·.1) = _
    rw [skvS_keys (by simpa using h)]; rfl
  | [], _ :: _, h => by cases h
  | _ :: _, [], h => by cases h
theorem skvS_app : ∀ {s : StD} {rl : List Addr} {x : Str × Rws} {r : Addr}, rl.length = s.length → skvS (s ++ [x]) (rl ++ [r]) = skvS s rl ++ [(Sum.inr x.1, .ref r)]
  | [], [], _, _, _ => rfl
  | y :: s, q :: rl, x, r, h => by
    show _ :: skvS (s ++ [x]) (rl ++ [r]) = _
    rw [skvS_app (by simpa using h)]; rfl
  | [], _ :: _, _, _, h => by cases h
  | _ :: _, [], _, _, h => by cases h
theorem skvS_set {t : Str} {g : Rws → Rws} : ∀ {s : StD} {rl : List Addr}, skvS (setS s t g) rl = skvS s rl
  | [], _ => rfl
  | x :: s, [] => by
    show skvS ((if x.1 = t then (x.1, g x.2) else x) :: setS s t g) [] = _
    rfl
  | x :: s, r :: rl => by
    show (Sum.inr (if x.1 = t then (x.1, g x.2) else x).1, V.ref r) :: skvS (setS s t g) rl = (Sum.inr x.1, V.ref r) :: skvS s rl
    rw [skvS_set (s := s) (rl := rl)]
    split <;> rfl
/-- the place of a table's rows -/
theorem skvS_get {H : Hp} {t : Str} : ∀ {s : StD} {rl : List Addr}, Paired (fun r (x : Str × Rws) => RwAt H r x.2) rl s → t ∈ s.map (fun x => x.1) → ∃ r x, r ∈ rl ∧ x ∈ s ∧ x.1 = t ∧ valV (skvS s rl) (Sum.inr t : Key) = some (.ref r) ∧ RwAt H r x.2
  | _, _, .nil, h => by cases h
  | x :: s, r :: rl, .cons h p, m => by
    by_cases c : x.1 = t
    · exact ⟨r, x, List.mem_cons_self .., List.mem_cons_self .., c, valV_pos (p := (Sum.inr x.1, V.ref r)) (by rw [c]), h⟩
    · have m : t ∈ s.map fun x => x.1 := by
        rcases List.mem_cons.mp m with m | m
        · exact absurd m.symm c
        · exact m
      obtain ⟨r', x', h1, h2, h3, h4, h5⟩ := skvS_get p m
      exact ⟨r', x', List.mem_cons_of_mem _ h1, List.mem_cons_of_mem _ h2, h3, (valV_neg (p := (Sum.inr x.1, V.ref r)) fun e => c (Sum.inr.inj e)).trans h4, h5⟩
/-- at one place the rows become others -/
theorem rws_set {H H' : Hp} {t : Str} {g : Rws → Rws} {r0 : Addr} (tk : TK H H') (o : ∀ b o, b ≠ r0 → H b = some o → H' b = some o) : ∀ {s : StD} {rl : List Addr}, rl.Nodup → (s.map fun x => x.1).Nodup → Paired (fun r (x : Str × Rws) => RwAt H r x.2) rl s → valV (skvS s rl) (Sum.inr t : Key) = some (.ref r0) → (∀ x ∈ s, x.1 = t → RwAt H' r0 (g x.2)) →
    Paired (fun r (x : Str × Rws) => RwAt H' r x.2) rl (setS s t g)
  | [], _, _, _, .nil, _, _ => .nil
  | x :: s, r :: rl, nr, ns, .cons h p, e, hg => by
    obtain ⟨n1, n2⟩ := List.nodup_cons.mp nr
    obtain ⟨m1, m2⟩ := List.nodup_cons.mp ns
    show Paired _ (r :: rl) ((if x.1 = t then (x.1, g x.2) else x) :: setS s t g)
    by_cases c : x.1 = t
    · rw [if_pos c]
      have er : r = r0 := by
        rw [show valV (skvS (x :: s) (r :: rl)) (Sum.inr t : Key) = some (.ref r) from valV_pos (p := (Sum.inr x.1, V.ref r)) (by rw [c])] at e
        injection e with e; injection e
      subst er
      have rest : setS s t g = s := by
        unfold setS
        have q : s.map (fun x => if x.1 = t then (x.1, g x.2) else x) = s.map id := List.map_congr_left fun y hy => if_neg fun e => m1 (List.mem_map.mpr ⟨y, hy, e.trans c.symm⟩)
        rw [q, List.map_id]
      rw [rest]
      refine .cons (hg x (List.mem_cons_self ..) c) (rws_keep tk (fun b m q e => o b q (fun z => n1 (by rw [← z]; exact m)) e) p)
    · rw [if_neg c]
      have e2 : valV (skvS s rl) (Sum.inr t : Key) = some (.ref r0) := (valV_neg (p := (Sum.inr x.1, V.ref r)) fun e => c (Sum.inr.inj e)).symm.trans e
      have m0 : r0 ∈ rl := by
        have z : t ∈ s.map fun x => x.1 := by
          by_cases q : t ∈ s.map fun x => x.1
          · exact q
          · have nv : valV (skvS s rl) (Sum.inr t : Key) = none := valV_none fun m => by
              rw [skvS_keys (pw_len p)] at m
              obtain ⟨y, hy, ey⟩ := List.mem_map.mp m
              exact q (List.mem_map.mpr ⟨y, hy, Sum.inr.inj ey⟩)
            rw [nv] at e2; cases e2
        obtain ⟨r', _, h1, _, _, h4, _⟩ := skvS_get p z
        rw [e2] at h4
        injection h4 with h4; injection h4 with h4
        rw [h4]; exact h1
      refine .cons (h.keep (fun q e => o r q (fun z => n1 (by rw [z]; exact m0)) e) tk) (rws_set tk o n2 m2 p e2 fun y hy => hg y (List.mem_cons_of_mem _ hy))
end GS

set_option linter.all false
set_option maxHeartbeats 4000000
namespace GS
open PySem L2 HX
theorem BAt.same' {K : PySem.W.Frag} {H H' : Hp} {own : List Addr} {bk : Addr} {B : BC} (x : BAt K H own bk B) (s : Same H H') : BAt K H' own bk B := x.keep (fun b _ o e => s b o e) (TK.same s)
theorem paired_snoc' {α β : Type} {R : α → β → Prop} : ∀ {pre : List α} {x : α} {us : List β}, Paired R (pre ++ [x]) us → ∃ pre' y, us = pre' ++ [y] ∧ Paired R pre pre' ∧ R x y
  | [], x, _, .cons h .nil => ⟨[], _, rfl, .nil, h⟩
  | a :: pre, x, _, .cons h r => by
    obtain ⟨p, y, e, g1, g2⟩ := paired_snoc' (pre := pre) r
    exact ⟨_ :: p, y, by rw [e]; rfl, .cons h g1, g2⟩
/-- a state is written down -/
theorem BAt.addState {K : PySem.W.Frag} {H : Hp} {own ownN : List Addr} {bk : Addr} {B : BC} {s : StD} {v : V} {us : List V} (x : BAt K H own bk B) (h1 : H B.st = some (.lst us)) (h2 : Paired (StIn H own) B.states us) (hv : StAt H ownN s v) (nd : ownN.Nodup) (n1 : ∀ b ∈ ownN, b ≠ bk ∧ b ≠ B.tb ∧ b ≠ B.md ∧ b ≠ B.st ∧ b ≠ B.kp) (ex : ∀ b ∈ ownN, ∃ o, H b = some o ∧ ¬ TupO o) :
    BAt K (upd H B.st (.lst (us ++ [v]))) (own ++ ownN) bk { B with states := B.states ++ [s] } := by
  have tk : TK H (upd H B.st (.lst (us ++ [v]))) := fun b u hu e => by rw [upd_ne (ne_of e h1 (by intro z; subst z; exact hu))]; exact e
  have o : ∀ b o, b ≠ B.st → H b = some o → (upd H B.st (.lst (us ++ [v]))) b = some o := fun b o n e => by rw [upd_ne n]; exact e
  obtain ⟨kvs, t1, t2⟩ := x.tb
  obtain ⟨vs, p1, p2⟩ := x.kp
  refine ⟨o _ _ (ne_of x.h0 h1 (by intro z; cases z)) x.h0, ⟨kvs, o _ _ (ne_of t1 h1 (by intro z; cases z)) t1, tin_keep tk t2⟩, o _ _ (ne_of x.md h1 (by intro z; cases z)) x.md, ⟨vs, o _ _ (Ne.symm x.ne.2) p1, kpt_keep tk p2⟩, ⟨_, upd_same, pw_app (pw_imp (fun _ _ h => h.keep (fun b hb q e => o b q (x.no b hb).2.2.2.1 e) tk fun b m => List.mem_append_left _ m) h2) (.cons ⟨ownN, fun b m => List.mem_append_right _ m, nd, hv.keep (fun b hb q e => o b q (n1 b hb).2.2.2.1 e) tk⟩ .nil)⟩, x.ne, fun b hb => (List.mem_append.mp hb).elim (x.no b) (n1 b), fun b hb => ?_⟩
  have g : (∃ o, H b = some o ∧ ¬ TupO o) ∧ b ≠ B.st := (List.mem_append.mp hb).elim (fun m => ⟨x.ex b m, (x.no b m).2.2.2.1⟩) fun m => ⟨ex b m, (n1 b m).2.2.2.1⟩
  obtain ⟨⟨q, e, nt⟩, z⟩ := g
  exact ⟨q, o b q z e, nt⟩
theorem wrsB_addr (n : Int) : ∀ (ws : List Wr) (B : BC), (wrsB B n ws).tb = B.tb ∧ (wrsB B n ws).md = B.md ∧ (wrsB B n ws).st = B.st ∧ (wrsB B n ws).kp = B.kp ∧ (wrsB B n ws).states = B.states
  | [], _ => ⟨rfl, rfl, rfl, rfl, rfl⟩
  | w :: ws, B => by
    have h := wrsB_addr n ws (wrB B n w)
    cases w <;> exact h
structure RsOk (rs : Rws) : Prop where
  nd : (rs.map fun x => x.1).Nodup
  bd : ∀ x ∈ rs, 0 ≤ x.1 ∧ x.1 < 60
theorem RsOk.len {rs : Rws} (h : RsOk rs) : rs.length ≤ 60 := by
  have z := nodup_le (rs.map fun x => x.1) ((List.range 60).map fun i => ((i : Nat) : Int)) h.nd fun y my => by
    obtain ⟨p0, hp0, rfl⟩ := List.mem_map.mp my
    have b := h.bd p0 hp0
    exact List.mem_map.mpr ⟨p0.1.toNat, List.mem_range.mpr (by omega), by rw [Int.toNat_of_nonneg b.1]⟩
  rw [List.length_map, List.length_map, List.length_range] at z
  exact z
theorem RsOk.put {rs : Rws} {k : Int} {ns : Row} (h : RsOk rs) (b : 0 ≤ k ∧ k < 60) : RsOk (putR rs k ns) := by
  unfold putR
  split
  · refine ⟨?_, fun x hx => ?_⟩
    · rw [List.map_map]
      have e : ((fun x : Int × Row => x.1) ∘ fun x : Int × Row => if x.1 = k then (x.1, ns) else x) = fun x => x.1 := funext fun x => by
        show (if x.1 = k then (x.1, ns) else x).1 = x.1
        split <;> rfl
      rw [e]; exact h.nd
    · obtain ⟨y, hy, rfl⟩ := List.mem_map.mp hx
      have := h.bd y hy
      split <;> exact this
  · rename_i hn
    refine ⟨?_, fun x hx => ?_⟩
    · rw [List.map_append]
      refine List.nodup_append.mpr ⟨h.nd, List.nodup_cons.mpr ⟨List.not_mem_nil, List.nodup_nil⟩, fun a ha c hc e => hn ?_⟩
      rw [List.mem_singleton.mp hc] at e
      obtain ⟨p, hp, ep⟩ := List.mem_map.mp ha
      exact List.any_eq_true.mpr ⟨p, hp, decide_eq_true (ep.trans e)⟩
    · rcases List.mem_append.mp hx with m | m
      · exact h.bd x m
      · rw [List.mem_singleton.mp m]; exact b
theorem RsOk.drop {rs : Rws} {k : Int} (h : RsOk rs) : RsOk (dropR rs k) := ⟨h.nd.sublist (List.filter_sublist.map _), fun x hx => h.bd x (List.mem_filter.mp hx).1⟩
/-- a state that fits the book's tables -/
structure SOk (s : StD) (B : BC) : Prop where
  nm : (s.map fun x => x.1) = B.tabs.map fun t => t.1
  rs : ∀ x ∈ s, RsOk x.2
theorem setS_names (s : StD) (t : Str) (g : Rws → Rws) : ((setS s t g).map fun x => x.1) = s.map fun x => x.1 := by
  unfold setS
  rw [List.map_map]
  refine List.map_congr_left fun x _ => ?_
  show (if x.1 = t then (x.1, g x.2) else x).1 = x.1
  split <;> rfl
theorem SOk.wr {s : StD} {B : BC} {n : Int} (h : SOk s B) : ∀ {w : Wr}, WrOkB B w → SOk (wrS s w) (wrB B n w)
  | .tab z fs, _ => by
    refine ⟨?_, fun x hx => ?_⟩
    · show ((s ++ [(z, ([] : Rws))]).map fun x => x.1) = (B.tabs ++ [(z, n, fs)]).map fun t => t.1
      rw [List.map_append, List.map_append, h.nm]; rfl
    · rcases List.mem_append.mp (show x ∈ s ++ [(z, ([] : Rws))] from hx) with m | m
      · exact h.rs x m
      · rw [List.mem_singleton.mp m]; exact ⟨List.nodup_nil, fun x h => by cases h⟩
  | .idx t f, _ => ⟨h.nm, h.rs⟩
  | .row t k r, ⟨_, k0, k1, _⟩ => by
    refine ⟨(setS_names s t fun rs => rowR rs k r).trans h.nm, fun x hx => ?_⟩
    obtain ⟨y, hy, rfl⟩ := List.mem_map.mp (show x ∈ s.map fun x => if x.1 = t then (x.1, rowR x.2 k r) else x from hx)
    split
    · cases r with
      | some ns => exact (h.rs y hy).put ⟨k0, k1⟩
      | none => exact (h.rs y hy).drop
    · exact h.rs y hy
theorem SOk.at_ {n : Int} {s : StD} {B : BC} (h : SOk s B) {ws : List Wr} (ok : WrsOkB B n ws) : ∀ i, i ≤ ws.length → SOk (wrsS s (ws.take i)) (wrsB B n (ws.take i))
  | 0, _ => by rw [List.take_zero]; exact h
  | i + 1, hi => by
    have e : ws[i]? = some ws[i] := List.getElem?_eq_getElem hi
    have e1 : ws.take (i + 1) = ws.take i ++ [ws[i]] := by rw [List.take_add_one, e]; rfl
    rw [e1, wrsS_snoc, wrsB_snoc]
    exact (SOk.at_ h ok i (by omega)).wr (wrsB_at ok e)
theorem wrsB_nd {n : Int} {B : BC} {ws : List Wr} (ok : WrsOkB B n ws) : ∀ i, i ≤ ws.length → (B.tabs.map fun t => t.1).Nodup → ((wrsB B n (ws.take i)).tabs.map fun t => t.1).Nodup
  | 0, _, h => by rw [List.take_zero]; exact h
  | i + 1, hi, h => by
    have e : ws[i]? = some ws[i] := List.getElem?_eq_getElem hi
    have e1 : ws.take (i + 1) = ws.take i ++ [ws[i]] := by rw [List.take_add_one, e]; rfl
    have ih := wrsB_nd ok i (by omega) h
    have w1 := wrsB_at ok e
    rw [e1, wrsB_snoc]
    generalize ws[i] = w at w1
    generalize wrsB B n (ws.take i) = Bi at ih w1
    cases w with
    | tab z fs =>
      show ((Bi.tabs ++ [(z, n, fs)]).map fun t => t.1).Nodup
      rw [List.map_append]
      refine List.nodup_append.mpr ⟨ih, List.nodup_cons.mpr ⟨List.not_mem_nil, List.nodup_nil⟩, fun a ha b hb e => w1.1 ?_⟩
      rw [List.mem_singleton.mp hb] at e
      rw [show z = a from e.symm]; exact ha
    | idx t f => exact ih
    | row t k r => exact ih
theorem skvS_at {q : Key × V} : ∀ {s : StD} {rl : List Addr} {i : Nat}, (skvS s rl)[i]? = some q → ∃ x r, s[i]? = some x ∧ rl[i]? = some r ∧ q = (Sum.inr x.1, V.ref r)
  | x :: s, r :: rl, 0, h => ⟨x, r, rfl, rfl, (Option.some.inj h).symm⟩
  | x :: s, r :: rl, i + 1, h => skvS_at (s := s) (rl := rl) (i := i) h
  | [], _, i, h => by simp [skvS] at h
  | _ :: _, [], i, h => by simp [skvS] at h
theorem skvS_len : ∀ {s : StD} {rl : List Addr}, rl.length = s.length → (skvS s rl).length = s.length
  | [], [], _ => rfl
  | x :: s, r :: rl, h => by
    show (skvS s rl).length + 1 = _
    rw [skvS_len (by simpa using h)]; rfl
  | [], _ :: _, h => by cases h
  | _ :: _, [], h => by cases h
def spNoted (K : PySem.W.Frag) : Sp := fun vs H Q _ => ∃ (bk p : Addr) (own : List Addr) (B : BC) (ws : List Wr) (us : List V) (pre : List StD) (s : StD), vs = [.ref bk, .ref p] ∧ BAt K H own bk B ∧ B.states = pre ++ [s] ∧ SOk s B ∧ B.states.length ≤ 1000 ∧ (B.tabs.map fun t => t.1).Nodup ∧ B.tabs.length ≤ 10 ∧ SqT K H p us ∧ Paired (WrAt K H) ws us ∧ WrsOkB B B.states.length ws ∧
  ∀ own' H', BAt K H' own' bk { wrsB B B.states.length ws with states := B.states ++ [wrsS s ws] } → (∀ b ∈ own', b ∈ own ∨ H b = none) → KF [B.tb, B.md, B.st, B.kp] H H' → Q (.int (B.states.length : Nat)) H'
section
variable {P : Program} {w : World} {K : PySem.W.Frag} {mg : Str → Option Value} {base : Heap}
theorem scNt : FnScope ["_law_b", "_law_writes_here", "_law_moment", "_law_state", "_law_table", "_law_rows_here", "_law_write"] ["_law_b", "_law_writes_here"] (defScope s_l_noted) := ⟨rfl, rfl, rfl, by decide +kernel, rfl, by decide +kernel, by decide +kernel⟩
theorem ok_noted {f : Addr} {fd : FuncData} (F : Fun K "_law_noted" "_law_noted" s_l_noted f fd) (T : Txt mg) : FnOk P w K mg base CX0 1 f fd ["_law_b", "_law_writes_here"] (spNoted K) := by
  refine F.ok scNt (fun vs H Q E h => ?_) (fun cdv A outer s H vs Q E hr h => ?_)
  · obtain ⟨bk, p, own, B, ws, us, pre, s, rfl, _⟩ := h
    rfl
  · obtain ⟨bk, p, own, B, ws, us, pre, s0, rfl, x, est, sok, fst, ndt, ltab, hp, pw, wok, kk⟩ := h
    have big : (100000 : Nat) < sizeLine := by decide
    refine ⟨_, (pss_cons (ps_set (i := 2) scNt.nd rfl (Or.inl rfl) (pe_callB (RK.lenQ (K := K)) (by rfl) T.len PySem.boot_len (pa_cons (pe_dget (hu_of hr) (pv 0) pe_str (fun _ _ => rfl)) pa_nil)))
      (pss_cons (ps_set (i := 3) scNt.nd rfl (Or.inl rfl) (pe_callTy (RK.dictQ (K := K) rfl) (by rfl) T.dict (by decide +kernel) (pa_cons (pe_lock (pe_lc (own := [("_law_table", 4), ("_law_rows_here", 5)]) rfl scNt.nd (pi_items (pe_ix (RK.ixL (K := K)) (pe_dget (hu_of hr) (pv 0) pe_str (fun _ _ => rfl)) (pe_un un_neg pe_int) (fun _ _ => rfl))) (blkOk_by (N := ["_law_b", "_law_writes_here", "_law_moment", "_law_state", "_law_table", "_law_rows_here", "_law_write"]) (sc := defScope s_l_noted) (by decide +kernel)) (fun _ _ _ _ _ => (RK.pgTup (K := K) (n := 2) rfl (pgs_cons (pg_name (i := 4) scNt.nd rfl (Or.inl rfl)) (pgs_cons (pg_name (i := 5) scNt.nd rfl (Or.inl rfl)) pgs_nil)))) (fun _ _ _ _ _ => pts_nil) (fun _ _ _ _ _ => (pe_tup (pa_cons (pv 4) (pa_cons (pe_callTy call_dictD (by rfl) T.dict (by decide +kernel) (pa_cons (pv 5) pa_nil)) pa_nil)))))) pa_nil)))
      (pss_cons (ps_for PassesOwn.never rfl (RK.piT (K := K) (pv 1)) (pg_name (i := 6) scNt.nd rfl (Or.inl rfl))
        (pss_one (ps_if (pt_cmpR op_eq (pe_ix (RK.ixT (K := K)) (pv 6) pe_int (fun _ _ => rfl)) pe_str (nomark _)) (pss_cons (ps_dput (hu_of hr) (pe_dget (hu_of hr) (pv 0) pe_str (fun _ _ => rfl)) (pe_ix (RK.ixT (K := K)) (pv 6) pe_int (fun _ _ => rfl)) (pe_tup (pa_cons (pv 2) (pa_cons (pe_ix (RK.ixT (K := K)) (pv 6) pe_int (fun _ _ => rfl)) pa_nil))) rfl)
          (pss_one (ps_dput (hu_of hr) (pv 3) (pe_ix (RK.ixT (K := K)) (pv 6) pe_int (fun _ _ => rfl)) pe_dnewK rfl))) (pss_one (ps_if (pt_cmpR op_eq (pe_ix (RK.ixT (K := K)) (pv 6) pe_int (fun _ _ => rfl)) pe_str (nomark _)) (pss_one (ps_dput (hu_of hr) (pe_dget (hu_of hr) (pv 0) pe_str (fun _ _ => rfl)) (pe_slice (RK.slT (K := K)) (pv 6) (po_some pe_int) po_none) (pv 2) rfl)) (pss_cons (ps_expr (pe_bm PySem.F.plainAttrs_list PySem.F.slot_list_append PySem.F.type_list_append mt_append (pe_dget (hu_of hr) (pv 0) pe_str (fun _ _ => rfl)) (pa_cons (pe_tup (pa_cons (pe_ix (RK.ixT (K := K)) (pv 6) pe_int (fun _ _ => rfl)) (pa_cons (pe_ix (RK.ixT (K := K)) (pv 6) pe_int (fun _ _ => rfl)) (pa_cons (pv 2) (pa_cons (pe_ix (RK.ixT (K := K)) (pv 6) pe_int (fun _ _ => rfl)) pa_nil))))) pa_nil)))
            (pss_cons (ps_dput (hu_of hr) (pe_dget (hu_of hr) (pv 3) (pe_ix (RK.ixT (K := K)) (pv 6) pe_int (fun _ _ => rfl)) (fun _ _ => rfl)) (pe_ix (RK.ixT (K := K)) (pv 6) pe_int (fun _ _ => rfl)) (pe_ix (RK.ixT (K := K)) (pv 6) pe_int (fun _ _ => rfl)) rfl)
            (pss_one (ps_if (pt_cmpR op_isN (pe_ix (RK.ixT (K := K)) (pv 6) pe_int (fun _ _ => rfl)) pe_non (nomark _)) (pss_one (ps_expr (pe_dpop1 (pe_dget (hu_of hr) (pv 3) (pe_ix (RK.ixT (K := K)) (pv 6) pe_int (fun _ _ => rfl)) (fun _ _ => rfl)) (pe_ix (RK.ixT (K := K)) (pv 6) pe_int (fun _ _ => rfl)) ⟨rfl, rfl, rfl, rfl⟩))) pss_nil)))))))))
      (pss_cons (ps_expr (pe_bm PySem.F.plainAttrs_list PySem.F.slot_list_append PySem.F.type_list_append mt_append (pe_dget (hu_of hr) (pv 0) pe_str (fun _ _ => rfl)) (pa_cons (pv 3) pa_nil)))
      (pss_one (ps_ret (pv 2))))))), ?_⟩
    obtain ⟨su, u1, u2⟩ := x.st
    have lst := pw_len u2
    -- the moment
    refine sa1 ⟨_, rfl, bk, .ref B.st, rfl, x.g3, B.st, _, rfl, .inl (SqL.of u1), gn ?_⟩
    rw [← lst]
    -- the state, copied
    rw [est] at u2
    obtain ⟨pre', y, rfl, pre2, oA, subA, ndA, a, rl0, rfl, eoA, a1, a3⟩ := paired_snoc' u2
    subst eoA
    obtain ⟨nra, _⟩ := List.nodup_cons.mp ndA
    have ma : a ∈ own := subA a (List.mem_cons_self ..)
    obtain ⟨kvs, ekvs⟩ : ∃ kvs, kvs = skvS s0 rl0 := ⟨_, rfl⟩
    rw [← ekvs] at a1
    have ls0 := pw_len a3
    have lkvs : kvs.length = s0.length := by rw [ekvs]; exact skvS_len ls0
    refine sa1 ?_
    refine ⟨a, _, a1, trivial, fun od => ?_⟩
    have nbk : bk ≠ a := Ne.symm (x.no a ma).1
    have xl : ∀ o, H bk = some o → (upd H a (.frz od (.dK kvs))) bk = some o := fun o e => (upd_ne nbk).trans e
    have g3 : DGet (upd H a (.frz od (.dK kvs))) bk (.str (Str.ofString "states")) (some (.ref B.st)) := g_all.2.2.1 (.ref B.tb) (.ref B.md) (.ref B.st) (.ref B.kp) ▸ DGet.k (k := Sum.inr (Str.ofString "states")) (xl _ x.h0)
    have nsa : B.st ≠ a := ne_of u1 a1 (by intro z; cases z)
    refine ⟨_, rfl, bk, .ref B.st, rfl, g3, 1, rfl, B.st, _, -1, _, rfl, rfl, SqL.of ((upd_ne nsa).trans u1), atI_last _ _, a, od, kvs, rfl, upd_same, fun D hD => ?_⟩
    have hne : D ≠ a := fun e => by rw [e, upd_same] at hD; cases hD
    have hDn : H D = none := by rw [upd_ne hne] at hD; exact hD
    have lkv : kvs.length ≤ 10 := by
      have z := congrArg List.length sok.nm
      rw [List.length_map, List.length_map] at z
      omega
    refine lc_it (walk_items (kvs := kvs)) (fun i H' => H' a = some (.frz od (.dK kvs)) ∧ (∀ b o, b ≠ D → b ≠ a → H b = some o → H' b = some o) ∧ ∃ (ps rl : List Addr), H' D = some (.lst (ps.map V.ref)) ∧ Paired (fun q (kv : Key × V) => SqT K H' q [kV kv.1, kv.2]) ps (skvS (s0.take i) rl) ∧ Paired (fun r (x : Str × Rws) => RwAt H' r x.2) rl (s0.take i) ∧ rl.Nodup ∧ (∀ b ∈ rl, H b = none ∧ b ≠ D ∧ ∃ o, H' b = some o ∧ ¬ TupO o) ∧ ps.length = i)
      ⟨by rw [upd_ne (Ne.symm hne), upd_same], fun b o n1 n2 e => by rw [upd_ne n1, upd_ne n2]; exact e, [], [], upd_same, .nil, .nil, List.nodup_nil, fun b m => (by cases m), rfl⟩ (fun i H' _ q => q.1) ?_ ?_
    · rintro i y0 H0 H' hi ⟨fz, kp, ps, rl, hd, pp, prl, ndr, ow, lp⟩ ⟨t, x1, y1, rfl, ht, rfl, e1, e2⟩
      have hq0 : kvs[i]? = some kvs[i] := List.getElem?_eq_getElem hi
      generalize kvs[i] = q at hq0
      have hq1 := hq0
      rw [ekvs] at hq1
      obtain ⟨xs, r0, ex, er, rfl⟩ := skvS_at hq1
      obtain rfl : x1 = V.str xs.1 := by
        have z : (kvs[i]?.map fun kv => kV kv.1) = some x1 := e1
        rw [hq0] at z
        exact (Option.some.inj z).symm
      obtain rfl : y1 = .ref r0 := by
        have z : (kvs[i]?.map Prod.snd) = some y1 := e2
        rw [hq0] at z
        exact (Option.some.inj z).symm
      obtain ⟨x', ex', rk, f1, f2⟩ := pw_get' a3 er
      rw [ex] at ex'
      obtain rfl := Option.some.inj ex'
      have mr0 : r0 ∈ rl0 := List.mem_of_getElem? er
      have r0a : r0 ≠ a := fun e => nra (by rw [← e]; exact mr0)
      have s1 := same_new (o := .tup [.str xs.1, .ref r0]) ht
      have t1 : (upd H0 t (.tup [.str xs.1, .ref r0])) t = some (.tup [.str xs.1, .ref r0]) := upd_same
      generalize upd H0 t (.tup [.str xs.1, .ref r0]) = H1 at s1 t1
      have f1' : H1 r0 = some (.dK rk) := s1 _ _ (kp _ _ (ne_of_none f1 hDn) r0a f1)
      refine ⟨t, _, rfl, SqT.of t1, rfl, _, _, rfl, _, _, rfl, rfl, rfl, ?_⟩
      refine ⟨_, rfl, _, rfl, r0, rk, rfl, .inl f1', fun d hdn => ?_⟩
      have zd : H d = none := by
        cases z : H d with
        | none => rfl
        | some o =>
          by_cases c : d = a
          · rw [c, s1 _ _ fz] at hdn; cases hdn
          · by_cases c2 : d = D
            · rw [c2, s1 _ _ hd] at hdn; cases hdn
            · rw [s1 _ _ (kp d o c2 c z)] at hdn; cases hdn
      have ndD : d ≠ D := fun c => by rw [c, s1 _ _ hd] at hdn; cases hdn
      have ndl : d ∉ rl := fun m => by
        obtain ⟨_, _, o, g, _⟩ := ow d m
        rw [s1 _ _ g] at hdn; cases hdn
      have s2 := same_new (o := .dK rk) hdn
      have d1 : (upd H1 d (.dK rk)) d = some (.dK rk) := upd_same
      generalize upd H1 d (.dK rk) = H2 at s2 d1
      refine ⟨by show 2 ≤ sizeLine; decide, fun p2 hp2 => ?_⟩
      have s3 := same_new (o := .tup [.str xs.1, .ref d]) hp2
      have p21 : (upd H2 p2 (.tup [.str xs.1, .ref d])) p2 = some (.tup [.str xs.1, .ref d]) := upd_same
      generalize upd H2 p2 (.tup [.str xs.1, .ref d]) = H3 at s3 p21
      have s123 := (s1.trans s2).trans s3
      have hd3 := s123 _ _ hd
      have kp3 : ∀ b o, b ≠ D → b ≠ a → H b = some o → H3 b = some o := fun b o n1 n2 e => s123 _ _ (kp b o n1 n2 e)
      have tkH : TK H H3 := fun b u hu e => kp3 b u (ne_of_none e hDn) (ne_of e a1 (by intro z; subst z; exact hu)) e
      have tkD : TK H3 (upd H3 D (.lst (ps.map V.ref ++ [.ref p2]))) := fun b u hu e => by rw [upd_ne (ne_of e hd3 (by intro z; subst z; exact hu))]; exact e
      have oD : ∀ b o, b ≠ D → H3 b = some o → (upd H3 D (.lst (ps.map V.ref ++ [.ref p2]))) b = some o := fun b o n e => by rw [upd_ne n]; exact e
      have tk1 : s0.take (i + 1) = s0.take i ++ [xs] := by rw [List.take_add_one, ex]; rfl
      have lrl := pw_len prl
      refine ⟨_, hd3, ?_, (upd_ne (Ne.symm hne)).trans (s123 _ _ fz), fun b o n1 n2 e => oD b o n1 (kp3 b o n1 n2 e), ps ++ [p2], rl ++ [d], by rw [upd_same, List.map_append]; rfl, ?_, ?_, ?_, fun b hb => ?_, by rw [List.length_append, lp]; rfl⟩
      · rw [List.length_map]
        exact Nat.lt_of_le_of_lt (show ps.length ≤ 100000 by omega) big
      · rw [tk1, skvS_app lrl]
        exact pw_app (pw_imp (fun _ _ h => sqt_keep (TK.trans (TK.same s123) tkD) h) pp) (.cons (SqT.of (tkD.tup p21)) .nil)
      · rw [tk1]
        refine pw_app (rws_keep (TK.trans (TK.same s123) tkD) (fun b hb o e => oD b o (ow b hb).2.1 (s123 _ _ e)) prl) (.cons ⟨rk, oD _ _ ndD (s3 _ _ d1), ?_⟩ .nil)
        exact pw_imp (fun _ _ ⟨g1, g2⟩ => ⟨g1, RowAt.keep (TK.trans tkH tkD) g2⟩) f2
      · refine List.nodup_append.mpr ⟨ndr, List.nodup_cons.mpr ⟨List.not_mem_nil, List.nodup_nil⟩, fun b hb c hc e => ?_⟩
        rw [List.mem_singleton.mp hc] at e
        exact ndl (by rw [← e]; exact hb)
      · rcases List.mem_append.mp hb with hb | hb
        · obtain ⟨g1, g2, o, g3, g4⟩ := ow b hb
          exact ⟨g1, g2, o, oD b o g2 (s123 _ _ g3), g4⟩
        · rw [List.mem_singleton.mp hb]; exact ⟨zd, ndD, _, oD _ _ ndD (s3 _ _ d1), by intro z; exact z⟩
    · rintro H' ⟨fz, kp, ps, rl, hd, pp, prl, ndr, ow, lp⟩
      rw [lkvs, List.take_length] at pp prl
      refine ⟨fz, ?_⟩
      have s1 : Same H (upd H' a (.dK kvs)) := fun b o e => by
        by_cases c : b = a
        · rw [c] at e ⊢; rw [upd_same, ← a1]; exact e
        · rw [upd_ne c]; exact kp b o (ne_of_none e hDn) c e
      have o1 : ∀ b o, b ≠ a → H' b = some o → (upd H' a (.dK kvs)) b = some o := fun b o n e => by rw [upd_ne n]; exact e
      have tk1 : TK H' (upd H' a (.dK kvs)) := fun b u hu e => o1 b u (ne_of e fz (by intro z; subst z; exact hu)) e
      have hd1 := o1 _ _ hne hd
      have pp1 := pw_imp (fun _ _ h => sqt_keep tk1 h) pp
      have nal : ∀ b ∈ rl, b ≠ a := fun b hb c => by have g1 := (ow b hb).1; rw [c, a1] at g1; cases g1
      have ow1 : ∀ b ∈ rl, H b = none ∧ ∃ o, (upd H' a (.dK kvs)) b = some o ∧ ¬ TupO o := fun b hb => by
        obtain ⟨g1, _, o, g3, g4⟩ := ow b hb
        exact ⟨g1, o, o1 b o (nal b hb) g3, g4⟩
      have rw1 := rws_keep tk1 (fun b hb o e => o1 b o (nal b hb) e) prl
      generalize upd H' a (.dK kvs) = H1 at s1 hd1 pp1 ow1 rw1
      clear kp fz hd tk1 o1 ow prl pp
      have lrl := pw_len rw1
      have ek2 := skvS_keys lrl
      have ndk : ((skvS s0 rl).map (·.1)).Nodup := by
        have e : (s0.map fun x => (Sum.inr x.1 : Key)) = (s0.map fun x => x.1).map Sum.inr := by rw [List.map_map]; rfl
        rw [ek2, e, sok.nm]
        exact List.Pairwise.map _ (fun a b h e => h (Sum.inr.inj e)) ndt
      refine ⟨D, ps, skvS s0 rl, rfl, SqL.of hd1, pp1, fun cur hcur => gn ?_⟩
      rw [EE.mergeK_nd (skvS s0 rl) [] ndk, List.nil_append]
      have s2 := same_new (o := .dK (skvS s0 rl)) hcur
      have c2 : (upd H1 cur (.dK (skvS s0 rl))) cur = some (.dK (skvS s0 rl)) := upd_same
      have zc : H cur = none := none_of_same s1 hcur
      have ncl : cur ∉ rl := fun m => by
        obtain ⟨_, o, g, _⟩ := ow1 cur m
        rw [g] at hcur; cases hcur
      generalize upd H1 cur (.dK (skvS s0 rl)) = H2 at s2 c2
      have s12 := s1.trans s2
      have lw := pw_len pw
      have ad := fun i => wrsB_addr (B.states.length : Nat) (ws.take i) B
      have inH : ∀ i, ∀ b ∈ bfp own bk (wrsB B (B.states.length : Nat) (ws.take i)), ∃ o, H b = some o := fun i b hb => by
        obtain ⟨e1, e2, e3, e4, _⟩ := ad i
        have m : b ∈ bfp own bk B := by unfold bfp at hb ⊢; rw [e1, e2, e3, e4] at hb; exact hb
        obtain ⟨o, e, _⟩ := x.notup m
        exact ⟨o, e⟩
      have tkf : ∀ {H' : Hp}, KF [B.tb, B.md, B.kp] H H' → TK H H' := fun kf b u hu e => kf b u (fun m => by
        have m2 : b ∈ bfp own bk B := by simp only [List.mem_cons, List.not_mem_nil, or_false] at m; simp only [bfp, List.mem_cons]; rcases m with h | h | h <;> simp [h]
        obtain ⟨o, e2, n⟩ := x.notup m2
        rw [e] at e2
        exact n (Option.some.inj e2 ▸ hu)) e
      refine ⟨_, rfl, p, rfl, ⟨_, sqt_keep (TK.same s12) hp⟩, ?_⟩
      refine for_it (walk_tup (xs := us)) (fun i σ H' => ∃ (v4 v5 v6 : Option V) (ownN : List Addr), σ = [some (.ref bk), some (.ref p), some (.int (B.states.length : Nat)), some (.ref cur), v4, v5, v6] ∧ BAt K H' own bk (wrsB B (B.states.length : Nat) (ws.take i)) ∧ StAt H' ownN (wrsS s0 (ws.take i)) (.ref cur) ∧ ownN.Nodup ∧ (∀ b ∈ ownN, H b = none ∧ ∃ o, H' b = some o ∧ ¬ TupO o) ∧ KF [B.tb, B.md, B.kp] H H')
        ⟨none, none, none, cur :: rl, rfl, x.same' s12, ⟨cur, rl, rfl, rfl, c2, rws_keep (TK.same s2) (fun b _ o e => s2 _ _ e) rw1⟩, List.nodup_cons.mpr ⟨ncl, ndr⟩, fun b hb => by
          rcases List.mem_cons.mp hb with e | hb
          · rw [e]; exact ⟨zc, _, c2, by intro z; exact z⟩
          · obtain ⟨g1, o, g2, g3⟩ := ow1 b hb
            exact ⟨g1, o, s2 _ _ g2, g3⟩, KF.same s12⟩ (fun i σ H' _ ⟨_, _, _, _, _, _, _, _, _, q⟩ => sqt_keep (tkf q) hp) ?_ ?_
      · rintro i y σ H3 H4 hi ⟨v4, v5, v6, ownN, rfl, xb, xs, ndN, ow, kf⟩ ⟨rfl, ey⟩
        obtain ⟨wr, ew, hw⟩ := pw_get pw ey
        have wok1 := wrsB_at wok ew
        have stp : wrsB B (B.states.length : Nat) (ws.take (i + 1)) = wrB (wrsB B (B.states.length : Nat) (ws.take i)) (B.states.length : Nat) wr := by
          rw [List.take_add_one, ew]; exact wrsB_snoc ..
        have stS : wrsS s0 (ws.take (i + 1)) = wrS (wrsS s0 (ws.take i)) wr := by
          rw [List.take_add_one, ew]; exact wrsS_snoc ..
        have sok1 := sok.at_ wok i (by omega)
        have ndtB : ((wrsB B (B.states.length : Nat) (ws.take i)).tabs.map fun t => t.1).Nodup := wrsB_nd wok i (by omega) ndt
        obtain ⟨at1, at2, at3, at4, _⟩ := ad i
        have inHi := inH i
        have hw := hw.keep (tkf kf)
        rw [stp, stS]
        generalize wrsB B (B.states.length : Nat) (ws.take i) = Bi at xb wok1 at1 at2 at3 at4 inHi sok1 ndtB
        generalize wrsS s0 (ws.take i) = si at xs sok1
        refine gn ?_
        have d1 : decide (V.str (Str.ofString "index") = V.str (Str.ofString "table")) = false := by decide +kernel
        have d2 : decide (V.str (Str.ofString "row") = V.str (Str.ofString "table")) = false := by decide +kernel
        have d3 : decide (V.str (Str.ofString "row") = V.str (Str.ofString "index")) = false := by decide +kernel
        obtain ⟨cu, rl, ec, eoN, c1, c4⟩ := id xs
        injection ec with ec
        subst ec eoN
        obtain ⟨kc, ekc⟩ : ∃ kc, kc = skvS si rl := ⟨_, rfl⟩
        rw [← ekc] at c1
        obtain ⟨ncr, ndrl⟩ := List.nodup_cons.mp ndN
        have mcur : cur ∈ cur :: rl := List.mem_cons_self ..
        have lrl := pw_len c4
        have c3 : kc.map (·.1) = (si.map fun x => x.1).map Sum.inr := by rw [ekc, skvS_keys lrl, List.map_map]; rfl
        have lkc10 : kc.length = Bi.tabs.length := by
          have z := congrArg List.length c3
          have z2 := congrArg List.length sok1.nm
          rw [List.length_map, List.length_map, List.length_map] at z
          rw [List.length_map, List.length_map] at z2
          omega
        have mtb : bk ∈ bfp own bk Bi ∧ Bi.tb ∈ bfp own bk Bi := ⟨by simp [bfp], by simp [bfp]⟩
        have nown : ∀ b ∈ cur :: rl, ∀ c, (∃ o, H c = some o) → b ≠ c := fun b hb c ⟨o, e⟩ z => by have g := (ow b hb).1; rw [z, e] at g; cases g
        cases wr with
        | tab z fs =>
          obtain ⟨pw1, q, rfl, hpw, hq⟩ := hw
          obtain ⟨w1, w2⟩ := wok1
          refine ifs ⟨_, rfl, pw1, _, 0, _, rfl, rfl, hpw, at0, rfl, _, rfl, iteT ?_⟩
          refine ⟨_, rfl, _, rfl, pw1, _, 2, _, rfl, rfl, hpw, rfl, by show 2 ≤ sizeLine; decide, fun t ht => ?_⟩
          have s3 := same_new (o := .tup [.int (B.states.length : Nat), .ref q]) ht
          have t1 : (upd H4 t (.tup [.int (B.states.length : Nat), .ref q])) t = some (.tup [.int (B.states.length : Nat), .ref q]) := upd_same
          generalize upd H4 t (.tup [.int (B.states.length : Nat), .ref q]) = H5 at s3 t1
          have xb5 := xb.same' s3
          have hpw5 := sqt_keep (TK.same s3) hpw
          obtain ⟨kvt, tb1, tb2⟩ := xb5.tb
          have ltb : kvt.length < sizeLine := Nat.lt_of_le_of_lt (show kvt.length ≤ 100000 by have := pw_len tb2; omega) big
          have xb6 := xb5.addTab (n := (B.states.length : Nat)) tb1 tb2 w1 (SqT.of t1) (hq.keep (TK.same s3))
          have o6 : ∀ b o, b ≠ Bi.tb → H5 b = some o → (upd H5 Bi.tb (.dK (putK kvt (Sum.inr z) (.ref t)))) b = some o := fun b o n e => by rw [upd_ne n]; exact e
          have tk6 : TK H5 (upd H5 Bi.tb (.dK (putK kvt (Sum.inr z) (.ref t)))) := fun b u hu e => o6 b u (ne_of e tb1 (by intro z; subst z; exact hu)) e
          have hpw6 := sqt_keep tk6 hpw5
          refine ⟨_, rfl, bk, .ref Bi.tb, rfl, xb5.g1, _, rfl, pw1, _, 1, _, rfl, rfl, hpw5, rfl, Bi.tb, _, rfl, DPut.k (k := Sum.inr z) tb1 ltb, ?_⟩
          have kf6 : KF [B.tb, B.md, B.kp] H (upd H5 Bi.tb (.dK (putK kvt (Sum.inr z) (.ref t)))) := (kf.trans (KF.same s3)).trans (KF.upd (.inl (by rw [at1]; simp)))
          have nctb : ∀ b ∈ cur :: rl, b ≠ Bi.tb := fun b hb => nown b hb _ (inHi _ mtb.2)
          have ow6 : ∀ b ∈ cur :: rl, H b = none ∧ ∃ o, (upd H5 Bi.tb (.dK (putK kvt (Sum.inr z) (.ref t)))) b = some o ∧ ¬ TupO o := fun b hb => by
            obtain ⟨g1, o, g2, g3⟩ := ow b hb
            exact ⟨g1, o, o6 b o (nctb b hb) (s3 _ _ g2), g3⟩
          have c46 := rws_keep (TK.trans (TK.same s3) tk6) (fun b hb o e => o6 b o (nctb b (List.mem_cons_of_mem _ hb)) (s3 _ _ e)) c4
          have c16 := o6 _ _ (nctb _ mcur) (s3 _ _ c1)
          generalize upd H5 Bi.tb (.dK (putK kvt (Sum.inr z) (.ref t))) = H6 at xb6 hpw6 kf6 ow6 c46 c16 tk6
          intro r hr0
          have zr : H r = none := by
            cases e : H r with
            | none => rfl
            | some o =>
              by_cases m : r ∈ [B.tb, B.md, B.kp]
              · obtain ⟨o', e2⟩ : ∃ o', H6 r = some o' := by
                  obtain ⟨o1, g, _⟩ := xb6.notup (b := r) (by simp only [bfp, List.mem_cons, List.not_mem_nil, or_false] at m ⊢; rw [at1, at2, at4]; rcases m with h | h | h <;> simp [h])
                  exact ⟨o1, g⟩
                rw [hr0] at e2; cases e2
              · rw [kf6 r o m e] at hr0; cases hr0
          have lkc : kc.length < sizeLine := Nat.lt_of_le_of_lt (show kc.length ≤ 100000 by omega) big
          have nrc : r ≠ cur := fun e => by rw [e, c16] at hr0; cases hr0
          have s7 := same_new (o := .dK []) hr0
          refine ⟨_, rfl, _, rfl, pw1, _, 1, _, rfl, rfl, sqt_keep (TK.same s7) hpw6, rfl, cur, _, rfl, DPut.k (k := Sum.inr z) ((upd_ne (Ne.symm nrc)).trans c16) lkc, ?_⟩
          have o8 : ∀ b o, b ≠ r → b ≠ cur → H6 b = some o → (upd (upd H6 r (.dK [])) cur (.dK (putK kc (Sum.inr z) (.ref r)))) b = some o := fun b o n1 n2 e => by rw [upd_ne n2, upd_ne n1]; exact e
          have tk8 : TK H6 (upd (upd H6 r (.dK [])) cur (.dK (putK kc (Sum.inr z) (.ref r)))) := fun b u hu e => o8 b u (ne_of_none e hr0) (ne_of e c16 (by intro z; subst z; exact hu)) e
          have nz : valV kc (Sum.inr z : Key) = none := valV_none fun m => by
            rw [c3, sok1.nm] at m
            obtain ⟨y, hy, ey⟩ := List.mem_map.mp m
            exact w1 (by rw [← Sum.inr.inj ey]; exact hy)
          have nrl : ∀ b ∈ cur :: rl, b ≠ r := fun b hb e => by
            obtain ⟨_, o, g, _⟩ := ow6 b hb
            rw [e, hr0] at g; cases g
          refine ⟨_, _, _, cur :: (rl ++ [r]), rfl, xb6.keep (fun b hb o e => o8 b o (ne_of_none e hr0) (fun c => nown cur mcur b (inHi b hb) c.symm) e) tk8, ⟨cur, rl ++ [r], rfl, rfl, ?_, ?_⟩, ?_, fun b hb => ?_, fun b o n e => o8 b o (ne_of_none (kf6 b o n e) hr0) (fun c => by rw [c, (ow cur mcur).1] at e; cases e) (kf6 b o n e)⟩
          · rw [upd_same, putK_new _ nz, ekc]
            show some (HO.dK _) = some (HO.dK (skvS (si ++ [(z, [])]) (rl ++ [r])))
            rw [skvS_app lrl]
          · show Paired _ (rl ++ [r]) (si ++ [(z, [])])
            refine pw_app (rws_keep tk8 (fun b hb o e => o8 b o (nrl b (List.mem_cons_of_mem _ hb)) (fun c => ncr (by rw [← c]; exact hb)) e) c46) (.cons ⟨[], (upd_ne nrc).trans upd_same, .nil⟩ .nil)
          · refine List.nodup_cons.mpr ⟨fun m => ?_, List.nodup_append.mpr ⟨ndrl, List.nodup_cons.mpr ⟨List.not_mem_nil, List.nodup_nil⟩, fun b hb c hc e => ?_⟩⟩
            · rcases List.mem_append.mp m with m | m
              · exact ncr m
              · exact nrc (List.mem_singleton.mp m).symm
            · rw [List.mem_singleton.mp hc] at e
              exact nrl b (List.mem_cons_of_mem _ hb) e
          · have hb2 : b = r ∨ b ∈ cur :: rl := by
              rcases List.mem_cons.mp hb with e | hb
              · exact .inr (by rw [e]; exact mcur)
              · rcases List.mem_append.mp hb with hb | hb
                · exact .inr (List.mem_cons_of_mem _ hb)
                · exact .inl (List.mem_singleton.mp hb)
            rcases hb2 with e | hb
            · rw [e]; exact ⟨zr, _, (upd_ne nrc).trans upd_same, by intro z; exact z⟩
            · obtain ⟨g1, o, g2, g3⟩ := ow6 b hb
              by_cases c : b = cur
              · exact ⟨g1, _, by rw [c]; exact upd_same, by intro z; exact z⟩
              · exact ⟨g1, o, o8 b o (ne_of_none g2 hr0) c g2, g3⟩
        | idx t f =>
          obtain ⟨pw1, rfl, hpw⟩ := hw
          obtain ⟨w1, w2⟩ := wok1
          refine ifs ⟨_, rfl, pw1, _, 0, _, rfl, rfl, hpw, at0, rfl, _, rfl, ?_⟩
          rw [d1]
          refine iteF (ifs ⟨_, rfl, pw1, _, 0, _, rfl, rfl, hpw, at0, rfl, _, rfl, iteT ?_⟩)
          have nw : ¬ (HT.sIx ([V.str (Str.ofString "index"), .str t, .str f] : List V).length 0 (some 1) = 0 ∧ HT.sIx ([V.str (Str.ofString "index"), .str t, .str f] : List V).length ([V.str (Str.ofString "index"), .str t, .str f] : List V).length none = ([V.str (Str.ofString "index"), .str t, .str f] : List V).length) := fun h => by
            have h := h.1
            rw [show (some (1 : Int)) = some ((1 : Nat) : Int) from rfl, HT.sIx_nat] at h
            simp at h
          refine ⟨_, rfl, _, rfl, bk, .ref Bi.md, rfl, xb.g2, _, rfl, 1, rfl, pw1, _, rfl, hpw, fun h => absurd h nw, fun _ q hq => ?_⟩
          have ec : cutV [V.str (Str.ofString "index"), .str t, .str f] (some 1) none = [Sum.inr t, Sum.inr f].map kV := by rfl
          rw [ec]
          have s3 := same_new (o := .tup ([Sum.inr t, Sum.inr f].map kV)) hq
          have t1 : (upd H4 q (.tup ([Sum.inr t, Sum.inr f].map kV))) q = some (.tup ([Sum.inr t, Sum.inr f].map kV)) := upd_same
          generalize upd H4 q (.tup ([Sum.inr t, Sum.inr f].map kV)) = H5 at s3 t1
          have xb5 := xb.same' s3
          have lmd : (mdkv Bi.made).length < sizeLine := Nat.lt_of_le_of_lt (show (mdkv Bi.made).length ≤ 100000 by unfold mdkv; rw [List.length_map]; omega) big
          refine ⟨Bi.md, _, rfl, DPut.t (k := [Sum.inr t, Sum.inr f]) xb5.md t1 lmd, ?_⟩
          have xb6 := xb5.addMade (n := (B.states.length : Nat)) w1
          have mmd : Bi.md ∈ bfp own bk Bi := by simp [bfp]
          have o6 : ∀ b o, b ≠ Bi.md → H5 b = some o → (upd H5 Bi.md (.dT (putK (mdkv Bi.made) [Sum.inr t, Sum.inr f] (.int (B.states.length : Nat))))) b = some o := fun b o n e => by rw [upd_ne n]; exact e
          have tk6 : TK H5 (upd H5 Bi.md (.dT (putK (mdkv Bi.made) [Sum.inr t, Sum.inr f] (.int (B.states.length : Nat))))) := fun b u hu e => o6 b u (ne_of e xb5.md (by intro z; subst z; exact hu)) e
          have nc : ∀ b ∈ cur :: rl, b ≠ Bi.md := fun b hb => nown b hb _ (inHi _ mmd)
          refine ⟨_, _, _, cur :: rl, rfl, xb6, xs.keep (fun b hb o e => o6 b o (nc b hb) (s3 _ _ e)) (TK.trans (TK.same s3) tk6), ndN, fun b hb => ?_, (kf.trans (KF.same s3)).trans (KF.upd (.inl (by rw [at2]; simp)))⟩
          obtain ⟨g1, o, g2, g3⟩ := ow b hb
          exact ⟨g1, o, o6 b o (nc b hb) (s3 _ _ g2), g3⟩
        | row t k rw0 =>
          obtain ⟨pw1, rv, rfl, hpw, hrow⟩ := hw
          obtain ⟨w1, w2, w3, w4⟩ := wok1
          refine ifs ⟨_, rfl, pw1, _, 0, _, rfl, rfl, hpw, at0, rfl, _, rfl, ?_⟩
          rw [d2]
          refine iteF (ifs ⟨_, rfl, pw1, _, 0, _, rfl, rfl, hpw, at0, rfl, _, rfl, ?_⟩)
          rw [d3]
          refine iteF (sq1 ?_)
          obtain ⟨vs0, kp1, kp2⟩ := xb.kp
          refine ⟨_, rfl, bk, .ref Bi.kp, rfl, xb.g4, .inl ⟨rfl, _, SqL.of kp1⟩, _, rfl, pw1, _, 1, _, rfl, rfl, hpw, rfl, _, rfl, pw1, _, 2, _, rfl, rfl, hpw, rfl, _, rfl, _, rfl, pw1, _, 3, _, rfl, rfl, hpw, rfl, by show 4 ≤ sizeLine; decide, fun q hq => ?_⟩
          have s3 := same_new (o := .tup [.str t, .int k, .int (B.states.length : Nat), rv]) hq
          have t1 : (upd H4 q (.tup [.str t, .int k, .int (B.states.length : Nat), rv])) q = some (.tup [.str t, .int k, .int (B.states.length : Nat), rv]) := upd_same
          generalize upd H4 q (.tup [.str t, .int k, .int (B.states.length : Nat), rv]) = H5 at s3 t1
          have xb5 := xb.same' s3
          have kp15 := s3 _ _ kp1
          refine ⟨Bi.kp, vs0, .ref q, rfl, rfl, kp15, Nat.lt_of_le_of_lt (show vs0.length ≤ 100000 by have := pw_len kp2; omega) big, ?_⟩
          have hrow5 := hrow.keep (TK.same s3)
          have xb6 := xb5.addKept (y := (t, k, (B.states.length : Nat), rw0)) kp15 (kpt_keep (TK.same s3) kp2) ⟨q, rv, rfl, SqT.of t1, hrow5⟩
          have mkp : Bi.kp ∈ bfp own bk Bi := by simp [bfp]
          have o6 : ∀ b o, b ≠ Bi.kp → H5 b = some o → (upd H5 Bi.kp (.lst (vs0 ++ [.ref q]))) b = some o := fun b o n e => by rw [upd_ne n]; exact e
          have tk6 : TK H5 (upd H5 Bi.kp (.lst (vs0 ++ [.ref q]))) := fun b u hu e => o6 b u (ne_of e kp15 (by intro z; subst z; exact hu)) e
          have nc : ∀ b ∈ cur :: rl, b ≠ Bi.kp := fun b hb => nown b hb _ (inHi _ mkp)
          have kf6 : KF [B.tb, B.md, B.kp] H (upd H5 Bi.kp (.lst (vs0 ++ [.ref q]))) := (kf.trans (KF.same s3)).trans (KF.upd (.inl (by rw [at4]; simp)))
          have ow6 : ∀ b ∈ cur :: rl, H b = none ∧ ∃ o, (upd H5 Bi.kp (.lst (vs0 ++ [.ref q]))) b = some o ∧ ¬ TupO o := fun b hb => by
            obtain ⟨g1, o, g2, g3⟩ := ow b hb
            exact ⟨g1, o, o6 b o (nc b hb) (s3 _ _ g2), g3⟩
          have hpw6 := sqt_keep (TK.trans (TK.same s3) tk6) hpw
          have hrow6 := hrow5.keep tk6
          have c16 := o6 _ _ (nc _ mcur) (s3 _ _ c1)
          have c46 := rws_keep (TK.trans (TK.same s3) tk6) (fun b hb o e => o6 b o (nc b (List.mem_cons_of_mem _ hb)) (s3 _ _ e)) c4
          generalize upd H5 Bi.kp (.lst (vs0 ++ [.ref q])) = H6 at xb6 hpw6 kf6 ow6 hrow6 c16 c46
          -- the state's rows of this table
          obtain ⟨r, xr, mr0, mxr, exr, ev, rkv, r1, r2⟩ := skvS_get c46 (by rw [sok1.nm]; exact w1)
          rw [← ekc] at ev
          have mr : r ∈ cur :: rl := List.mem_cons_of_mem _ mr0
          have rok := sok1.rs xr mxr
          have lrk : rkv.length ≤ 60 := by rw [pw_len r2]; exact rok.len
          have lrk2 : rkv.length < sizeLine := Nat.lt_of_le_of_lt (show rkv.length ≤ 100000 by omega) big
          have dg : DGet H6 cur (.str t) (some (.ref r)) := ev ▸ DGet.k (k := Sum.inr t) c16
          refine ⟨_, rfl, pw1, _, 3, _, rfl, rfl, hpw6, rfl, _, rfl, _, rfl, pw1, _, 1, _, rfl, rfl, hpw6, rfl, cur, .ref r, rfl, dg, _, rfl, pw1, _, 2, _, rfl, rfl, hpw6, rfl, r, _, rfl, DPut.k (k := Sum.inl k) r1 lrk2, ?_⟩
          have nrc : r ≠ cur := fun e => ncr (by rw [← e]; exact mr0)
          have nmS : (si.map fun x => x.1).Nodup := by rw [sok1.nm]; exact ndtB
          have fin : ∀ (nd : List (Key × V)) (g : Rws → Rws), (∀ x ∈ si, x.1 = t → Paired (RkR H6) nd (g x.2)) →
              BAt K (upd H6 r (.dK nd)) own bk { Bi with kept := Bi.kept ++ [(t, k, ((B.states.length : Nat) : Int), rw0)] } ∧ StAt (upd H6 r (.dK nd)) (cur :: rl) (setS si t g) (.ref cur) ∧ (∀ b ∈ cur :: rl, H b = none ∧ ∃ o, (upd H6 r (.dK nd)) b = some o ∧ ¬ TupO o) ∧ KF [B.tb, B.md, B.kp] H (upd H6 r (.dK nd)) := fun nd g hnd => by
            have o8 : ∀ b o, b ≠ r → H6 b = some o → (upd H6 r (.dK nd)) b = some o := fun b o n e => by rw [upd_ne n]; exact e
            have tk8 : TK H6 (upd H6 r (.dK nd)) := fun b u hu e => o8 b u (ne_of e r1 (by intro z; subst z; exact hu)) e
            refine ⟨xb6.keep (fun b hb o e => o8 b o (fun c => nown r mr b (inHi b hb) c.symm) e) tk8, ⟨cur, rl, rfl, rfl, ?_, rws_set tk8 (fun b o nb e => o8 b o nb e) ndrl nmS c46 (by rw [← ekc]; exact ev) fun y hy ey => ⟨nd, upd_same, pw_imp (fun _ _ ⟨g1, g2⟩ => ⟨g1, RowAt.keep tk8 g2⟩) (hnd y hy ey)⟩⟩, fun b hb => ?_, fun b o n e => o8 b o (fun c => by rw [c, (ow r mr).1] at e; cases e) (kf6 b o n e)⟩
            · rw [skvS_set, ← ekc]; exact o8 _ _ (Ne.symm nrc) c16
            · obtain ⟨g1, o, g2, g3⟩ := ow6 b hb
              by_cases c : b = r
              · exact ⟨g1, _, by rw [c]; exact upd_same, by intro z; exact z⟩
              · exact ⟨g1, o, o8 b o c g2, g3⟩
          have same : ∀ y ∈ si, y.1 = t → y = xr := fun y hy ey => nodup_inj nmS hy mxr (ey.trans exr.symm)
          have hpw7 : SqT K (upd H6 r (.dK (putK rkv (Sum.inl k) rv))) pw1 [.str (Str.ofString "row"), .str t, .int k, rv] := sqt_keep (fun b u hu e => by rw [upd_ne (ne_of e r1 (by intro z; subst z; exact hu))]; exact e) hpw6
          cases rw0 with
          | some ns =>
            obtain ⟨q2, rfl, hq2⟩ := id hrow6
            obtain ⟨f1, f2, f3, f4⟩ := fin (putK rkv (Sum.inl k) (.ref q2)) (fun rs => putR rs k ns) fun y hy ey => by rw [same y hy ey]; exact rk_put hrow6 r2
            exact ⟨_, rfl, pw1, _, 3, _, rfl, rfl, hpw7, rfl, rfl, _, rfl, iteF ⟨_, _, _, cur :: rl, rfl, f1, f2, ndN, f3, f4⟩⟩
          | none =>
            obtain rfl : rv = .non := hrow6
            obtain ⟨f1, f2, f3, f4⟩ := fin (dropK (putK rkv (Sum.inl k) .non) (Sum.inl k)) (fun rs => dropR rs k) fun y hy ey => by rw [same y hy ey, drop_put]; exact rk_drop r2
            have dg7 : DGet (upd H6 r (.dK (putK rkv (Sum.inl k) .non))) cur (.str t) (some (.ref r)) := ev ▸ DGet.k (k := Sum.inr t) ((upd_ne (Ne.symm nrc)).trans c16)
            refine ⟨_, rfl, pw1, _, 3, _, rfl, rfl, hpw7, rfl, rfl, _, rfl, iteT ?_⟩
            refine ⟨_, rfl, _, rfl, pw1, _, 1, _, rfl, rfl, hpw7, rfl, cur, .ref r, rfl, dg7, r, rfl, .inl ⟨_, .inl upd_same⟩, _, rfl, pw1, _, 2, _, rfl, rfl, hpw7, rfl, _, Sum.inl k, .non, upd_same, rfl, by rw [valV_put, if_pos rfl], ?_⟩
            rw [upd_upd]
            exact ⟨_, _, _, cur :: rl, rfl, f1, f2, ndN, f3, f4⟩
      · rintro σ H3 ⟨v4, v5, v6, ownN, rfl, xb, xs, ndN, ow, kf⟩
        rw [← lw, List.take_length] at xb xs
        obtain ⟨at1, at2, at3, at4, at5⟩ := wrsB_addr (B.states.length : Nat) ws B
        obtain ⟨su, u1, u2⟩ := xb.st
        have lsu := pw_len u2
        rw [at5] at lsu
        have nin : ∀ b, (∃ o, H b = some o) → b ∉ ownN := fun b ⟨o, e⟩ m => by have g := (ow b m).1; rw [e] at g; cases g
        obtain ⟨kvt, tb1, _⟩ := x.tb
        obtain ⟨vs1, kp1, _⟩ := x.kp
        obtain ⟨us1, st1, _⟩ := x.st
        have ninN : ∀ b ∈ ownN, ∀ c, (∃ o, H c = some o) → b ≠ c := fun b hb c ⟨o, e⟩ z => by have g := (ow b hb).1; rw [z, e] at g; cases g
        have fin := xb.addState u1 u2 xs ndN (fun b hb => ⟨ninN b hb _ ⟨_, x.h0⟩, by rw [at1]; exact ninN b hb _ ⟨_, tb1⟩, by rw [at2]; exact ninN b hb _ ⟨_, x.md⟩, by rw [at3]; exact ninN b hb _ ⟨_, st1⟩, by rw [at4]; exact ninN b hb _ ⟨_, kp1⟩⟩) fun b hb => (ow b hb).2
        refine ⟨_, rfl, bk, .ref (wrsB B (B.states.length : Nat) ws).st, rfl, xb.g3, .inl ⟨rfl, _, SqL.of u1⟩, _, rfl, _, _, _, rfl, rfl, u1, Nat.lt_of_le_of_lt (show su.length ≤ 100000 by omega) big, ?_⟩
        rw [at5] at fin
        refine ⟨_, rfl, kk _ _ fin (fun b hb => ?_) fun b o n e => ?_⟩
        · exact (List.mem_append.mp hb).imp id fun m => (ow b m).1
        · have nst : b ≠ (wrsB B (B.states.length : Nat) ws).st := fun c => n (by rw [c, at3]; simp)
          rw [upd_ne nst]
          exact kf b o (fun m => n (by simp only [List.mem_cons, List.not_mem_nil, or_false] at m ⊢; rcases m with h | h | h <;> simp [h])) e
end
end GS

set_option linter.all false
set_option maxHeartbeats 4000000
namespace GS
open PySem L2 HX
def lookR (rs : Rws) (k : Int) : Option Row := (rs.find? fun x => decide (x.1 = k)).map fun x => x.2
def rowsZ (s : StD) (z : Str) : Rws := ((s.find? fun x => decide (x.1 = z)).map fun x => x.2).getD []
def lookS (s : StD) (z : Str) (k : Int) : Option Row := lookR (rowsZ s z) k
/-- a table's rows in a state, by their keys -/
def RowsB (s : StD) (z : Str) (rs : List Row) : Prop := ∃ ks : List Int, ks.Pairwise (· < ·) ∧ (∀ k, k ∈ ks ↔ k ∈ (rowsZ s z).map fun x => x.1) ∧ rs = ks.filterMap (lookS s z)
structure SNd (s : StD) : Prop where
  nd : (s.map fun x => x.1).Nodup
  rs : ∀ x ∈ s, RsOk x.2
theorem SNd.rz {s : StD} (h : SNd s) (z : Str) : RsOk (rowsZ s z) := by
  unfold rowsZ
  cases e : s.find? fun x => decide (x.1 = z) with
  | none => exact ⟨List.nodup_nil, fun x h => by cases h⟩
  | some x => exact h.rs x (List.mem_of_find?_eq_some e)
theorem rowsZ_of {s : StD} (h : (s.map fun x => x.1).Nodup) {x : Str × Rws} (hx : x ∈ s) : rowsZ s x.1 = x.2 := by
  unfold rowsZ
  cases e : s.find? fun y => decide (y.1 = x.1) with
  | none => have := List.find?_eq_none.mp e x hx; simp at this
  | some y =>
    have ey : y.1 = x.1 := by simpa using List.find?_some e
    rw [nodup_inj h (List.mem_of_find?_eq_some e) hx ey]; rfl
theorem rowsZ_not {s : StD} {z : Str} (h : z ∉ s.map fun x => x.1) : rowsZ s z = [] := by
  unfold rowsZ
  rw [List.find?_eq_none.mpr fun y hy => by simp only [decide_eq_true_eq]; exact fun e => h (List.mem_map.mpr ⟨y, hy, e⟩)]
  rfl
theorem lookR_mem {rs : Rws} (h : (rs.map fun x => x.1).Nodup) {x : Int × Row} (hx : x ∈ rs) : lookR rs x.1 = some x.2 := by
  unfold lookR
  cases e : rs.find? fun y => decide (y.1 = x.1) with
  | none => have := List.find?_eq_none.mp e x hx; simp at this
  | some y =>
    have ey : y.1 = x.1 := by simpa using List.find?_some e
    rw [nodup_inj h (List.mem_of_find?_eq_some e) hx ey]; rfl
theorem rk_get {H : Hp} {k : Int} : ∀ {rkv : List (Key × V)} {rs : Rws}, Paired (RkR H) rkv rs → k ∈ rs.map (fun x => x.1) → ∃ v ns, valV rkv (Sum.inl k : Key) = some v ∧ RowAt H (some ns) v ∧ lookR rs k = some ns
  | _, _, .nil, h => by cases h
  | _, x :: rs, .cons (a := kv) h r, m => by
    by_cases c : x.1 = k
    · refine ⟨kv.2, x.2, valV_pos (p := kv) (by rw [h.1, c]), h.2, ?_⟩
      unfold lookR
      rw [List.find?_cons_of_pos (by simpa using c)]; rfl
    · have m : k ∈ rs.map fun x => x.1 := by
        rcases List.mem_cons.mp m with m | m
        · exact absurd m.symm c
        · exact m
      obtain ⟨v, ns, h1, h2, h3⟩ := rk_get r m
      refine ⟨v, ns, (valV_neg (p := kv) fun e => c (by rw [h.1] at e; exact Sum.inl.inj e)).trans h1, h2, ?_⟩
      unfold lookR at h3 ⊢
      rw [List.find?_cons_of_neg (by simpa using c)]; exact h3
theorem rk_keys {H : Hp} : ∀ {rkv : List (Key × V)} {rs : Rws}, Paired (RkR H) rkv rs → rkv.map (·.1) = (rs.map fun x => x.1).map Sum.inl
  | _, _, .nil => rfl
  | _, _, .cons h r => by rw [List.map_cons, List.map_cons, List.map_cons, rk_keys r, h.1]
def spRows (K : PySem.W.Frag) : Sp := fun vs H Q _ => ∃ (bk : Addr) (own : List Addr) (B : BC) (t : Str) (m : Nat) (s : StD), vs = [.ref bk, .str t, .int m] ∧ BAt K H own bk B ∧ B.states[m]? = some s ∧ SNd s ∧
  ∀ p vs' rs H', Same H H' → H p = none → H' p = some (.lst vs') → Paired (fun r v => RowAt H' (some r) v) rs vs' → RowsB s t rs → vs'.length ≤ 60 → Q (.ref p) H'
section
variable {P : Program} {w : World} {K : PySem.W.Frag} {mg : Str → Option Value} {base : Heap}
theorem scRs : FnScope ["_law_b", "_law_table", "_law_moment", "_law_rows_here", "_law_mark"] ["_law_b", "_law_table", "_law_moment"] (defScope s_l_rows) := ⟨rfl, rfl, rfl, by decide +kernel, rfl, by decide +kernel, by decide +kernel⟩
theorem ok_rows {f : Addr} {fd : FuncData} (F : Fun K "_law_rows" "_law_rows" s_l_rows f fd) (T : Txt mg) : FnOk P w K mg base CX0 1 f fd ["_law_b", "_law_table", "_law_moment"] (spRows K) := by
  refine F.ok scRs (fun vs H Q E h => ?_) (fun cdv A outer s H vs Q E hr h => ?_)
  · obtain ⟨bk, own, B, t, m, s, rfl, _⟩ := h
    rfl
  · obtain ⟨bk, own, B, t, m, s0, rfl, x, es, snd, kk⟩ := h
    have big : (100000 : Nat) < sizeLine := by decide
    refine ⟨_, (pss_cons (ps_set (i := 3) scRs.nd rfl (Or.inr rfl) (pe_dget2 (hu_of hr) (pe_ix (RK.ixL (K := K)) (pe_dget (hu_of hr) (pv 0) pe_str (fun _ _ => rfl)) (pv 2) (fun _ _ => rfl)) (pv 1) pe_dnewK ⟨rfl, rfl, rfl, rfl⟩))
      (pss_one (ps_ret (pe_lc (own := [("_law_mark", 4)]) rfl scRs.nd (RK.piL (K := K) (pe_callB (call_sortedDI rfl) (by rfl) T.sorted (by decide +kernel) (pa_cons (pv 3) pa_nil))) (blkOk_by (N := ["_law_b", "_law_table", "_law_moment", "_law_rows_here", "_law_mark"]) (sc := defScope s_l_rows) (by decide +kernel)) (fun _ _ _ _ _ => (pg_name (i := 4) scRs.nd rfl (Or.inl rfl))) (fun _ _ _ _ _ => pts_nil) (fun _ _ _ _ _ => (pe_dget (hu_of hr) (pv 3) (pv 4) (fun _ _ => rfl))))))), ?_⟩
    obtain ⟨us, u1, u2⟩ := x.st
    obtain ⟨v, ev, o, sub, ndo, a, rl, rfl, eo, a1, a2⟩ := pw_get' u2 es
    refine sa1 ?_
    refine ⟨_, rfl, bk, .ref B.st, rfl, x.g3, _, rfl, B.st, us, m, .ref a, rfl, rfl, SqL.of u1, atI_nat ev, a, rfl, .inl ⟨_, .inl a1⟩, _, rfl, ?_⟩
    intro e he
    have s1 := same_new (o := .dK []) he
    have e1 : (upd H e (.dK [])) e = some (.dK []) := upd_same
    generalize upd H e (.dK []) = H1 at s1 e1
    refine ⟨valV (skvS s0 rl) (Sum.inr t), DGet.k (k := Sum.inr t) (s1 _ _ a1), gn ?_⟩
    -- the rows
    obtain ⟨r, rkv, er, r1, r2⟩ : ∃ r rkv, (valV (skvS s0 rl) (Sum.inr t : Key)).getD (.ref e) = .ref r ∧ H1 r = some (.dK rkv) ∧ Paired (RkR H1) rkv (rowsZ s0 t) := by
      by_cases mt : t ∈ s0.map fun x => x.1
      · obtain ⟨r, xr, _, mx, ex, ev, rkv, f1, f2⟩ := skvS_get a2 mt
        rw [ev, ← ex, rowsZ_of snd.nd mx]
        exact ⟨r, rkv, rfl, s1 _ _ f1, pw_imp (fun _ _ ⟨g1, g2⟩ => ⟨g1, RowAt.keep (TK.same s1) g2⟩) f2⟩
      · have nv : valV (skvS s0 rl) (Sum.inr t : Key) = none := valV_none fun m => by
          rw [skvS_keys (pw_len a2)] at m
          obtain ⟨y, hy, ey⟩ := List.mem_map.mp m
          exact mt (List.mem_map.mpr ⟨y, hy, Sum.inr.inj ey⟩)
        rw [rowsZ_not mt, nv]
        exact ⟨e, [], rfl, e1, .nil⟩
    rw [er]
    have rok := snd.rz t
    have lrs := rok.len
    refine ⟨_, rfl, r, rkv, (rowsZ s0 t).map fun x => x.1, rfl, .inl r1, rk_keys r2, by rw [List.length_map]; omega, fun ys p pm so hp => ?_⟩
    have s2 := same_new (o := .lst (ys.map V.int)) hp
    have p1 : (upd H1 p (.lst (ys.map V.int))) p = some (.lst (ys.map V.int)) := upd_same
    generalize upd H1 p (.lst (ys.map V.int)) = H2 at s2 p1
    have r12 := s2 _ _ r1
    have s12 := s1.trans s2
    have ly : (ys.map V.int).length = ys.length := List.length_map ..
    have ly2 : ys.length ≤ 60 := by rw [pm.length_eq, List.length_map]; exact lrs
    refine ⟨p, rfl, ⟨_, SqL.of p1⟩, fun D hD => ?_⟩
    refine lc_it (walk_list (xs := ys.map V.int)) (fun i H' => (∀ b o, b ≠ D → H2 b = some o → H' b = some o) ∧ ∃ vs', H' D = some (.lst vs') ∧ Paired (fun r v => RowAt H' (some r) v) ((ys.take i).filterMap (lookS s0 t)) vs' ∧ vs'.length = i)
      ⟨fun b o nb e => by rw [upd_ne nb]; exact e, [], upd_same, .nil, rfl⟩ (fun i H' _ q => SqL.of (q.1 _ _ (ne_of_none p1 hD) p1)) ?_ ?_
    · rintro i y H0 H' hi ⟨kp, vs', hd, rows, lv⟩ ⟨rfl, ey⟩
      obtain ⟨k, ek, rfl⟩ := getI ey
      have tk1 : ys.take (i + 1) = ys.take i ++ [k] := by rw [List.take_add_one, ek]; rfl
      obtain ⟨v, ns, vq, hv, lkk⟩ := rk_get r2 (pm.mem_iff.mp (List.mem_of_getElem? ek))
      have tkH : TK H1 H' := fun b u hu e => kp b u (ne_of_none (s2 _ _ e) hD) (s2 _ _ e)
      have tkD : TK H' (upd H' D (.lst (vs' ++ [v]))) := fun b u hu e => by rw [upd_ne (ne_of e hd (by intro z; subst z; exact hu))]; exact e
      refine ⟨rfl, _, rfl, _, rfl, r, v, rfl, vq ▸ DGet.k (k := Sum.inl k) (kp _ _ (ne_of_none r12 hD) r12), _, hd, ?_, fun b o nb e => by rw [upd_ne nb]; exact kp b o nb e, vs' ++ [v], upd_same, ?_, by rw [List.length_append, lv]; rfl⟩
      · exact Nat.lt_of_le_of_lt (show vs'.length ≤ 100000 by have : i < ys.length := ly ▸ hi; omega) big
      · have e0 : ([k] : List Int).filterMap (lookS s0 t) = [ns] := by rw [List.filterMap_cons, show lookS s0 t k = some ns from lkk]; rfl
        rw [tk1, List.filterMap_append, e0]
        exact pw_app (pw_imp (fun _ _ h => RowAt.keep tkD h) rows) (.cons (RowAt.keep (TK.trans tkH tkD) hv) .nil)
    · rintro H' ⟨kp, vs', hd, rows, lv⟩
      rw [ly, List.take_length] at rows
      refine kk D vs' _ H' (fun b o e => kp b o (ne_of_none (s12 _ _ e) hD) (s12 _ _ e)) (none_of_same s12 hD) hd rows ⟨ys, ?_, fun k => pm.mem_iff, rfl⟩ (by omega)
      have nd := pm.nodup_iff.mpr rok.nd
      exact (so.and nd).imp fun {a b} ⟨h1, h2⟩ => by omega
end
end GS

set_option linter.all false
set_option maxHeartbeats 4000000
namespace GS
open PySem L2 HX
/-- a table as content tells it -/
def ZcAt (K : PySem.W.Frag) (H : Hp) (B : BC) (z : Str) (v : V) : Prop := ∃ q f t, v = .ref q ∧ t ∈ B.tabs ∧ t.1 = z ∧ SqT K H q [.str z, .ref f] ∧ BT K H f (t.2.2.map V.str)
theorem ZcAt.keep {K : PySem.W.Frag} {H H' : Hp} {B : BC} {z : Str} {v : V} (k : TK H H') (h : ZcAt K H B z v) : ZcAt K H' B z v := by
  obtain ⟨q, f, t, a, b, c, d, e⟩ := h
  exact ⟨q, f, t, a, b, c, sqt_keep k d, e.keep k⟩
def numOf (B : BC) (z : Str) : Int := ((B.tabs.find? fun t => decide (t.1 = z)).map fun t => t.2.1).getD 0
def mdOf (B : BC) (ks : List L2.Key) : Int := match valV (mdkv B.made) ks with
  | some (.int n) => n
  | _ => 0
theorem numOf_of {B : BC} (nd : (B.tabs.map fun t => t.1).Nodup) {t : Tin} (ht : t ∈ B.tabs) : numOf B t.1 = t.2.1 := by
  unfold numOf
  cases e : B.tabs.find? fun y => decide (y.1 = t.1) with
  | none => have := List.find?_eq_none.mp e t ht; simp at this
  | some y =>
    have ey : y.1 = t.1 := by simpa using List.find?_some e
    rw [nodup_inj nd (List.mem_of_find?_eq_some e) ht ey]; rfl
theorem pw_sorted_eq : ∀ {xs ys : List Int}, xs.Pairwise (· < ·) → ys.Pairwise (· < ·) → (∀ k, k ∈ xs ↔ k ∈ ys) → xs = ys
  | [], [], _, _, _ => rfl
  | [], y :: ys, _, _, h => absurd ((h y).mpr (List.mem_cons_self ..)) List.not_mem_nil
  | x :: xs, [], _, _, h => absurd ((h x).mp (List.mem_cons_self ..)) List.not_mem_nil
  | x :: xs, y :: ys, hx, hy, h => by
    obtain ⟨x1, x2⟩ := List.pairwise_cons.mp hx
    obtain ⟨y1, y2⟩ := List.pairwise_cons.mp hy
    have e : x = y := by
      rcases List.mem_cons.mp ((h x).mp (List.mem_cons_self ..)) with e | m
      · exact e
      · rcases List.mem_cons.mp ((h y).mpr (List.mem_cons_self ..)) with e | m2
        · exact e.symm
        · have a := y1 x m
          have b := x1 y m2
          omega
    subst e
    congr 1
    refine pw_sorted_eq x2 y2 fun k => ⟨fun m => ?_, fun m => ?_⟩
    · rcases List.mem_cons.mp ((h k).mp (List.mem_cons_of_mem _ m)) with e | m2
      · have := x1 k m; omega
      · exact m2
    · rcases List.mem_cons.mp ((h k).mpr (List.mem_cons_of_mem _ m)) with e | m2
      · have := y1 k m; omega
      · exact m2
theorem rowsB_eq {s : StD} {z : Str} {rs rs' : List Row} (h : RowsB s z rs) (h' : RowsB s z rs') : rs = rs' := by
  obtain ⟨ks, a, b, c⟩ := h
  obtain ⟨ks', a', b', c'⟩ := h'
  rw [c, c', pw_sorted_eq a a' fun k => (b k).trans (b' k).symm]
def spCont (K : PySem.W.Frag) : Sp := fun vs H Q _ => ∃ (bk : Addr) (own : List Addr) (B : BC) (m : Nat) (s : StD), vs = [.ref bk, .int m] ∧ BAt K H own bk B ∧ B.states[m]? = some s ∧ SNd s ∧ (B.tabs.map fun t => t.1).Nodup ∧ B.tabs.length ≤ 10 ∧ B.made.length ≤ 100 ∧
  ∀ p p0 p1 p2 (ys0 : List Str) us0 (L bs : List SD.KAd) (zs : List Zr) us2 H', Same H H' → H' p = some (.tup [.ref p0, .ref p1, .ref p2]) →
    ys0.Perm (B.tabs.map fun t => t.1) → PyProof.Rows.sortedS ys0 = true → H' p0 = some (.tup us0) → Paired (ZcAt K H' B) (ys0.filter fun z => decide (numOf B z ≤ m)) us0 →
    L = bs.mergeSort (PySem.W.dataLe false SD.encK) → (L.map fun q => q.2).Perm ((mdkv B.made).map (·.1)) → (∀ q ∈ L, H' q.1 = some (.tup (q.2.map kV))) → H' p1 = some (.tup ((L.filter fun q => decide (mdOf B q.2 ≤ m)).map fun q => V.ref q.1)) →
    zs.map (fun x => x.1) = (ys0.filter fun z => decide (numOf B z ≤ m)) → (∀ x ∈ zs, RowsB s x.1 x.2) → H' p2 = some (.tup us2) → Paired (ZrAt H') (zs.filter fun x => !x.2.isEmpty) us2 → us0.length ≤ 10 → Q (.ref p) H'
theorem tin_keys {K : PySem.W.Frag} {H : Hp} : ∀ {kvs : List (Key × V)} {xs : List Tin}, Paired (TinAt K H) kvs xs → kvs.map (·.1) = (xs.map fun t => t.1).map Sum.inr
  | _, _, .nil => rfl
  | _, _, .cons h r => by rw [List.map_cons, List.map_cons, List.map_cons, tin_keys r, h.1]
theorem tin_get {K : PySem.W.Frag} {H : Hp} {z : Str} : ∀ {kvs : List (Key × V)} {xs : List Tin}, Paired (TinAt K H) kvs xs → z ∈ xs.map (fun t => t.1) → ∃ t ∈ xs, t.1 = z ∧ ∃ p f, valV kvs (Sum.inr z) = some (.ref p) ∧ SqT K H p [.int t.2.1, .ref f] ∧ BT K H f (t.2.2.map V.str)
  | _, _, .nil, h => by cases h
  | _, x :: xs, .cons (a := kv) ⟨e, p, f, e2, h1, h2⟩ r, h => by
    by_cases c : x.1 = z
    · refine ⟨x, List.mem_cons_self .., c, p, f, ?_, h1, h2⟩
      rw [← c, ← e2]
      exact valV_pos e
    · have h : z ∈ xs.map fun t => t.1 := by
        rcases List.mem_cons.mp h with h | h
        · exact absurd h.symm c
        · exact h
      obtain ⟨t, mt, et, p, f, e3, g⟩ := tin_get r h
      exact ⟨t, List.mem_cons_of_mem _ mt, et, p, f, (valV_neg (fun q => c (Sum.inr.inj (e.symm.trans q)))).trans e3, g⟩
section
variable {P : Program} {w : World} {K : PySem.W.Frag} {mg : Str → Option Value} {base : Heap}
theorem scCt : FnScope ["_law_b", "_law_moment", "_law_tables", "_law_name", "_law_pairs", "_law_pair", "_law_rows_here", "_law_fields"] ["_law_b", "_law_moment"] (defScope s_l_content) := ⟨rfl, rfl, rfl, by decide +kernel, rfl, by decide +kernel, by decide +kernel⟩
theorem ok_cont {f fr : Addr} {fd fdr : FuncData} (F : Fun K "_law_content" "_law_content" s_l_content f fd) (T : Txt mg) (Crows : Cal P w K mg base 1 "_law_rows" ["_law_b", "_law_table", "_law_moment"] (spRows K) fr fdr) : FnOk P w K mg base CX0 2 f fd ["_law_b", "_law_moment"] (spCont K) := by
  refine F.ok scCt (fun vs H Q E h => ?_) (fun cdv A outer s H vs Q E hr h => ?_)
  · obtain ⟨bk, own, B, m, s, rfl, _⟩ := h
    rfl
  · obtain ⟨bk, own, B, m, s0, rfl, x, lm, snd, nd, l10, l100, kk⟩ := h
    have hr1 : Room 1 _ := hr
    have big : (100000 : Nat) < sizeLine := by decide
    have hu3 := Nat.lt_of_le_of_lt (Nat.add_le_add_left (show 3 ≤ 66 by decide) _) (room66 hr)
    have hu2 := Nat.lt_of_le_of_lt (Nat.add_le_add_left (show 2 ≤ 66 by decide) _) (room66 hr)
    refine ⟨_, (pss_cons (ps_setLc (i := 2) (own := [("_law_name", 3)]) rfl scCt.nd rfl rfl (sw_true rfl rfl rfl (by decide +kernel)) (RK.piL (K := K) (pe_callB (call_sortedD rfl) (by rfl) T.sorted (by decide +kernel) (pa_cons (pe_dget (hu_of hr) (pv 0) pe_str (fun _ _ => rfl)) pa_nil))) (blkOk_by (N := ["_law_b", "_law_moment", "_law_tables", "_law_name", "_law_pairs", "_law_pair", "_law_rows_here", "_law_fields"]) (sc := defScope s_l_content) (by decide +kernel)) (fun _ _ _ _ _ => (pg_name (i := 3) scCt.nd rfl (Or.inl rfl))) (fun _ _ _ _ _ => (pts_one (pt_cmpR op_le (pe_ix (RK.ixT (K := K)) (pe_dget (hu_of hr) (pe_dget (hu_of hr) (pv 0) pe_str (fun _ _ => rfl)) (pv 3) (fun _ _ => rfl)) pe_int (fun _ _ => rfl)) (pv 1) (nomark _)))) (fun _ _ _ _ _ => (pe_tup (pa_cons (pv 3) (pa_cons (pe_ix (RK.ixT (K := K)) (pe_dget (hu_of hr) (pe_dget (hu_of hr) (pv 0) pe_str (fun _ _ => rfl)) (pv 3) (fun _ _ => rfl)) pe_int (fun _ _ => rfl)) pa_nil)))))
      (pss_cons (ps_setLc (i := 4) (own := [("_law_pair", 5)]) rfl scCt.nd rfl rfl (sw_true rfl rfl rfl (by decide +kernel)) (RK.piL (K := K) (pe_callB (SD.cr_sortedDT rfl hu3) (by rfl) T.sorted (by decide +kernel) (pa_cons (pe_dget (hu_of hr) (pv 0) pe_str (fun _ _ => rfl)) pa_nil))) (blkOk_by (N := ["_law_b", "_law_moment", "_law_tables", "_law_name", "_law_pairs", "_law_pair", "_law_rows_here", "_law_fields"]) (sc := defScope s_l_content) (by decide +kernel)) (fun _ _ _ _ _ => (pg_name (i := 5) scCt.nd rfl (Or.inl rfl))) (fun _ _ _ _ _ => (pts_one (pt_cmpR op_le (pe_dget (hu_of hr) (pe_dget (hu_of hr) (pv 0) pe_str (fun _ _ => rfl)) (pv 5) (fun _ _ => rfl)) (pv 1) (nomark _)))) (fun _ _ _ _ _ => (pv 5)))
      (pss_cons (ps_setLc (i := 6) (own := [("_law_name", 3), ("_law_fields", 7)]) rfl scCt.nd rfl rfl (sw_true rfl rfl rfl (by decide +kernel)) (RK.piL (K := K) (pv 2)) (blkOk_by (N := ["_law_b", "_law_moment", "_law_tables", "_law_name", "_law_pairs", "_law_pair", "_law_rows_here", "_law_fields"]) (sc := defScope s_l_content) (by decide +kernel)) (fun _ _ _ _ _ => (RK.pgTup (K := K) (n := 2) rfl (pgs_cons (pg_name (i := 3) scCt.nd rfl (Or.inl rfl)) (pgs_cons (pg_name (i := 7) scCt.nd rfl (Or.inl rfl)) pgs_nil)))) (fun _ _ _ _ _ => (pts_one (pt_cmpR (NE.op_ne0 (K := K) hu2) (pe_call Crows.G hr1 (by rfl) Crows.g Crows.kp Crows.b .nil pass0 (pa_cons (pv 0) (pa_cons (pv 3) (pa_cons (pv 1) pa_nil)))) (pe_lst pa_nil) (nomark _)))) (fun _ _ _ _ _ => (pe_tup (pa_cons (pv 3) (pa_cons (pe_callTy (RK.tupQ (K := K)) (by rfl) T.tuple (by decide +kernel) (pa_cons (pe_call Crows.G hr1 (by rfl) Crows.g Crows.kp Crows.b .nil pass0 (pa_cons (pv 0) (pa_cons (pv 3) (pa_cons (pv 1) pa_nil)))) pa_nil)) pa_nil)))))
      (pss_one (ps_ret (pe_tup (pa_cons (pe_callTy (RK.tupQ (K := K)) (by rfl) T.tuple (by decide +kernel) (pa_cons (pv 2) pa_nil)) (pa_cons (pe_callTy (RK.tupQ (K := K)) (by rfl) T.tuple (by decide +kernel) (pa_cons (pv 4) pa_nil)) (pa_cons (pe_callTy (RK.tupQ (K := K)) (by rfl) T.tuple (by decide +kernel) (pa_cons (pv 6) pa_nil)) pa_nil))))))))), ?_⟩
    obtain ⟨kvt, tb1, tb2⟩ := x.tb
    have keys := tin_keys tb2
    -- the tables
    refine ⟨_, rfl, bk, .ref B.tb, rfl, x.g1, B.tb, kvt, B.tabs.map fun t => t.1, rfl, .inl tb1, keys, by rw [List.length_map]; omega, fun ys p0 pm so hp0 => ?_⟩
    have s1 := same_new (o := .lst (ys.map V.str)) hp0
    have p01 : (upd H p0 (.lst (ys.map V.str))) p0 = some (.lst (ys.map V.str)) := upd_same
    generalize upd H p0 (.lst (ys.map V.str)) = H1 at s1 p01
    have lys : (ys.map V.str).length = ys.length := List.length_map ..
    have ly10 : ys.length ≤ 10 := by rw [pm.length_eq, List.length_map]; exact l10
    refine ⟨p0, rfl, ⟨_, SqL.of p01⟩, fun D hD => ?_⟩
    refine lc_it (walk_list (xs := ys.map V.str)) (fun i H' => (∀ b o, b ≠ D → H1 b = some o → H' b = some o) ∧ ∃ us : List V, H' D = some (.lst us) ∧ Paired (ZcAt K H' B) ((ys.take i).filter fun z => decide (numOf B z ≤ m)) us)
      ⟨fun b o n e => by rw [upd_ne n]; exact e, [], upd_same, .nil⟩ (fun i H' _ q => SqL.of (q.1 _ _ (ne_of_none p01 hD) p01)) ?_ ?_
    · rintro i y H0 H' hi ⟨kp, us, hd, pc⟩ ⟨rfl, ey⟩
      rw [List.getElem?_map] at ey
      cases ez : ys[i]? with
      | none => rw [ez] at ey; cases ey
      | some z =>
        rw [ez] at ey
        obtain rfl := Option.some.inj ey
        have sH : Same H H' := fun b o e => kp b o (ne_of_none (s1 _ _ e) hD) (s1 _ _ e)
        have mz : z ∈ B.tabs.map fun t => t.1 := pm.mem_iff.mp (List.mem_of_getElem? ez)
        obtain ⟨t, ht, et, pt, ft, evt, t1, t2⟩ := tin_get tb2 mz
        have x' := x.same' sH
        have dg : DGet H' B.tb (.str z) (some (.ref pt)) := evt ▸ DGet.k (k := Sum.inr z) (sH _ _ tb1)
        have t1' := sqt_keep (TK.same sH) t1
        have tk1 : ys.take (i + 1) = ys.take i ++ [z] := by rw [List.take_add_one, ez]; rfl
        have nz : numOf B z = t.2.1 := by rw [← et]; exact numOf_of nd ht
        have lu := pw_len pc
        have lf := List.length_filter_le (fun z => decide (numOf B z ≤ m)) (ys.take i)
        rw [List.length_take] at lf
        refine ⟨rfl, _, rfl, bk, .ref B.tb, rfl, x'.g1, _, rfl, B.tb, .ref pt, rfl, dg, pt, _, 0, _, rfl, rfl, t1', at0, _, rfl, t.2.1, m, rfl, rfl, _, rfl, ?_⟩
        dsimp only
        by_cases c : t.2.1 ≤ (m : Int)
        · rw [decide_eq_true c]
          have ef : ([z] : List Str).filter (fun z => decide (numOf B z ≤ m)) = [z] := by rw [List.filter_cons, if_pos (by rw [nz]; exact decide_eq_true c)]; rfl
          refine iteT ?_
          refine ⟨_, rfl, _, rfl, bk, .ref B.tb, rfl, x'.g1, _, rfl, B.tb, .ref pt, rfl, dg, pt, _, 1, _, rfl, rfl, t1', rfl, by show 2 ≤ sizeLine; decide, fun q hq => ?_⟩
          have s2 := same_new (o := .tup [.str z, .ref ft]) hq
          have q1 : (upd H' q (.tup [.str z, .ref ft])) q = some (.tup [.str z, .ref ft]) := upd_same
          generalize upd H' q (.tup [.str z, .ref ft]) = H2 at s2 q1
          have hd2 := s2 _ _ hd
          have tk2 : TK H2 (upd H2 D (.lst (us ++ [.ref q]))) := fun b u hu e => by rw [upd_ne (ne_of e hd2 (by intro z; subst z; exact hu))]; exact e
          refine ⟨us, hd2, Nat.lt_of_le_of_lt (show us.length ≤ 100000 by omega) big, fun b o n e => by rw [upd_ne n]; exact s2 _ _ (kp b o n e), us ++ [.ref q], upd_same, ?_⟩
          rw [tk1, List.filter_append, ef]
          exact pw_app (pw_imp (fun _ _ h => h.keep (TK.trans (TK.same s2) tk2)) pc) (.cons ⟨q, ft, t, rfl, ht, et, SqT.of (tk2.tup q1), t2.keep (TK.trans (TK.trans (TK.same sH) (TK.same s2)) tk2)⟩ .nil)
        · rw [decide_eq_false c]
          have ef : ([z] : List Str).filter (fun z => decide (numOf B z ≤ m)) = [] := by rw [List.filter_cons, if_neg (by rw [nz, decide_eq_false c]; exact Bool.false_ne_true)]; rfl
          refine iteF ⟨kp, us, hd, ?_⟩
          rw [tk1, List.filter_append, ef, List.append_nil]; exact pc
    · rintro H' ⟨kp, us, hd, pc⟩
      rw [lys, List.take_length] at pc
      have lus : us.length ≤ 10 := by
        have a := pw_len pc
        have b := List.length_filter_le (fun z => decide (numOf B z ≤ m)) ys
        omega
      have sH : Same H H' := fun b o e => kp b o (ne_of_none (s1 _ _ e) hD) (s1 _ _ e)
      refine gn ?_
      have hd := hd
      have x1 := x.same' sH
      -- the indexes
      refine ⟨_, rfl, bk, .ref B.md, rfl, x1.g2, B.md, mdkv B.made, rfl, x1.md, fun q hq => ?_, fun q hq q' hq' => ?_, fun L hL pmL eL p1 hp1 => ?_⟩
      · obtain ⟨y, _, rfl⟩ := List.mem_map.mp hq
        exact fun z => by cases z
      · obtain ⟨y, _, rfl⟩ := List.mem_map.mp hq
        obtain ⟨y', _, rfl⟩ := List.mem_map.mp hq'
        rfl
      obtain ⟨bs, eL⟩ := eL
      have s2 := same_new (o := .lst (L.map fun q => V.ref q.1)) hp1
      have p11 : (upd H' p1 (.lst (L.map fun q => V.ref q.1))) p1 = some (.lst (L.map fun q => V.ref q.1)) := upd_same
      generalize upd H' p1 (.lst (L.map fun q => V.ref q.1)) = H2 at s2 p11
      have lL : (L.map fun q => V.ref q.1).length = L.length := List.length_map ..
      have lL2 : L.length ≤ 100 := by
        have z := pmL.length_eq
        rw [List.length_map, List.length_map] at z
        unfold mdkv at z
        rw [List.length_map] at z
        omega
      refine ⟨p1, rfl, ⟨_, SqL.of p11⟩, fun D2 hD2 => ?_⟩
      have sH2 := sH.trans s2
      refine lc_it (walk_list (xs := L.map fun q => V.ref q.1)) (fun i H' => (∀ b o, b ≠ D2 → H2 b = some o → H' b = some o) ∧ H' D2 = some (.lst (((L.take i).filter fun q => decide (mdOf B q.2 ≤ m)).map fun q => V.ref q.1)))
        ⟨fun b o n e => by rw [upd_ne n]; exact e, upd_same⟩ (fun i H' _ q => SqL.of (q.1 _ _ (ne_of_none p11 hD2) p11)) ?_ ?_
      · rintro i y H0 H3 hi ⟨kp2, hd2⟩ ⟨rfl, ey⟩
        rw [List.getElem?_map] at ey
        cases ez : L[i]? with
        | none => rw [ez] at ey; cases ey
        | some z =>
          rw [ez] at ey
          obtain rfl := Option.some.inj ey
          have tk1 : L.take (i + 1) = L.take i ++ [z] := by rw [List.take_add_one, ez]; rfl
          have sH3 : Same H H3 := fun b o e => kp2 b o (ne_of_none (sH2 _ _ e) hD2) (sH2 _ _ e)
          have s13 : Same H' H3 := fun b o e => kp2 b o (ne_of_none (s2 _ _ e) hD2) (s2 _ _ e)
          have x3 := x.same' sH3
          have mz : z.2 ∈ (mdkv B.made).map (·.1) := pmL.mem_iff.mp (List.mem_map_of_mem (f := fun q : SD.KAd => q.2) (List.mem_of_getElem? ez))
          obtain ⟨n0, en0⟩ : ∃ n0 : Int, valV (mdkv B.made) z.2 = some (.int n0) := by
            cases e : valV (mdkv B.made) z.2 with
            | none =>
              have q := valV_any (κ := List L2.Key) (k := z.2) (kvs := mdkv B.made)
              rw [e] at q
              obtain ⟨y, my, ey⟩ := List.mem_map.mp mz
              rw [List.any_eq_true.mpr ⟨y, my, decide_eq_true ey⟩] at q
              cases q
            | some v =>
              unfold valV at e
              cases e2 : (mdkv B.made).find? fun kv => decide (kv.1 = z.2) with
              | none => rw [e2] at e; cases e
              | some y =>
                rw [e2] at e
                obtain ⟨y0, _, ey0⟩ := List.mem_map.mp (List.mem_of_find?_eq_some e2)
                have e : y.2 = v := Option.some.inj e
                exact ⟨y0.2, by rw [← e, ← ey0]⟩
          have em : mdOf B z.2 = n0 := by unfold mdOf; rw [en0]
          have zt := hL z (List.mem_of_getElem? ez)
          refine ⟨rfl, _, rfl, bk, .ref B.md, rfl, x3.g2, _, rfl, B.md, .int n0, rfl, en0 ▸ DGet.t (k := z.2) x3.md (s13 _ _ zt), _, rfl, n0, m, rfl, rfl, _, rfl, ?_⟩
          dsimp only
          by_cases c : n0 ≤ (m : Int)
          · rw [decide_eq_true c]
            have ef : ([z] : List SD.KAd).filter (fun q => decide (mdOf B q.2 ≤ m)) = [z] := by rw [List.filter_cons, if_pos (by rw [em]; exact decide_eq_true c)]; rfl
            refine iteT ⟨_, rfl, _, hd2, ?_, fun b o n e => by rw [upd_ne n]; exact kp2 b o n e, ?_⟩
            · rw [List.length_map]
              refine Nat.lt_of_le_of_lt (Nat.le_trans (List.length_filter_le _ _) ?_) big
              rw [List.length_take]; omega
            · rw [upd_same, tk1, List.filter_append, ef, List.map_append]; rfl
          · rw [decide_eq_false c]
            have ef : ([z] : List SD.KAd).filter (fun q => decide (mdOf B q.2 ≤ m)) = [] := by rw [List.filter_cons, if_neg (by rw [em, decide_eq_false c]; exact Bool.false_ne_true)]; rfl
            refine iteF ⟨kp2, ?_⟩
            rw [tk1, List.filter_append, ef, List.append_nil]; exact hd2
      · rintro H3 ⟨kp2, hd2⟩
        rw [lL, List.take_length] at hd2
        refine gn ?_
        have s13 : Same H' H3 := fun b o e => kp2 b o (ne_of_none (s2 _ _ e) hD2) (s2 _ _ e)
        have sH3 := sH.trans s13
        have hdD := s13 _ _ hd
        have lzs := pw_len pc
        -- the rows
        refine ⟨_, rfl, D, rfl, ⟨_, SqL.of hdD⟩, fun D3 hD3 => ?_⟩
        refine lc_it (walk_list (xs := us)) (fun i H' => (∀ b o, b ≠ D3 → H3 b = some o → H' b = some o) ∧ ∃ (zs : List Zr) (us3 : List V), H' D3 = some (.lst us3) ∧ Paired (ZrAt H') (zs.filter fun x => !x.2.isEmpty) us3 ∧ zs.map (fun x => x.1) = ((ys.filter fun z => decide (numOf B z ≤ m)).take i) ∧ ∀ x ∈ zs, RowsB s0 x.1 x.2)
          ⟨fun b o n e => by rw [upd_ne n]; exact e, [], [], upd_same, .nil, rfl, fun x h => by cases h⟩ (fun i H' _ q => SqL.of (q.1 _ _ (ne_of_none hdD hD3) hdD)) ?_ ?_
        · rintro i y H0 H4 hi ⟨kp3, zs, us3, hd3, pz, ez, rz⟩ ⟨rfl, ey⟩
          obtain ⟨u, eu, pu, fu, tu, rfl, g0, g00, g1, g2⟩ := pw_get pc ey
          have tk1 : (ys.filter fun z => decide (numOf B z ≤ m)).take (i + 1) = (ys.filter fun z => decide (numOf B z ≤ m)).take i ++ [u] := by rw [List.take_add_one, eu]; rfl
          have sH4 : Same H' H4 := fun b o e => kp3 b o (ne_of_none (s13 _ _ e) hD3) (s13 _ _ e)
          have hi' : i < us.length := hi
          have lz := congrArg List.length ez
          rw [List.length_map, List.length_take] at lz
          have lp := pw_len pz
          have lf := List.length_filter_le (fun x : Zr => !x.2.isEmpty) zs
          refine ⟨pu, _, rfl, sqt_keep (TK.same sH4) g1, rfl, _, _, rfl, _, _, rfl, rfl, rfl, ?_⟩
          refine ⟨_, rfl, _, rfl, _, rfl, bk, own, B, u, m, s0, rfl, x.same' (sH.trans sH4), lm, snd, fun q vs' rs H5 s5 hq hv pr rB lv => ?_⟩
          refine ⟨by show 0 ≤ sizeLine; decide, fun e he => ?_⟩
          have s6 := same_new (o := .lst []) he
          have e6 : (upd H5 e (.lst [])) e = some (.lst []) := upd_same
          generalize upd H5 e (.lst []) = H6 at s6 e6
          have s46 := s5.trans s6
          refine ⟨q, e, vs', rfl, rfl, SqL.of (s6 _ _ hv), e6, _, rfl, ?_⟩
          have lrv := pw_len pr
          cases c : vs'.isEmpty with
          | true =>
            have e0 : rs = [] := List.length_eq_zero_iff.mp (by rw [lrv]; exact List.length_eq_zero_iff.mpr (List.isEmpty_iff.mp c))
            have ef : ([(u, rs)] : List Zr).filter (fun x => !x.2.isEmpty) = [] := by rw [e0]; rfl
            refine iteF ⟨fun b o n e => s46 _ _ (kp3 b o n e), zs ++ [(u, rs)], us3, s46 _ _ hd3, ?_, by rw [List.map_append, ez, tk1]; rfl, fun x hx => ?_⟩
            · rw [List.filter_append, ef, List.append_nil]
              exact pw_imp (fun _ _ h => ZrAt.keep (TK.same s46) h) pz
            · rcases List.mem_append.mp hx with hx | hx
              · exact rz x hx
              · rw [List.mem_singleton.mp hx]; exact rB
          | false =>
            refine iteT ⟨_, rfl, _, rfl, _, rfl, _, rfl, bk, own, B, u, m, s0, rfl, x.same' ((sH.trans sH4).trans s46), lm, snd, fun q2 vs2 rs2 H7 s7 hq2 hv2 pr2 rB2 lv2 => ?_⟩
            refine ⟨q2, vs2, rfl, .inl ⟨SqL.of hv2, fun l hl => ?_⟩⟩
            have s8 := same_new (o := .tup vs2) hl
            have l8 : (upd H7 l (.tup vs2)) l = some (.tup vs2) := upd_same
            generalize upd H7 l (.tup vs2) = H8 at s8 l8
            refine ⟨by show 2 ≤ sizeLine; decide, fun t ht => ?_⟩
            have s9 := same_new (o := .tup [.str u, .ref l]) ht
            have t9 : (upd H8 t (.tup [.str u, .ref l])) t = some (.tup [.str u, .ref l]) := upd_same
            generalize upd H8 t (.tup [.str u, .ref l]) = H9 at s9 t9
            have s49 := (s46.trans s7).trans (s8.trans s9)
            have hd9 := s49 _ _ hd3
            have ers : rs2 = rs := rowsB_eq rB2 rB
            have tkD : TK H9 (upd H9 D3 (.lst (us3 ++ [.ref t]))) := fun b u hu e => by rw [upd_ne (ne_of e hd9 (by intro z; subst z; exact hu))]; exact e
            have ef : ([(u, rs2)] : List Zr).filter (fun x => !x.2.isEmpty) = [(u, rs2)] := by
              have ne : rs2 ≠ [] := fun e0 => by
                rw [← ers, e0] at lrv
                rw [List.isEmpty_iff.mpr (List.length_eq_zero_iff.mp lrv.symm)] at c
                cases c
              cases rs2 with
              | nil => exact absurd rfl ne
              | cons _ _ => rfl
            refine ⟨us3, hd9, Nat.lt_of_le_of_lt (show us3.length ≤ 100000 by omega) big, fun b o n e => by rw [upd_ne n]; exact s49 _ _ (kp3 b o n e), zs ++ [(u, rs2)], us3 ++ [.ref t], upd_same, ?_, by rw [List.map_append, ez, tk1]; rfl, fun x hx => ?_⟩
            · rw [List.filter_append, ef]
              refine pw_app (pw_imp (fun _ _ h => ZrAt.keep (TK.trans (TK.same s49) tkD) h) pz) (.cons ⟨t, l, vs2, rfl, tkD.tup t9, tkD.tup (s9 _ _ l8), ?_⟩ .nil)
              exact pw_imp (fun _ _ h => RowAt.keep (TK.trans (TK.same (s8.trans s9)) tkD) h) pr2
            · rcases List.mem_append.mp hx with hx | hx
              · exact rz x hx
              · rw [List.mem_singleton.mp hx]; exact rB2
        · rintro H4 ⟨kp3, zs, us3, hd3, pz, ez, rz⟩
          rw [← lzs, List.take_length] at ez
          refine gn ?_
          have s34 : Same H' H4 := fun b o e => kp3 b o (ne_of_none (s13 _ _ e) hD3) (s13 _ _ e)
          have hd24 := kp3 _ _ (ne_of_none hd2 hD3) hd2
          refine ⟨_, rfl, D, us, rfl, .inl ⟨SqL.of (s34 _ _ hd), fun q1 hq1 => ?_⟩⟩
          have s5 := same_new (o := .tup us) hq1
          have q11 : (upd H4 q1 (.tup us)) q1 = some (.tup us) := upd_same
          generalize upd H4 q1 (.tup us) = H5 at s5 q11
          refine ⟨_, rfl, D2, _, rfl, .inl ⟨SqL.of (s5 _ _ hd24), fun q2 hq2 => ?_⟩⟩
          have s6 := same_new (o := .tup ((L.filter fun q => decide (mdOf B q.2 ≤ m)).map fun q => V.ref q.1)) hq2
          have q21 : (upd H5 q2 (.tup ((L.filter fun q => decide (mdOf B q.2 ≤ m)).map fun q => V.ref q.1))) q2 = some (.tup ((L.filter fun q => decide (mdOf B q.2 ≤ m)).map fun q => V.ref q.1)) := upd_same
          generalize upd H5 q2 (.tup ((L.filter fun q => decide (mdOf B q.2 ≤ m)).map fun q => V.ref q.1)) = H6 at s6 q21
          refine ⟨_, rfl, D3, us3, rfl, .inl ⟨SqL.of (s6 _ _ (s5 _ _ hd3)), fun q3 hq3 => ?_⟩⟩
          have s7 := same_new (o := .tup us3) hq3
          have q31 : (upd H6 q3 (.tup us3)) q3 = some (.tup us3) := upd_same
          generalize upd H6 q3 (.tup us3) = H7 at s7 q31
          refine ⟨by show 3 ≤ sizeLine; decide, fun p hp => ?_⟩
          have s8 := same_new (o := .tup [.ref q1, .ref q2, .ref q3]) hp
          have p8 : (upd H7 p (.tup [.ref q1, .ref q2, .ref q3])) p = some (.tup [.ref q1, .ref q2, .ref q3]) := upd_same
          generalize upd H7 p (.tup [.ref q1, .ref q2, .ref q3]) = H8 at s8 p8
          have s58 := (s6.trans s7).trans s8
          have s48 := s5.trans s58
          have sall := s34.trans s48
          exact kk p q1 q2 q3 ys us L bs zs us3 H8 (sH.trans sall) p8 pm so (s58 _ _ q11) (pw_imp (fun _ _ h => h.keep (TK.same sall)) pc) eL pmL (fun q mq => sall _ _ (hL q mq)) ((s7.trans s8) _ _ q21) ez rz (s8 _ _ q31) (pw_imp (fun _ _ h => ZrAt.keep (TK.same s48) h) pz) lus
end
end GS

set_option linter.all false
set_option maxHeartbeats 4000000
namespace GS
open PySem L2 HX
/-- take(box, [x, y][take(box, 2)]) -/
theorem te_two {K : PySem.W.Frag} {x y : Int} {σ : L2.St} {H : Hp} {Q : VK} {E : XK} {a b : Addr} (hx : 0 < x ∧ x < 1000000) (hy : 0 < y ∧ y < 1000000) (h0 : σ[0]? = some (some (.ref a))) (B : BoxAt H a b)
    (k : ∀ (r : Int) H', Keep a b H H' → BoxAt H' a b → 0 ≤ r → (r < x ∨ r < y) → Q (.int r) H') :
    tCall (spTake K) [] E (tCons (tVar 0) (tCons (tOp (rIxL K) (tLst (tCons (tC (.int x)) (tCons (tC (.int y)) tNil))) (tCall (spTake K) [] E (tCons (tVar 0) (tCons (tC (.int 2)) tNil)))) tNil)) σ H Q := by
  refine ⟨_, h0, by show 2 ≤ sizeLine; decide, fun q hq => ?_⟩
  have s3 := same_new (o := .lst [.int x, .int y]) hq
  have h3 : (upd H q (.lst [.int x, .int y])) q = some (.lst [.int x, .int y]) := upd_same
  have nq := box_new B hq
  have B3 := B.same s3
  generalize upd H q (.lst [.int x, .int y]) = H3 at s3 h3 B3
  refine ⟨_, h0, a, b, 2, rfl, by decide, by decide, B3, fun r H4 r0 r1 B4 k4 => ?_⟩
  have h34 : H4 q = some (.lst [.int x, .int y]) := k4 _ _ nq.1 nq.2 h3
  have nine : ∃ (j : Nat) (n : Int), r = j ∧ ([V.int x, V.int y] : List V)[j]? = some (.int n) ∧ (n = x ∨ n = y) := by
    have h : r = 0 ∨ r = 1 := by omega
    rcases h with rfl | rfl
    · exact ⟨0, x, rfl, rfl, .inl rfl⟩
    · exact ⟨1, y, rfl, rfl, .inr rfl⟩
  obtain ⟨j, n, ej, ej2, en⟩ := nine
  refine ⟨q, _, r, .int n, rfl, rfl, SqL.of h34, by rw [ej]; exact atI_nat ej2, ?_⟩
  refine ⟨a, b, n, rfl, by rcases en with e | e <;> rw [e] <;> omega, by rcases en with e | e <;> rw [e] <;> omega, B4, fun r2 H5 q0 q1 B5 k5 => ?_⟩
  exact k r2 H5 (fun z o n1 n2 e => k5 z o n1 n2 (k4 z o n1 n2 (s3 _ _ e))) B5 q0 (by rcases en with e | e <;> rw [e] at q1 <;> omega)
/-- sorted(b["tables"])[take(box, len(b["tables"]))] -/
def rSDs : List V → Hp → VK → Prop := fun xs H Q => ∃ (a : Addr) (kvs : List (Key × V)) (ks : List Str), xs = [.ref a] ∧ Rd H a (.dK kvs) ∧ kvs.map (·.1) = ks.map Sum.inr ∧ ks.length < 64 ∧ ∀ ys p, ys.Perm ks → PyProof.Rows.sortedS ys = true → H p = none → Q (.ref p) (upd H p (.lst (ys.map V.str)))
theorem te_pick {K : PySem.W.Frag} {rl : List V → Hp → VK → Prop} (hrl : ∀ (d : Addr) (kvs : List (Key × V)) (H : Hp) (Q : VK), H d = some (.dK kvs) → Q (.int kvs.length) H → rl [.ref d] H Q) {σ : L2.St} {H : Hp} {Q : VK} {E : XK} {a b bk : Addr} {own : List Addr} {B : BC} (h0 : σ[0]? = some (some (.ref a))) (h1 : σ[1]? = some (some (.ref bk))) (x : BAt K H own bk B) (Bx : BoxAt H a b) (ne : B.tabs ≠ []) (l10 : B.tabs.length ≤ 10)
    (k : ∀ (z : Str) H', Keep a b H H' → BoxAt H' a b → z ∈ B.tabs.map (fun t => t.1) → Q (.str z) H') :
    tOp (rIxL K) (tCB rSDs (tCons (tDGet (tVar 1) (tC (.str (Str.ofString "tables")))) tNil)) (tCall (spTake K) [] E (tCons (tVar 0) (tCons (tCB rl (tCons (tDGet (tVar 1) (tC (.str (Str.ofString "tables")))) tNil)) tNil))) σ H Q := by
  obtain ⟨kvt, tb1, tb2⟩ := x.tb
  have keys := tin_keys tb2
  have lkv := pw_len tb2
  refine ⟨_, h1, bk, .ref B.tb, rfl, x.g1, B.tb, kvt, B.tabs.map fun t => t.1, rfl, .inl tb1, keys, by rw [List.length_map]; omega, fun ys p0 pm _ hp0 => ?_⟩
  have s1 := same_new (o := .lst (ys.map V.str)) hp0
  have p01 : (upd H p0 (.lst (ys.map V.str))) p0 = some (.lst (ys.map V.str)) := upd_same
  have nq := box_new Bx hp0
  generalize upd H p0 (.lst (ys.map V.str)) = H1 at s1 p01
  have x1 := x.same' s1
  refine ⟨_, h0, _, h1, bk, .ref B.tb, rfl, x1.g1, hrl B.tb kvt H1 _ (s1 _ _ tb1) ?_⟩
  have lp : 0 < B.tabs.length := List.length_pos_iff.mpr ne
  refine ⟨a, b, kvt.length, rfl, by omega, by omega, Bx.same s1, fun r H2 r0 r1 B2 k2 => ?_⟩
  have p02 : H2 p0 = some (.lst (ys.map V.str)) := k2 _ _ nq.1 nq.2 p01
  have ly : ys.length = B.tabs.length := by rw [pm.length_eq, List.length_map]
  obtain ⟨j, ej⟩ : ∃ j : Nat, r = j := ⟨r.toNat, by omega⟩
  have lj : j < ys.length := by omega
  refine ⟨p0, _, r, .str ys[j], rfl, rfl, SqL.of p02, by rw [ej]; exact atI_nat (by rw [List.getElem?_map, List.getElem?_eq_getElem lj]; rfl), ?_⟩
  exact k ys[j] H2 (fun z o n1 n2 e => k2 z o n1 n2 (s1 _ _ e)) B2 (pm.mem_iff.mp (List.getElem_mem lj))
end GS

set_option linter.all false
set_option maxHeartbeats 4000000
namespace GS
open PySem L2 HX
theorem ctR {c : TT} {σ : L2.St} {H : Hp} {t e : Hp → Prop} (P1 : Hp → Prop) (h1 : ∀ H1, P1 H1 → t H1) (h : (∀ H1, P1 H1 → t H1) → c σ H fun b H1 => if b = true then t H1 else e H1) : c σ H fun b H1 => if b = true then t H1 else e H1 := h h1
/-- whose rows are written -/
def wks : List Wr → List (Str × Int)
  | [] => []
  | .row t k _ :: ws => (t, k) :: wks ws
  | _ :: ws => wks ws
theorem wks_app : ∀ (ws us : List Wr), wks (ws ++ us) = wks ws ++ wks us
  | [], _ => rfl
  | .row _ _ _ :: ws, us => congrArg (_ :: ·) (wks_app ws us)
  | .tab _ _ :: ws, us => wks_app ws us
  | .idx _ _ :: ws, us => wks_app ws us
def kyP (p : Str × Int) : List L2.Key := [Sum.inr p.1, Sum.inl p.2]
/-- the writes of a record, as the law draws them -/
def WsP (B : BC) (ws : List Wr) : Prop :=
  (∃ z fs, ws = [.tab z fs] ∧ z ∈ [Str.ofString "a", Str.ofString "bb", Str.ofString "ccc", Str.ofString "d"] ∧ z ∉ B.tabs.map (fun t => t.1) ∧ fs ≠ [] ∧ fs.length ≤ 4 ∧ fs.Nodup ∧ ∀ f ∈ fs, PyData.strOk f = true) ∨
  (∃ f, ∃ x ∈ B.tabs, ws = [.idx x.1 f] ∧ f ∈ x.2.2 ∧ (x.1, f) ∉ B.made.map (fun m => m.1)) ∨
  (B.tabs ≠ [] ∧ ws.length ≤ 20 ∧ (wks ws).Nodup ∧ ∀ w ∈ ws, ∃ k r, ∃ x ∈ B.tabs, w = .row x.1 k r ∧ 0 ≤ k ∧ k < 60 ∧ ∀ ns, r = some ns → ns.length = x.2.2.length ∧ ns.head? = some k ∧ ∀ v ∈ ns, v ≤ 100)
/-- an entry of the rows found -/
def FE (K : PySem.W.Frag) (H : Hp) (B : BC) (ks : List L2.Key) (v : V) : Prop := ∃ k r, ∃ x ∈ B.tabs, ks = [Sum.inr x.1, Sum.inl k] ∧ WrAt K H (.row x.1 k r) v ∧ 0 ≤ k ∧ k < 60 ∧ ∀ ns, r = some ns → ns.length = x.2.2.length ∧ ns.head? = some k ∧ ∀ v ∈ ns, v ≤ 100
theorem FE.keep {K : PySem.W.Frag} {H H' : Hp} {B : BC} {ks : List L2.Key} {v : V} (t : TK H H') (h : FE K H B ks v) : FE K H' B ks v := by
  obtain ⟨k, r, x, mx, e, wr, c⟩ := h
  exact ⟨k, r, x, mx, e, wr.keep t, c⟩
theorem putK_nodup {κ : Type} [DecidableEq κ] {kvs : List (κ × V)} {k : κ} {v : V} (h : (kvs.map (·.1)).Nodup) : ((putK kvs k v).map (·.1)).Nodup := by
  unfold putK
  split
  · rw [List.map_map]
    have e : ((fun x : κ × V => x.1) ∘ fun kv : κ × V => if kv.1 = k then (kv.1, v) else kv) = fun x => x.1 := funext fun x => by
      show (if x.1 = k then (x.1, v) else x).1 = x.1
      split <;> rfl
    rw [e]; exact h
  · rename_i hn
    rw [List.map_append]
    refine List.nodup_append.mpr ⟨h, List.nodup_cons.mpr ⟨List.not_mem_nil, List.nodup_nil⟩, fun a ha b hb e => hn ?_⟩
    rw [List.mem_singleton.mp hb] at e
    obtain ⟨p, hp, ep⟩ := List.mem_map.mp ha
    exact List.any_eq_true.mpr ⟨p, hp, decide_eq_true (ep.trans e)⟩
theorem putK_mem {κ : Type} [DecidableEq κ] {kvs : List (κ × V)} {k : κ} {v : V} {p : κ × V} (h : p ∈ putK kvs k v) : (p.1 = k ∧ p.2 = v) ∨ p ∈ kvs := by
  unfold putK at h
  split at h
  · obtain ⟨q, hq, rfl⟩ := List.mem_map.mp h
    by_cases c : q.1 = k
    · rw [if_pos c]; exact .inl ⟨c, rfl⟩
    · rw [if_neg c]; exact .inr hq
  · rcases List.mem_append.mp h with h | h
    · exact .inr h
    · rw [List.mem_singleton.mp h]; exact .inl ⟨rfl, rfl⟩
def spWrites (K : PySem.W.Frag) : Sp := fun vs H Q _ => ∃ (a b bk : Addr) (own : List Addr) (B : BC), vs = [.ref a, .ref bk] ∧ BoxAt H a b ∧ BAt K H own bk B ∧ a ∉ bfp own bk B ∧ b ∉ bfp own bk B ∧ (B.tabs.map fun t => t.1).Nodup ∧ B.tabs.length ≤ 4 ∧ (∀ t ∈ B.tabs, t.2.2 ≠ [] ∧ t.2.2.length ≤ 4) ∧ B.made.length ≤ 100 ∧
  ∀ p ws us H', Keep a b H H' → BoxAt H' a b → SqT K H' p us → Paired (WrAt K H') ws us → WsP B ws → Q (.ref p) H'
section
variable {P : Program} {w : World} {K : PySem.W.Frag} {mg : Str → Option Value} {base : Heap}
theorem scWs : FnScope ["_law_box", "_law_b", "_law_names", "_law_free", "_law_name", "_law_fields", "_law_table", "_law_left", "_law_field", "_law_found", "_law_turn", "_law_mark", "_law_row_here", "_law_pair"] ["_law_box", "_law_b"] (defScope s_l_writes) := ⟨rfl, rfl, rfl, by decide +kernel, rfl, by decide +kernel, by decide +kernel⟩
theorem ok_writes {f ft fr : Addr} {fd fdt fdr : FuncData} (F : Fun K "_law_writes" "_law_writes" s_l_writes f fd) (T : Txt mg) (Ctake : Cal P w K mg base 2 "_law_take" ["_law_box", "_law_many"] (spTake K) ft fdt) (Crow : Cal P w K mg base 2 "_law_row" ["_law_box", "_law_mark", "_law_fields"] (spRow K) fr fdr) : FnOk P w K mg base CX0 3 f fd ["_law_box", "_law_b"] (spWrites K) := by
  refine F.ok scWs (fun vs H Q E h => ?_) (fun cdv A outer s H vs Q E hr h => ?_)
  · obtain ⟨a, b, bk, own, B, rfl, _⟩ := h
    rfl
  · obtain ⟨a, b, bk, own, B, rfl, Bx, x, na, nb, ndt, l4, flds, l100, kk⟩ := h
    have hr1 : Room 2 _ := hr
    have big : (100000 : Nat) < sizeLine := by decide
    have hu3 := Nat.lt_of_le_of_lt (Nat.add_le_add_left (show 3 ≤ 66 by decide) _) (room66 hr)
    have hu2 := Nat.lt_of_le_of_lt (Nat.add_le_add_left (show 2 ≤ 66 by decide) _) (room66 hr)
    refine ⟨_, (pss_cons (ps_set (i := 2) scWs.nd rfl (Or.inl rfl) (pe_lst (pa_cons pe_str (pa_cons pe_str (pa_cons pe_str (pa_cons pe_str pa_nil))))))
      (pss_cons (ps_setLc (i := 3) (own := [("_law_name", 4)]) rfl scWs.nd rfl rfl (sw_true rfl rfl rfl (by decide +kernel)) (RK.piL (K := K) (pv 2)) (blkOk_by (N := ["_law_box", "_law_b", "_law_names", "_law_free", "_law_name", "_law_fields", "_law_table", "_law_left", "_law_field", "_law_found", "_law_turn", "_law_mark", "_law_row_here", "_law_pair"]) (sc := defScope s_l_writes) (by decide +kernel)) (fun _ _ _ _ _ => (pg_name (i := 4) scWs.nd rfl (Or.inl rfl))) (fun _ _ _ _ _ => (pts_one (pt_cmp (pc_dnotin (hu_of hr) (pv 4) (pe_dget (hu_of hr) (pv 1) pe_str (fun _ _ => rfl)))))) (fun _ _ _ _ _ => (pv 4)))
      (pss_cons (ps_if (PW.pt (pw_and (pt_cmpR (NE.op_ne0 (K := K) hu2) (pv 3) (pe_lst pa_nil) (nomark _)) (pw_and1 (PW.pt (pw_or (pt_cmpR (EE.op_eq0 (room66 hr)) (pe_dget (hu_of hr) (pv 1) pe_str (fun _ _ => rfl)) pe_dnewK (nomark _)) (pw_or1 (pt_cmpR op_eq (pe_call Ctake.G hr1 rfl Ctake.g Ctake.kp Ctake.b .nil pass0 (pa_cons (pv 0) (pa_cons pe_int pa_nil))) pe_int (nomark _)))))))) (pss_cons (ps_set (i := 5) scWs.nd rfl (Or.inl rfl) (pe_slice (BTR.slB (K := K)) (BTR.pe_tupB (pa_cons pe_str (pa_cons pe_str (pa_cons pe_str (pa_cons pe_str pa_nil))))) po_none (po_some (pe_op op_add pe_int (pe_call Ctake.G hr1 rfl Ctake.g Ctake.kp Ctake.b .nil pass0 (pa_cons (pv 0) (pa_cons pe_int pa_nil)))))))
        (pss_one (ps_ret (pe_tup (pa_cons (pe_tup (pa_cons pe_str (pa_cons (pe_ix (RK.ixL (K := K)) (pv 3) pe_int (fun _ _ => rfl)) (pa_cons (pv 5) pa_nil)))) pa_nil))))) pss_nil)
      (pss_cons (ps_set (i := 6) scWs.nd rfl (Or.inr rfl) (pe_ix (RK.ixL (K := K)) (pe_callB (call_sortedD rfl) (by rfl) T.sorted (by decide +kernel) (pa_cons (pe_dget (hu_of hr) (pv 1) pe_str (fun _ _ => rfl)) pa_nil)) (pe_call Ctake.G hr1 rfl Ctake.g Ctake.kp Ctake.b .nil pass0 (pa_cons (pv 0) (pa_cons (pe_callB call_lenD (by rfl) T.len PySem.boot_len (pa_cons (pe_dget (hu_of hr) (pv 1) pe_str (fun _ _ => rfl)) pa_nil)) pa_nil))) (fun _ _ => rfl)))
      (pss_cons (ps_set (i := 5) scWs.nd rfl (Or.inl rfl) (pe_ix (RK.ixT (K := K)) (pe_dget (hu_of hr) (pe_dget (hu_of hr) (pv 1) pe_str (fun _ _ => rfl)) (pv 6) (fun _ _ => rfl)) pe_int (fun _ _ => rfl)))
      (pss_cons (ps_setLc (i := 7) (own := [("_law_field", 8)]) rfl scWs.nd rfl rfl (sw_true rfl rfl rfl (by decide +kernel)) (RK.piT (K := K) (pe_slice (RK.slT (K := K)) (pv 5) (po_some pe_int) po_none)) (blkOk_by (N := ["_law_box", "_law_b", "_law_names", "_law_free", "_law_name", "_law_fields", "_law_table", "_law_left", "_law_field", "_law_found", "_law_turn", "_law_mark", "_law_row_here", "_law_pair"]) (sc := defScope s_l_writes) (by decide +kernel)) (fun _ _ _ _ _ => (pg_name (i := 8) scWs.nd rfl (Or.inl rfl))) (fun _ _ _ _ _ => (pts_one (pt_cmp (pc_dnotin (hu_of hr) (pe_tup (pa_cons (pv 6) (pa_cons (pv 8) pa_nil))) (pe_dget (hu_of hr) (pv 1) pe_str (fun _ _ => rfl)))))) (fun _ _ _ _ _ => (pv 8)))
      (pss_cons (ps_if (PW.pt (pw_and (pt_cmpR (NE.op_ne0 (K := K) hu2) (pv 7) (pe_lst pa_nil) (nomark _)) (pw_and1 (pt_cmpR op_eq (pe_call Ctake.G hr1 rfl Ctake.g Ctake.kp Ctake.b .nil pass0 (pa_cons (pv 0) (pa_cons pe_int pa_nil))) pe_int (nomark _))))) (pss_one (ps_ret (pe_tup (pa_cons (pe_tup (pa_cons pe_str (pa_cons (pv 6) (pa_cons (pe_ix (RK.ixL (K := K)) (pv 7) (pe_call Ctake.G hr1 rfl Ctake.g Ctake.kp Ctake.b .nil pass0 (pa_cons (pv 0) (pa_cons (pe_callB (RK.lenQ (K := K)) (by rfl) T.len PySem.boot_len (pa_cons (pv 7) pa_nil)) pa_nil))) (fun _ _ => rfl)) pa_nil)))) pa_nil)))) pss_nil)
      (pss_cons (ps_set (i := 9) scWs.nd rfl (Or.inr rfl) pe_dnewT)
      (pss_cons (ps_for PassesOwn.never rfl (pi_range1 rfl T.range (pa_cons (pe_call Ctake.G hr1 rfl Ctake.g Ctake.kp Ctake.b .nil pass0 (pa_cons (pv 0) (pa_cons (pe_ix (RK.ixL (K := K)) (pe_lst (pa_cons pe_int (pa_cons pe_int pa_nil))) (pe_call Ctake.G hr1 rfl Ctake.g Ctake.kp Ctake.b .nil pass0 (pa_cons (pv 0) (pa_cons pe_int pa_nil))) (fun _ _ => rfl)) pa_nil))) pa_nil)) (pg_name (i := 10) scWs.nd rfl (Or.inl rfl))
        (pss_cons (ps_set (i := 4) scWs.nd rfl (Or.inl rfl) (pe_ix (RK.ixL (K := K)) (pe_callB (call_sortedD rfl) (by rfl) T.sorted (by decide +kernel) (pa_cons (pe_dget (hu_of hr) (pv 1) pe_str (fun _ _ => rfl)) pa_nil)) (pe_call Ctake.G hr1 rfl Ctake.g Ctake.kp Ctake.b .nil pass0 (pa_cons (pv 0) (pa_cons (pe_callB call_lenD (by rfl) T.len PySem.boot_len (pa_cons (pe_dget (hu_of hr) (pv 1) pe_str (fun _ _ => rfl)) pa_nil)) pa_nil))) (fun _ _ => rfl)))
        (pss_cons (ps_set (i := 11) scWs.nd rfl (Or.inl rfl) (pe_call Ctake.G hr1 rfl Ctake.g Ctake.kp Ctake.b .nil pass0 (pa_cons (pv 0) (pa_cons (pe_ix (RK.ixL (K := K)) (pe_lst (pa_cons pe_int (pa_cons pe_int pa_nil))) (pe_call Ctake.G hr1 rfl Ctake.g Ctake.kp Ctake.b .nil pass0 (pa_cons (pv 0) (pa_cons pe_int pa_nil))) (fun _ _ => rfl)) pa_nil))))
        (pss_cons (ps_set (i := 12) scWs.nd rfl (Or.inl rfl) (pe_ifExp (pt_cmpR op_eq (pe_call Ctake.G hr1 rfl Ctake.g Ctake.kp Ctake.b .nil pass0 (pa_cons (pv 0) (pa_cons pe_int pa_nil))) pe_int (nomark _)) pe_non (pe_call Crow.G hr1 rfl Crow.g Crow.kp Crow.b .nil pass0 (pa_cons (pv 0) (pa_cons (pv 11) (pa_cons (pe_ix (RK.ixT (K := K)) (pe_dget (hu_of hr) (pe_dget (hu_of hr) (pv 1) pe_str (fun _ _ => rfl)) (pv 4) (fun _ _ => rfl)) pe_int (fun _ _ => rfl)) pa_nil))))))
        (pss_one (ps_dput (hu_of hr) (pv 9) (pe_tup (pa_cons (pv 4) (pa_cons (pv 11) pa_nil))) (pe_tup (pa_cons pe_str (pa_cons (pv 4) (pa_cons (pv 11) (pa_cons (pv 12) pa_nil))))) rfl))))))
      (pss_one (ps_ret (pe_callTy (RK.tupQ (K := K)) (by rfl) T.tuple (by decide +kernel) (pa_cons (pe_lc (own := [("_law_pair", 13)]) rfl scWs.nd (RK.piL (K := K) (pe_callB (SD.cr_sortedDT rfl hu3) (by rfl) T.sorted (by decide +kernel) (pa_cons (pv 9) pa_nil))) (blkOk_by (N := ["_law_box", "_law_b", "_law_names", "_law_free", "_law_name", "_law_fields", "_law_table", "_law_left", "_law_field", "_law_found", "_law_turn", "_law_mark", "_law_row_here", "_law_pair"]) (sc := defScope s_l_writes) (by decide +kernel)) (fun _ _ _ _ _ => (pg_name (i := 13) scWs.nd rfl (Or.inl rfl))) (fun _ _ _ _ _ => pts_nil) (fun _ _ _ _ _ => (pe_dget (hu_of hr) (pv 9) (pv 13) (fun _ _ => rfl)))) pa_nil))))))))))))), ?_⟩
    obtain ⟨kvt, tb1, tb2⟩ := x.tb
    have keyst := tin_keys tb2
    have lkv := pw_len tb2
    refine sa1 ⟨by show 4 ≤ sizeLine; decide, fun nl hnl => gn ?_⟩
    have s1 := same_new (o := .lst ([Str.ofString "a", Str.ofString "bb", Str.ofString "ccc", Str.ofString "d"].map V.str)) hnl
    have n1 : (upd H nl (.lst ([Str.ofString "a", Str.ofString "bb", Str.ofString "ccc", Str.ofString "d"].map V.str))) nl = some (.lst ([Str.ofString "a", Str.ofString "bb", Str.ofString "ccc", Str.ofString "d"].map V.str)) := upd_same
    show (tSeq _ _) _ _ (upd H nl (.lst ([Str.ofString "a", Str.ofString "bb", Str.ofString "ccc", Str.ofString "d"].map V.str)))
    generalize upd H nl (.lst ([Str.ofString "a", Str.ofString "bb", Str.ofString "ccc", Str.ofString "d"].map V.str)) = H1 at s1 n1
    have ln4 : [Str.ofString "a", Str.ofString "bb", Str.ofString "ccc", Str.ofString "d"].length = 4 := rfl
    unfold WsP at kk
    generalize [Str.ofString "a", Str.ofString "bb", Str.ofString "ccc", Str.ofString "d"] = names at n1 ln4 kk
    have lnm : (names.map V.str).length = names.length := List.length_map ..
    refine ⟨_, rfl, nl, rfl, ⟨_, SqL.of n1⟩, fun D hD => ?_⟩
    refine lc_it (walk_list (xs := names.map V.str)) (fun i H' => (∀ b o, b ≠ D → H1 b = some o → H' b = some o) ∧ ∃ fr : List Str, H' D = some (.lst (fr.map V.str)) ∧ (∀ z ∈ fr, z ∈ names ∧ z ∉ B.tabs.map fun t => t.1) ∧ fr.length ≤ i ∧ (B.tabs = [] → fr.length = i))
      ⟨fun b o n e => by rw [upd_ne n]; exact e, [], upd_same, fun z m => (by cases m), Nat.le_refl _, fun _ => rfl⟩ (fun i H' _ q => SqL.of (q.1 _ _ (ne_of_none n1 hD) n1)) ?_ ?_
    · rintro i y H0 H' hi ⟨kp, fr, hd, mem, lf, lf2⟩ ⟨rfl, ey⟩
      rw [List.getElem?_map] at ey
      cases ez : names[i]? with
      | none => rw [ez] at ey; cases ey
      | some z =>
        rw [ez] at ey
        obtain rfl := Option.some.inj ey
        have sH : Same H H' := fun b o e => kp b o (ne_of_none (s1 _ _ e) hD) (s1 _ _ e)
        refine ⟨rfl, _, rfl, _, rfl, bk, .ref B.tb, rfl, (x.same' sH).g1, B.tb, _, rfl, DGet.k (k := Sum.inr z) (sH _ _ tb1), _, rfl, ?_⟩
        by_cases c : z ∈ B.tabs.map fun t => t.1
        · obtain ⟨t, ht, et, pt, ft, evt, _⟩ := tin_get tb2 c
          rw [evt]
          refine iteF ⟨kp, fr, hd, mem, Nat.le_succ_of_le lf, fun e => ?_⟩
          rw [e] at ht; cases ht
        · have ev : valV kvt (Sum.inr z : Key) = none := valV_none fun m => by
            rw [keyst] at m
            obtain ⟨q, mq, e⟩ := List.mem_map.mp m
            exact c (by rw [← Sum.inr.inj e]; exact mq)
          rw [ev]
          refine iteT ⟨_, rfl, _, hd, ?_, fun b o n e => by rw [upd_ne n]; exact kp b o n e, fr ++ [z], by rw [upd_same, List.map_append]; rfl, fun u m => ?_, by rw [List.length_append]; exact Nat.succ_le_succ lf, fun e => by rw [List.length_append, lf2 e]; rfl⟩
          · rw [List.length_map]
            exact Nat.lt_of_le_of_lt (show fr.length ≤ 100000 by have : i < names.length := lnm ▸ hi; omega) big
          · rcases List.mem_append.mp m with m | m
            · exact mem u m
            · rw [List.mem_singleton.mp m]; exact ⟨List.mem_of_getElem? ez, c⟩
    · rintro H' ⟨kp, fr, hd, mem, lf, lf2⟩
      rw [lnm, ln4] at lf lf2
      refine gn ?_
      have sH : Same H H' := fun b o e => kp b o (ne_of_none (s1 _ _ e) hD) (s1 _ _ e)
      have hD0 : H D = none := none_of_same s1 hD
      have nDb := box_new Bx hD0
      -- the book stays while the box is drawn from
      have bookK : ∀ {H2 : Hp}, Keep a b H H2 → BAt K H2 own bk B := fun k2 => x.keep (fun c hc o e => k2 c o (fun q => na (q ▸ hc)) (fun q => nb (q ▸ hc)) e) (Keep.tk Bx k2)
      dsimp only
      refine sifR (fun σ' H2 => σ' = [some (.ref a), some (.ref bk), some (.ref nl), some (.ref D), none, none, none, none, none, none, none, none, none, none] ∧ Keep a b H H2 ∧ BoxAt H2 a b ∧ B.tabs ≠ []) ?_ (fun rest => ?_)
      · rintro σ1 H2 ⟨rfl, k2, B2, ne⟩
        refine sa1 (te_pick (fun d kvs H Q h q => ⟨d, kvs, rfl, h, q⟩) rfl rfl (bookK k2) B2 ne (by omega) fun z H3 k3 B3 mz => gn ?_)
        have k23 : Keep a b H H3 := fun c o n1 n2 e => k3 c o n1 n2 (k2 c o n1 n2 e)
        have x3 := bookK k23
        obtain ⟨t, ht, et, pt, ft, evt, t1, t2⟩ := tin_get tb2 mz
        have tk3 := Keep.tk Bx k23
        have tb3 : H3 B.tb = some (.dK kvt) := k23 _ _ (fun q => na (q ▸ by simp [bfp])) (fun q => nb (q ▸ by simp [bfp])) tb1
        have dg3 : DGet H3 B.tb (.str z) (some (.ref pt)) := evt ▸ DGet.k (k := Sum.inr z) tb3
        refine sa1 ⟨_, rfl, bk, .ref B.tb, rfl, x3.g1, _, rfl, B.tb, .ref pt, rfl, dg3, pt, _, 1, _, rfl, rfl, sqt_keep tk3 t1, rfl, gn ?_⟩
        have ft3 := t2.keep tk3
        obtain ⟨nf0, lf4⟩ := flds t ht
        obtain ⟨f0, fr0, ef0⟩ : ∃ f0 fr0, t.2.2 = f0 :: fr0 := by
          cases e : t.2.2 with
          | nil => exact absurd e nf0
          | cons u l => exact ⟨u, l, rfl⟩
        have nw : ¬ (HT.sIx (t.2.2.map V.str).length 0 (some 1) = 0 ∧ HT.sIx (t.2.2.map V.str).length (t.2.2.map V.str).length none = (t.2.2.map V.str).length) := fun h => by
          have h := h.1
          rw [show (some (1 : Int)) = some ((1 : Nat) : Int) from rfl, HT.sIx_nat, List.length_map, ef0, List.length_cons] at h
          omega
        have ec : cutV (t.2.2.map V.str) (some 1) none = fr0.map V.str := by
          unfold cutV
          rw [show (some (1 : Int)) = some ((1 : Nat) : Int) from rfl, HT.sIx_nat, HT.sIx_none, List.length_map, ef0, List.length_cons]
          have e1 : min 1 (fr0.length + 1) = 1 := by omega
          rw [e1]
          show (fr0.map V.str).take _ = _
          rw [List.take_of_length_le (by rw [List.length_map]; omega)]
        refine ⟨_, rfl, 1, rfl, ft, _, rfl, ft3.sq, fun h => absurd h nw, fun _ p4 hp4 => ?_⟩
        rw [ec]
        have s4 := same_new (o := .tup (fr0.map V.str)) hp4
        have p41 : (upd H3 p4 (.tup (fr0.map V.str))) p4 = some (.tup (fr0.map V.str)) := upd_same
        generalize upd H3 p4 (.tup (fr0.map V.str)) = H4 at s4 p41
        refine ⟨p4, rfl, ⟨_, SqT.of p41⟩, fun D2 hD2 => ?_⟩
        have lfr0 : (fr0.map V.str).length = fr0.length := List.length_map ..
        have l3 : fr0.length ≤ 3 := by rw [ef0, List.length_cons] at lf4; omega
        refine lc_it (walk_tup (xs := fr0.map V.str)) (fun i H' => (∀ c o, c ≠ D2 → H4 c = some o → H' c = some o) ∧ ∃ lf : List Str, H' D2 = some (.lst (lf.map V.str)) ∧ (∀ g ∈ lf, g ∈ t.2.2 ∧ (t.1, g) ∉ B.made.map fun m => m.1) ∧ lf.length ≤ i)
          ⟨fun c o n e => by rw [upd_ne n]; exact e, [], upd_same, fun g m => (by cases m), Nat.le_refl _⟩ (fun i H' _ q => SqT.of (q.1 _ _ (ne_of_none p41 hD2) p41)) ?_ ?_
        · rintro i y H0 H5 hi ⟨kp2, lf, hd5, mem5, ll⟩ ⟨rfl, ey⟩
          rw [List.getElem?_map] at ey
          cases ez : fr0[i]? with
          | none => rw [ez] at ey; cases ey
          | some g =>
            rw [ez] at ey
            obtain rfl := Option.some.inj ey
            have s35 : Same H3 H5 := fun c o e => kp2 c o (ne_of_none (s4 _ _ e) hD2) (s4 _ _ e)
            refine ⟨rfl, _, rfl, _, rfl, by show 2 ≤ sizeLine; decide, fun q hq => ?_⟩
            have s6 := same_new (o := .tup [.str z, .str g]) hq
            have q6 : (upd H5 q (.tup [.str z, .str g])) q = some (.tup ([Sum.inr z, Sum.inr g].map kV)) := upd_same
            have kp6 : ∀ c o, c ≠ D2 → H4 c = some o → (upd H5 q (.tup [.str z, .str g])) c = some o := fun c o n e => s6 _ _ (kp2 c o n e)
            have hd6 := s6 _ _ hd5
            have x6 := (x3.same' s35).same' s6
            generalize upd H5 q (.tup [.str z, .str g]) = H6 at s6 q6 kp6 hd6 x6
            refine ⟨_, rfl, bk, .ref B.md, rfl, x6.g2, B.md, _, rfl, DGet.t (k := [Sum.inr z, Sum.inr g]) x6.md q6, _, rfl, ?_⟩
            cases ev : valV (mdkv B.made) ([Sum.inr z, Sum.inr g] : List L2.Key) with
            | some v => exact iteF ⟨kp6, lf, hd6, mem5, Nat.le_succ_of_le ll⟩
            | none =>
              have nin : (t.1, g) ∉ B.made.map fun m => m.1 := fun m => by
                obtain ⟨y, my, ey⟩ := List.mem_map.mp m
                have q := valV_any (κ := List L2.Key) (k := [Sum.inr z, Sum.inr g]) (kvs := mdkv B.made)
                rw [ev] at q
                have q2 : ((mdkv B.made).any fun kv => decide (kv.1 = ([Sum.inr z, Sum.inr g] : List L2.Key))) = true := List.any_eq_true.mpr ⟨([Sum.inr y.1.1, Sum.inr y.1.2], V.int y.2), List.mem_map.mpr ⟨y, my, rfl⟩, decide_eq_true (by rw [ey, et])⟩
                rw [q2] at q
                cases q
              refine iteT ⟨_, rfl, _, hd6, ?_, fun c o n e => by rw [upd_ne n]; exact kp6 c o n e, lf ++ [g], by rw [upd_same, List.map_append]; rfl, fun u m => ?_, by rw [List.length_append]; exact Nat.succ_le_succ ll⟩
              · rw [List.length_map]
                exact Nat.lt_of_le_of_lt (show lf.length ≤ 100000 by have : i < fr0.length := lfr0 ▸ hi; omega) big
              · rcases List.mem_append.mp m with m | m
                · exact mem5 u m
                · rw [List.mem_singleton.mp m]
                  exact ⟨by rw [ef0]; exact List.mem_cons_of_mem _ (List.mem_of_getElem? ez), nin⟩
        · rintro H5 ⟨kp2, lf, hd5, mem5, ll⟩
          have s35 : Same H3 H5 := fun c o e => kp2 c o (ne_of_none (s4 _ _ e) hD2) (s4 _ _ e)
          have k25 : Keep a b H H5 := fun c o n1 n2 e => s35 _ _ (k23 c o n1 n2 e)
          have B5 := B3.same s35
          have nD2b := box_new (B3.same s4) hD2
          refine gn ?_
          dsimp only
          refine sifR (fun σ' H' => σ' = [some (.ref a), some (.ref bk), some (.ref nl), some (.ref D), none, some (.ref ft), some (.str z), some (.ref D2), none, none, none, none, none, none] ∧ Keep a b H H' ∧ BoxAt H' a b) ?_ (fun rest => ?_)
          · rintro σ1 H6 ⟨rfl, k6, B6⟩
            refine sa1 ?_
            intro F hF
            refine gn ?_
            have nFH : ∀ c o, H c = some o → c ≠ a → c ≠ b → c ≠ F := fun c o e n1 n2 => ne_of_none (k6 c o n1 n2 e) hF
            have f7 : (upd H6 F (.dT [])) F = some (.dT []) := upd_same
            have s7 := same_new (o := .dT []) hF
            have k7 : Keep a b H (upd H6 F (.dT [])) := fun c o n1 n2 e => s7 _ _ (k6 c o n1 n2 e)
            have B7 := B6.same s7
            have nFb := box_new B6 hF
            generalize upd H6 F (.dT []) = H7 at f7 k7 B7
            refine rg1 (te_two (x := 3) (y := 20) (by decide) (by decide) rfl B7 fun r H8 k8 B8 r0 r1 => ⟨r, rfl, by omega, by omega, ?_⟩)
            have k78 : Keep a b H H8 := fun c o n1 n2 e => k8 c o n1 n2 (k7 c o n1 n2 e)
            have f8 := k8 _ _ nFb.1 nFb.2 f7
            refine for_it walk_range (fun i σ H' => ∃ v4 v10 v11 v12, σ = [some (.ref a), some (.ref bk), some (.ref nl), some (.ref D), v4, some (.ref ft), some (.str z), some (.ref D2), none, some (.ref F), v10, v11, v12, none] ∧ Keep a b H H' ∧ BoxAt H' a b ∧ ∃ kvs, H' F = some (.dT kvs) ∧ kvs.length ≤ i ∧ (kvs.map (·.1)).Nodup ∧ ∀ p ∈ kvs, FE K H' B p.1 p.2)
              ⟨_, _, _, _, rfl, k78, B8, [], f8, Nat.le_refl _, List.nodup_nil, fun p hp => (by cases hp)⟩ (fun i σ H' _ _ => trivial) ?_ ?_
            · rintro i y σ H9 H10 hi ⟨v4, v10, v11, v12, rfl, k9, B9, kvs, f9, lk, nd9, fe⟩ ⟨rfl, rfl⟩
              refine gn ?_
              dsimp only
              refine sa1 (te_pick (fun d kvs H Q h q => ⟨d, kvs, rfl, h, q⟩) rfl rfl (bookK k9) B9 ne (by omega) fun z2 H11 k11 B11 mz2 => gn ?_)
              refine sa1 (te_two (x := 6) (y := 60) (by decide) (by decide) rfl B11 fun k H12 k12 B12 q0 q1 => gn ?_)
              have k2 : Keep a b H10 H12 := fun c o n1 n2 e => k12 c o n1 n2 (k11 c o n1 n2 e)
              have tk2 := Keep.tk B9 k2
              have kH12 : Keep a b H H12 := fun c o n1 n2 e => k2 c o n1 n2 (k9 c o n1 n2 e)
              have f12 := k2 _ _ nFb.1 nFb.2 f9
              have fe12 : ∀ p ∈ kvs, FE K H12 B p.1 p.2 := fun p hp => (fe p hp).keep tk2
              obtain ⟨t3, ht3, et3, pt3, ft3, evt3, u1, u2⟩ := tin_get tb2 mz2
              refine sa1 (teR (fun rv H13 => Keep a b H H13 ∧ BoxAt H13 a b ∧ H13 F = some (.dT kvs) ∧ (∀ p ∈ kvs, FE K H13 B p.1 p.2) ∧ ∃ rr : Option Row, RowAt H13 rr rv ∧ ∀ ns, rr = some ns → ns.length = t3.2.2.length ∧ ns.head? = some k ∧ ∀ v ∈ ns, v ≤ 100) ?_ fun fin => ?_)
              · rintro rv H13 ⟨k13, B13, f13, fe13, rr, hrr, crr⟩
                refine gn ?_
                refine ⟨_, rfl, _, rfl, _, rfl, by show 4 ≤ sizeLine; decide, fun p1 hp1 => ?_⟩
                have s14 := same_new (o := .tup [.str (Str.ofString "row"), .str z2, .int k, rv]) hp1
                have p14 : (upd H13 p1 (.tup [.str (Str.ofString "row"), .str z2, .int k, rv])) p1 = some (.tup [.str (Str.ofString "row"), .str z2, .int k, rv]) := upd_same
                generalize upd H13 p1 (.tup [.str (Str.ofString "row"), .str z2, .int k, rv]) = H14 at s14 p14
                refine ⟨_, rfl, _, rfl, _, rfl, by show 2 ≤ sizeLine; decide, fun p2 hp2 => ?_⟩
                have s15 := same_new (o := .tup [.str z2, .int k]) hp2
                have p25 : (upd H14 p2 (.tup [.str z2, .int k])) p2 = some (.tup ([Sum.inr z2, Sum.inl k].map kV)) := upd_same
                have p15 := s15 _ _ p14
                generalize upd H14 p2 (.tup [.str z2, .int k]) = H15 at s15 p15 p25
                have s35 := s14.trans s15
                have f15 := s35 _ _ f13
                have tkF : TK H15 (upd H15 F (.dT (putK kvs [Sum.inr z2, Sum.inl k] (.ref p1)))) := fun c u hu e => by rw [upd_ne (ne_of e f15 (by intro z; subst z; exact hu))]; exact e
                have lputs : (putK kvs [Sum.inr z2, Sum.inl k] (V.ref p1)).length ≤ kvs.length + 1 := by
                  unfold putK
                  split
                  · rw [List.length_map]; omega
                  · rw [List.length_append, List.length_singleton]; exact Nat.le_refl _
                refine ⟨F, _, rfl, DPut.t (k := [Sum.inr z2, Sum.inl k]) f15 p25 (Nat.lt_of_le_of_lt (show kvs.length ≤ 100000 by omega) big), _, _, _, _, rfl, fun c o n1 n2 e => ?_, ?_, putK kvs [Sum.inr z2, Sum.inl k] (.ref p1), upd_same, Nat.le_trans lputs (Nat.succ_le_succ lk), putK_nodup nd9, fun p hp => ?_⟩
                · rw [upd_ne (nFH c o e n1 n2)]
                  exact s35 _ _ (k13 c o n1 n2 e)
                · exact (B13.same s35).upd nFb
                · have new : FE K (upd H15 F (.dT (putK kvs [Sum.inr z2, Sum.inl k] (.ref p1)))) B [Sum.inr z2, Sum.inl k] (.ref p1) := ⟨k, rr, t3, ht3, by rw [et3], ⟨p1, rv, rfl, by rw [et3]; exact SqT.of (tkF.tup p15), hrr.keep (TK.trans (TK.same s35) tkF)⟩, by omega, by omega, crr⟩
                  rcases putK_mem hp with ⟨e1, e2⟩ | hp
                  · rw [e1, e2]; exact new
                  · exact (fe13 p hp).keep (TK.trans (TK.same s35) tkF)
              · refine ⟨_, rfl, a, b, 4, rfl, by decide, by decide, B12, fun r2 H13 r20 r21 B13 k13 => ?_⟩
                have tk3 := Keep.tk B12 k13
                have k3H : Keep a b H H13 := fun c o n1 n2 e => k13 c o n1 n2 (kH12 c o n1 n2 e)
                have f13 := k13 _ _ nFb.1 nFb.2 f12
                have fe13 : ∀ p ∈ kvs, FE K H13 B p.1 p.2 := fun p hp => (fe12 p hp).keep tk3
                refine ⟨rfl, _, rfl, ?_⟩
                by_cases c : V.int r2 = V.int 0
                · rw [decide_eq_true c]
                  exact iteT (fin _ _ ⟨k3H, B13, f13, fe13, none, rfl, fun ns e => by cases e⟩)
                · rw [decide_eq_false c]
                  have x3 := bookK k3H
                  have tkH := Keep.tk Bx k3H
                  have tb3 : H13 B.tb = some (.dK kvt) := k3H _ _ (fun q => na (q ▸ by simp [bfp])) (fun q => nb (q ▸ by simp [bfp])) tb1
                  have dg3 : DGet H13 B.tb (.str z2) (some (.ref pt3)) := evt3 ▸ DGet.k (k := Sum.inr z2) tb3
                  refine iteF ⟨_, rfl, _, rfl, _, rfl, bk, .ref B.tb, rfl, x3.g1, _, rfl, B.tb, .ref pt3, rfl, dg3, pt3, _, 1, _, rfl, rfl, sqt_keep tkH u1, rfl, ?_⟩
                  obtain ⟨nf3, lf3⟩ := flds t3 ht3
                  refine ⟨a, b, ft3, k, t3.2.2, rfl, B13, (u2.keep tkH).sq, nf3, lf3, by omega, fun p ns H14 k14 B14 hp14 en hdn vn => fin _ _ ⟨fun c o n1 n2 e => k14 c o n1 n2 (k3H c o n1 n2 e), B14, k14 _ _ nFb.1 nFb.2 f13, fun p hp => (fe13 p hp).keep (Keep.tk B13 k14), some ns, ⟨p, rfl, hp14⟩, fun ns' e => ?_⟩⟩
                  obtain rfl := Option.some.inj e
                  exact ⟨en, hdn, vn⟩
            · rintro σ H9 ⟨v4, v10, v11, v12, rfl, k9, B9, kvs, f9, lk, nd9, fe⟩
              have tb9 := Keep.tk Bx k9
              refine ⟨_, rfl, F, kvs, rfl, f9, fun p hp => ?_, fun p hp q hq => ?_, fun L hL pmL _ p1 hp1 => ?_⟩
              · obtain ⟨k, r, x, _, e, _⟩ := fe p hp
                rw [e]; exact fun z => by cases z
              · obtain ⟨k, r, x, _, e, _⟩ := fe p hp
                obtain ⟨k', r', x', _, e', _⟩ := fe q hq
                rw [e, e']; rfl
              have s10 := same_new (o := .lst (L.map fun q => V.ref q.1)) hp1
              have p11 : (upd H9 p1 (.lst (L.map fun q => V.ref q.1))) p1 = some (.lst (L.map fun q => V.ref q.1)) := upd_same
              generalize upd H9 p1 (.lst (L.map fun q => V.ref q.1)) = H10 at s10 p11
              have f10 := s10 _ _ f9
              have lL : (L.map fun q => V.ref q.1).length = L.length := List.length_map ..
              have lL2 : L.length = kvs.length := by
                have z := pmL.length_eq
                rw [List.length_map, List.length_map] at z
                exact z
              have lk20 : kvs.length ≤ 20 := by omega
              refine ⟨p1, rfl, ⟨_, SqL.of p11⟩, fun D4 hD4 => ?_⟩
              refine lc_it (walk_list (xs := L.map fun q => V.ref q.1)) (fun i H' => (∀ c o, c ≠ D4 → H10 c = some o → H' c = some o) ∧ ∃ ws us, H' D4 = some (.lst us) ∧ Paired (WrAt K H') ws us ∧ us.length ≤ i ∧ (wks ws).map kyP = (L.take i).map (fun q => q.2) ∧ ∀ w ∈ ws, ∃ k r, ∃ x ∈ B.tabs, w = .row x.1 k r ∧ 0 ≤ k ∧ k < 60 ∧ ∀ ns, r = some ns → ns.length = x.2.2.length ∧ ns.head? = some k ∧ ∀ v ∈ ns, v ≤ 100)
                ⟨fun c o n e => by rw [upd_ne n]; exact e, [], [], upd_same, .nil, Nat.le_refl _, rfl, fun w m => (by cases m)⟩ (fun i H' _ q => SqL.of (q.1 _ _ (ne_of_none p11 hD4) p11)) ?_ ?_
              · rintro i y H0 H' hi ⟨kp4, ws, us, hd4, pw4, lu4, wk4, all4⟩ ⟨rfl, ey⟩
                rw [List.getElem?_map] at ey
                cases ez : L[i]? with
                | none => rw [ez] at ey; cases ey
                | some q =>
                  rw [ez] at ey
                  obtain rfl := Option.some.inj ey
                  have s9' : Same H9 H' := fun c o e => kp4 c o (ne_of_none (s10 _ _ e) hD4) (s10 _ _ e)
                  have mq := List.mem_of_getElem? ez
                  have mk : q.2 ∈ kvs.map (·.1) := pmL.mem_iff.mp (List.mem_map_of_mem (f := fun q : SD.KAd => q.2) mq)
                  obtain ⟨p0, hp0, ep0⟩ := List.mem_map.mp mk
                  obtain ⟨j, ej⟩ := List.mem_iff_getElem?.mp hp0
                  have vq : valV kvs q.2 = some p0.2 := valV_mem nd9 (by rw [ej, ← ep0])
                  obtain ⟨k, r, x, mx, e, wr, c1, c2, c3⟩ := fe p0 hp0
                  have tk5 : TK H' (upd H' D4 (.lst (us ++ [p0.2]))) := fun b u hu e => by rw [upd_ne (ne_of e hd4 (by intro z; subst z; exact hu))]; exact e
                  refine ⟨rfl, _, rfl, _, rfl, F, p0.2, rfl, vq ▸ DGet.t (k := q.2) (s9' _ _ f9) (s9' _ _ (hL q mq)), us, hd4, Nat.lt_of_le_of_lt (show us.length ≤ 100000 by rw [lL] at hi; omega) big, fun c o n e => by rw [upd_ne n]; exact kp4 c o n e, ws ++ [.row x.1 k r], us ++ [p0.2], upd_same, pw_app (pw_imp (fun _ _ h => h.keep tk5) pw4) (.cons ((wr.keep (TK.same s9')).keep tk5) .nil), by rw [List.length_append]; exact Nat.succ_le_succ lu4, by rw [wks_app, List.map_append, wk4, List.take_add_one, ez, List.map_append]; exact congrArg (_ ++ [·]) (e.symm.trans ep0), fun w m => ?_⟩
                  rcases List.mem_append.mp m with m | m
                  · exact all4 w m
                  · rw [List.mem_singleton.mp m]
                    exact ⟨k, r, x, mx, rfl, c1, c2, c3⟩
              · rintro H' ⟨kp4, ws, us, hd4, pw4, lu4, wk4, all4⟩
                have wkn : ∀ ws : List Wr, (wks ws).map kyP = (L.take (L.map fun q => V.ref q.1).length).map (fun q => q.2) → (wks ws).Nodup := fun ws e => by
                  rw [lL, List.take_length] at e
                  have n : ((wks ws).map kyP).Nodup := by rw [e]; exact pmL.nodup_iff.mpr nd9
                  exact List.Pairwise.imp (fun h q => h (congrArg kyP q)) (List.pairwise_map.mp n)
                rw [lL] at lu4
                have s9' : Same H9 H' := fun c o e => kp4 c o (ne_of_none (s10 _ _ e) hD4) (s10 _ _ e)
                refine ⟨D4, _, rfl, .inl ⟨SqL.of hd4, fun p hp => ?_⟩⟩
                have s11 := same_new (o := .tup us) hp
                have p12 : (upd H' p (.tup us)) p = some (.tup us) := upd_same
                generalize upd H' p (.tup us) = H11 at s11 p12
                exact kk p ws us H11 (fun c o n1 n2 e => s11 _ _ (s9' _ _ (k9 c o n1 n2 e))) ((B9.same s9').same s11) (SqT.of p12) (pw_imp (fun _ _ h => h.keep (TK.same s11)) pw4) (.inr (.inr ⟨ne, by rw [pw_len pw4]; omega, wkn ws wk4, all4⟩))
          · refine ⟨_, rfl, by show 0 ≤ sizeLine; decide, fun e he => ?_⟩
            have s6 := same_new (o := .lst []) he
            have e6 : (upd H5 e (.lst [])) e = some (.lst []) := upd_same
            generalize upd H5 e (.lst []) = H6 at s6 e6
            have hd6 := s6 _ _ hd5
            have k26 : Keep a b H H6 := fun c o n1 n2 e => s6 _ _ (k25 c o n1 n2 e)
            refine ⟨D2, e, lf.map V.str, rfl, rfl, SqL.of hd6, e6, _, rfl, ?_⟩
            cases lf with
            | nil => exact iteF (rest _ _ ⟨rfl, k26, B5.same s6⟩)
            | cons g0 lf =>
              refine iteT ⟨_, rfl, a, b, 6, rfl, by decide, by decide, B5.same s6, fun r H7 r0 r1 B7 k7 => ?_⟩
              have k27 : Keep a b H H7 := fun c o n1 n2 e => k7 c o n1 n2 (k26 c o n1 n2 e)
              refine ⟨rfl, _, rfl, ?_⟩
              by_cases c : V.int r = V.int 0
              · rw [decide_eq_true c]
                have hd7 := k7 _ _ nD2b.1 nD2b.2 hd6
                have llm : ((g0 :: lf).map V.str).length = (g0 :: lf).length := List.length_map ..
                refine iteT ⟨_, rfl, _, rfl, _, rfl, _, rfl, D2, _, rfl, .inl (SqL.of hd7), a, b, ((g0 :: lf).map V.str).length, rfl, by rw [llm, List.length_cons]; omega, by rw [llm]; omega, B7, fun r2 H8 q0 q1 B8 k8 => ?_⟩
                have k28 : Keep a b H H8 := fun c o n1 n2 e => k8 c o n1 n2 (k27 c o n1 n2 e)
                have hd8 := k8 _ _ nD2b.1 nD2b.2 hd7
                rw [llm] at q1
                obtain ⟨j, ej⟩ : ∃ j : Nat, r2 = j := ⟨r2.toNat, by omega⟩
                have lj : j < (g0 :: lf).length := by omega
                refine ⟨D2, _, r2, .str (g0 :: lf)[j], rfl, rfl, SqL.of hd8, by rw [ej]; exact atI_nat (by rw [List.getElem?_map, List.getElem?_eq_getElem lj]; rfl), by show 3 ≤ sizeLine; decide, fun p1 hp1 => ⟨by show 1 ≤ sizeLine; decide, fun p2 hp2 => ?_⟩⟩
                have mg := mem5 (g0 :: lf)[j] (List.getElem_mem lj)
                generalize (g0 :: lf)[j] = g at mg hp1 hp2
                have t1' := same_new (o := .tup [.str (Str.ofString "index"), .str z, .str g]) hp1
                have t2' := same_new (o := .tup [.ref p1]) hp2
                have g1 : (upd H8 p1 (.tup [.str (Str.ofString "index"), .str z, .str g])) p1 = some (.tup [.str (Str.ofString "index"), .str z, .str g]) := upd_same
                exact kk p2 [.idx t.1 g] [.ref p1] _ (fun c o n1 n2 e => t2' _ _ (t1' _ _ (k28 c o n1 n2 e))) ((B8.same t1').same t2') (SqT.of upd_same) (.cons ⟨p1, rfl, by rw [et]; exact SqT.of (t2' _ _ g1)⟩ .nil) (.inr (.inl ⟨g, t, ht, rfl, mg.1, mg.2⟩))
              · rw [decide_eq_false c]
                exact iteF (rest _ _ ⟨rfl, k27, B7⟩)
      · refine ctR (fun H2 => Keep a b H H2 ∧ BoxAt H2 a b ∧ H2 D = some (.lst (fr.map V.str)) ∧ fr ≠ []) ?_ (fun br => ?_)
        · rintro H2 ⟨k2, B2, hd2, nf⟩
          obtain ⟨z0, fr', efr0⟩ : ∃ z0 fr', fr = z0 :: fr' := by
            cases fr with
            | nil => exact absurd rfl nf
            | cons x l => exact ⟨x, l, rfl⟩
          have efr : fr.map V.str = .str z0 :: fr'.map V.str := by rw [efr0]; rfl
          have mz : z0 ∈ fr := by rw [efr0]; exact List.mem_cons_self ..
          refine sa1 ?_
          refine ⟨by show 4 ≤ sizeLine; decide, fun q o hq oc od => ?_⟩
          let flds0 : List Str := [Str.ofString "id", Str.ofString "x", Str.ofString "y", Str.ofString "z"]
          have s5 := same_new (o := .frz o (.tup (flds0.map V.str))) hq
          have q1 : (upd H2 q (.frz o (.tup (flds0.map V.str)))) q = some (.frz o (.tup (flds0.map V.str))) := upd_same
          have nq := box_new B2 hq
          have hd5 := s5 _ _ hd2
          have B5 := B2.same s5
          refine ⟨_, rfl, a, b, 4, rfl, by decide, by decide, B5, fun r H4 r0 r1 B4 k4 => ⟨1, r, rfl, rfl, _, rfl, ?_⟩⟩
          have kH4 : Keep a b H H4 := fun c o n1 n2 e => k4 c o n1 n2 (s5 _ _ (k2 c o n1 n2 e))
          have hd4 : H4 D = some (.lst (fr.map V.str)) := k4 _ _ nDb.1 nDb.2 hd5
          have q4 : H4 q = some (.frz o (.tup (flds0.map V.str))) := k4 _ _ nq.1 nq.2 q1
          have sq4 : SqT K H4 q (flds0.map V.str) := .inl (.inr ⟨o, q4⟩)
          have hr4 : r = 0 ∨ r = 1 ∨ r = 2 ∨ r = 3 := by omega
          have fg : flds0.take (1 + r).toNat ≠ [] ∧ (flds0.take (1 + r).toNat).length ≤ 4 ∧ (flds0.take (1 + r).toNat).Nodup ∧ ∀ f ∈ flds0.take (1 + r).toNat, PyData.strOk f = true := by
            rcases hr4 with rfl | rfl | rfl | rfl <;> decide +kernel
          refine ⟨q, _, rfl, sq4, fun hw => ?_, fun hw p oc2 hp od2 od3 => ?_⟩
          · have er : flds0.take (1 + r).toNat = flds0 := by
              rcases hr4 with rfl | rfl | rfl | rfl
              · exact absurd hw.2 (by decide)
              · exact absurd hw.2 (by decide)
              · exact absurd hw.2 (by decide)
              · rfl
            have bt : BT K H4 q ((flds0.take (1 + r).toNat).map V.str) := by rw [er]; exact ⟨sq4, .inl ⟨o, _, q4, oc, od⟩⟩
            refine gn ⟨_, rfl, D, fr.map V.str, 0, .str z0, rfl, rfl, SqL.of hd4, by rw [efr]; exact at0, _, rfl, by show 3 ≤ sizeLine; decide, fun p1 hp1 => ⟨by show 1 ≤ sizeLine; decide, fun p2 hp2 => ?_⟩⟩
            have t1 := same_new (o := .tup [.str (Str.ofString "table"), .str z0, .ref q]) hp1
            have t2 := same_new (o := .tup [.ref p1]) hp2
            have g1 : (upd H4 p1 (.tup [.str (Str.ofString "table"), .str z0, .ref q])) p1 = some (.tup [.str (Str.ofString "table"), .str z0, .ref q]) := upd_same
            exact kk p2 [.tab z0 (flds0.take (1 + r).toNat)] [.ref p1] _ (fun c o n1 n2 e => t2 _ _ (t1 _ _ (kH4 c o n1 n2 e))) ((B4.same t1).same t2) (SqT.of upd_same) (.cons ⟨p1, q, rfl, SqT.of (t2 _ _ g1), bt.keep (TK.trans (TK.same t1) (TK.same t2))⟩ .nil) (.inl ⟨z0, _, rfl, (mem z0 mz).1, (mem z0 mz).2, fg.1, fg.2.1, fg.2.2⟩)
          · have er : cutV (flds0.map V.str) none (some (1 + r)) = (flds0.take (1 + r).toNat).map V.str := by rcases hr4 with rfl | rfl | rfl | rfl <;> rfl
            rw [er]
            have s6 := same_new (o := .frz oc2 (.tup ((flds0.take (1 + r).toNat).map V.str))) hp
            have p6 : (upd H4 p (.frz oc2 (.tup ((flds0.take (1 + r).toNat).map V.str)))) p = some (.frz oc2 (.tup ((flds0.take (1 + r).toNat).map V.str))) := upd_same
            generalize upd H4 p (.frz oc2 (.tup ((flds0.take (1 + r).toNat).map V.str))) = H6 at s6 p6
            have B6 := B4.same s6
            have hd6 := s6 _ _ hd4
            have kH6 : Keep a b H H6 := fun c o n1 n2 e => s6 _ _ (kH4 c o n1 n2 e)
            have bt : BT K H6 p ((flds0.take (1 + r).toNat).map V.str) := ⟨.inl (.inr ⟨oc2, p6⟩), .inl ⟨oc2, _, p6, od2, od3⟩⟩
            refine gn ⟨_, rfl, D, fr.map V.str, 0, .str z0, rfl, rfl, SqL.of hd6, by rw [efr]; exact at0, _, rfl, by show 3 ≤ sizeLine; decide, fun p1 hp1 => ⟨by show 1 ≤ sizeLine; decide, fun p2 hp2 => ?_⟩⟩
            have t1 := same_new (o := .tup [.str (Str.ofString "table"), .str z0, .ref p]) hp1
            have t2 := same_new (o := .tup [.ref p1]) hp2
            have g1 : (upd H6 p1 (.tup [.str (Str.ofString "table"), .str z0, .ref p])) p1 = some (.tup [.str (Str.ofString "table"), .str z0, .ref p]) := upd_same
            exact kk p2 [.tab z0 (flds0.take (1 + r).toNat)] [.ref p1] _ (fun c o n1 n2 e => t2 _ _ (t1 _ _ (kH6 c o n1 n2 e))) ((B6.same t1).same t2) (SqT.of upd_same) (.cons ⟨p1, p, rfl, SqT.of (t2 _ _ g1), bt.keep (TK.trans (TK.same t1) (TK.same t2))⟩ .nil) (.inl ⟨z0, _, rfl, (mem z0 mz).1, (mem z0 mz).2, fg.1, fg.2.1, fg.2.2⟩)
        · refine ⟨_, rfl, by show 0 ≤ sizeLine; decide, fun e he => ?_⟩
          have s3 := same_new (o := .lst []) he
          have e3 : (upd H' e (.lst [])) e = some (.lst []) := upd_same
          generalize upd H' e (.lst []) = H2 at s3 e3
          have hd2 := s3 _ _ hd
          have s12 := sH.trans s3
          refine ⟨D, e, fr.map V.str, rfl, rfl, SqL.of hd2, e3, _, rfl, ?_⟩
          cases fr with
          | nil => exact iteF (rest _ _ ⟨rfl, Keep.same' s12, Bx.same s12, fun q => by have := lf2 q; cases this⟩)
          | cons z fr =>
            refine iteT ⟨_, rfl, bk, .ref B.tb, rfl, (x.same' s12).g1, ?_⟩
            intro e2 he2
            have s4 := same_new (o := .dK []) he2
            have e4 : (upd H2 e2 (.dK [])) e2 = some (.dK []) := upd_same
            generalize upd H2 e2 (.dK []) = H3 at s4 e4
            have s13 := s12.trans s4
            refine ⟨B.tb, e2, kvt, rfl, rfl, s13 _ _ tb1, e4, _, rfl, ?_⟩
            cases ek : kvt.isEmpty with
            | true => exact iteT (br _ ⟨Keep.same' s13, Bx.same s13, s4 _ _ hd2, fun q => by cases q⟩)
            | false =>
              have ne : B.tabs ≠ [] := fun q => by
                rw [q] at lkv
                cases kvt with
                | nil => cases ek
                | cons _ _ => cases lkv
              refine iteF ⟨_, rfl, a, b, 9, rfl, by decide, by decide, Bx.same s13, fun r H4 r0 r1 B4 k4 => ?_⟩
              have kH4 : Keep a b H H4 := fun c o n1 n2 e => k4 c o n1 n2 (s13 _ _ e)
              refine ⟨rfl, _, rfl, ?_⟩
              by_cases c : V.int r = V.int 0
              · rw [decide_eq_true c]
                exact iteT (br _ ⟨kH4, B4, k4 _ _ nDb.1 nDb.2 (s4 _ _ hd2), fun q => by cases q⟩)
              · rw [decide_eq_false c]
                exact iteF (rest _ _ ⟨rfl, kH4, B4, ne⟩)
end
end GS

set_option linter.all false
set_option maxHeartbeats 4000000
namespace GS
open PySem L2 HX
/-! ### the book and the store, by their functions -/
def chn (d : SD) (z : Str) (k : Int) : List Ver := match tabD d z with
  | some t => chainD t.cl k
  | none => []
def mdF (d : SD) (z f : Str) : Option Int := (tabD d z).bind fun t => (t.made.find? fun m => decide (m.1 = f)).map fun m => m.2
def sumD (d : SD) : Nat := (d.tabs.map fun t => (t.2.cl.map fun x => x.2.length).sum).sum
theorem find_map {α : Type} {p : α → Bool} {g : α → α} (h : ∀ x, p (g x) = p x) : ∀ l : List α, (l.map g).find? p = (l.find? p).map g
  | [] => rfl
  | x :: l => by
    rw [List.map_cons]
    by_cases c : p x = true
    · rw [List.find?_cons_of_pos (by rw [h]; exact c), List.find?_cons_of_pos c]; rfl
    · rw [List.find?_cons_of_neg (by rw [h]; exact c), List.find?_cons_of_neg c, find_map h l]
theorem tabD_tab {d : SD} {z0 z : Str} {t0 : TD} (h : z0 ∉ d.tabs.map fun t => t.1) : tabD { d with tabs := d.tabs ++ [(z0, t0)] } z = if z = z0 then some t0 else tabD d z := by
  unfold tabD
  dsimp only
  rw [List.find?_append]
  by_cases c : z = z0
  · rw [if_pos c, List.find?_eq_none.mpr fun x hx => by
      simp only [decide_eq_true_eq]
      exact fun e => h (List.mem_map.mpr ⟨x, hx, e.trans c⟩)]
    rw [Option.none_or, List.find?_cons_of_pos (by simpa using c.symm)]; rfl
  · rw [if_neg c]
    cases e : d.tabs.find? fun t => decide (t.1 = z) with
    | some x => rfl
    | none =>
      rw [Option.none_or, List.find?_cons_of_neg (by simpa using Ne.symm c)]; rfl
theorem tabD_set {d : SD} {t z : Str} {f : TD → TD} : tabD (setD d t f) z = if z = t then (tabD d z).map f else tabD d z := by
  unfold tabD setD
  dsimp only
  rw [find_map (fun x => by
    show decide ((if x.1 = t then (x.1, f x.2) else x).1 = z) = decide (x.1 = z)
    split <;> rfl)]
  cases e : d.tabs.find? fun t => decide (t.1 = z) with
  | none => by_cases c : z = t <;> simp [c]
  | some x =>
    have ex : x.1 = z := by simpa using List.find?_some e
    by_cases c : z = t
    · rw [if_pos c]
      show some (if x.1 = t then (x.1, f x.2) else x).2 = some (f x.2)
      rw [if_pos (ex.trans c)]
    · rw [if_neg c]
      show some (if x.1 = t then (x.1, f x.2) else x).2 = some x.2
      rw [if_neg (fun e => c (ex.symm.trans e))]
theorem chainD_lay {cl : List (Int × List Ver)} {k k' : Int} {v : Ver} : chainD (pushD (openD cl k) k v) k' = if k' = k then chainD cl k ++ [v] else chainD cl k' := by
  have op : ∀ q, chainD (openD cl k) q = chainD cl q := fun q => by
    unfold openD
    split
    · rfl
    · rename_i hk
      unfold chainD
      rw [List.find?_append]
      by_cases c : q = k
      · rw [List.find?_eq_none.mpr fun x hx => by
          simp only [decide_eq_true_eq]
          exact fun e => hk (List.mem_map.mpr ⟨x, hx, e.trans c⟩)]
        rw [Option.none_or, List.find?_cons_of_pos (by simpa using c.symm)]; rfl
      · cases e : cl.find? fun x => decide (x.1 = q) with
        | some x => rfl
        | none => rw [Option.none_or, List.find?_cons_of_neg (by simpa using Ne.symm c)]; rfl
  have has : ∃ x, (openD cl k).find? (fun x => decide (x.1 = k)) = some x := by
    cases e : (openD cl k).find? fun x => decide (x.1 = k) with
    | some x => exact ⟨x, rfl⟩
    | none =>
      have m : k ∈ (openD cl k).map fun x => x.1 := by
        unfold openD
        split
        · assumption
        · rw [List.map_append]; exact List.mem_append_right _ (List.mem_singleton.mpr rfl)
      obtain ⟨x, hx, ex⟩ := List.mem_map.mp m
      have h := List.find?_eq_none.mp e x hx
      simp [ex] at h
  have fm : (pushD (openD cl k) k v).find? (fun x => decide (x.1 = k')) = ((openD cl k).find? fun x => decide (x.1 = k')).map fun y => if y.1 = k then (y.1, y.2 ++ [v]) else y := by
    unfold pushD
    exact find_map (fun x => by
      show decide ((if x.1 = k then (x.1, x.2 ++ [v]) else x).1 = k') = decide (x.1 = k')
      split <;> rfl) _
  by_cases c : k' = k
  · rw [if_pos c, ← op k]
    subst c
    unfold chainD
    rw [fm]
    obtain ⟨x, ex⟩ := has
    rw [ex]
    have e1 : x.1 = k' := by simpa using List.find?_some ex
    show (if x.1 = k' then (x.1, x.2 ++ [v]) else x).2 = x.2 ++ [v]
    rw [if_pos e1]
  · rw [if_neg c, ← op k']
    unfold chainD
    rw [fm]
    cases e : (openD cl k).find? fun x => decide (x.1 = k') with
    | none => rfl
    | some x =>
      have e1 : x.1 = k' := by simpa using List.find?_some e
      show (if x.1 = k then (x.1, x.2 ++ [v]) else x).2 = x.2
      rw [if_neg (fun e2 => c (e1.symm.trans e2))]
theorem sum_lay {cl : List (Int × List Ver)} {k : Int} {v : Ver} (nd : (cl.map fun x => x.1).Nodup) : ((pushD (openD cl k) k v).map fun x => x.2.length).sum = (cl.map fun x => x.2.length).sum + 1 := by
  have push : ∀ l : List (Int × List Ver), (l.map fun x => x.1).Nodup → k ∈ l.map (fun x => x.1) → ((pushD l k v).map fun x => x.2.length).sum = (l.map fun x => x.2.length).sum + 1 := by
    intro l
    induction l with
    | nil => intro _ h; cases h
    | cons x l ih =>
      intro n m
      obtain ⟨n1, n2⟩ := List.nodup_cons.mp n
      show ((if x.1 = k then (x.1, x.2 ++ [v]) else x).2.length :: (pushD l k v).map fun x => x.2.length).sum = _
      rw [List.sum_cons, List.map_cons, List.sum_cons]
      by_cases c : x.1 = k
      · rw [if_pos c]
        have rest : pushD l k v = l := by
          unfold pushD
          have q : l.map (fun y => if y.1 = k then (y.1, y.2 ++ [v]) else y) = l.map id := List.map_congr_left fun y hy => if_neg fun e => n1 (List.mem_map.mpr ⟨y, hy, e.trans c.symm⟩)
          rw [q, List.map_id]
        rw [rest]
        show (x.2 ++ [v]).length + _ = _
        rw [List.length_append, List.length_singleton]; omega
      · rw [if_neg c, ih n2 (by
          rcases List.mem_cons.mp m with e | m
          · exact absurd e.symm c
          · exact m)]
        omega
  unfold openD
  split
  · rename_i h; exact push cl nd h
  · rename_i h
    rw [push _ (by
      rw [List.map_append]
      exact List.nodup_append.mpr ⟨nd, List.nodup_cons.mpr ⟨List.not_mem_nil, List.nodup_nil⟩, fun a ha b hb e => h (by rw [List.mem_singleton.mp hb] at e; rw [show k = a from e.symm]; exact ha)⟩) (by rw [List.map_append]; exact List.mem_append_right _ (List.mem_singleton.mpr rfl)), List.map_append, List.sum_append]
    rfl
theorem keys_lay {cl : List (Int × List Ver)} {k : Int} {v : Ver} (nd : (cl.map fun x => x.1).Nodup) : ((pushD (openD cl k) k v).map fun x => x.1).Nodup := by
  have e : ∀ l : List (Int × List Ver), (pushD l k v).map (fun x => x.1) = l.map fun x => x.1 := fun l => by
    unfold pushD
    rw [List.map_map]
    refine List.map_congr_left fun x _ => ?_
    show (if x.1 = k then (x.1, x.2 ++ [v]) else x).1 = x.1
    split <;> rfl
  rw [e]
  unfold openD
  split
  · exact nd
  · rename_i h
    rw [List.map_append]
    exact List.nodup_append.mpr ⟨nd, List.nodup_cons.mpr ⟨List.not_mem_nil, List.nodup_nil⟩, fun a ha b hb e => h (by rw [List.mem_singleton.mp hb] at e; rw [show k = a from e.symm]; exact ha)⟩
end GS

set_option linter.all false
set_option maxHeartbeats 4000000
namespace GS
open PySem L2 HX
structure Rel0 (B : BC) (d : SD) : Prop where
  tb : B.tabs = d.tabs.map fun t => (t.1, t.2.num, t.2.fields)
  nd : (d.tabs.map fun t => t.1).Nodup
  md : ∀ z f, (B.made.find? fun y => decide (y.1 = (z, f))).map (fun y => y.2) = mdF d z f
  kp : ∀ z k, (B.kept.filter fun y => decide (y.1 = z) && decide (y.2.1 = k)).map (fun y => (y.2.2.1, y.2.2.2)) = chn d z k
  sm : B.kept.length = sumD d
  kd : ∀ t ∈ d.tabs, (t.2.cl.map fun x => x.1).Nodup
theorem tabD_has {d : SD} (nd : (d.tabs.map fun t => t.1).Nodup) {z : Str} {x : TD} (h : (z, x) ∈ d.tabs) : tabD d z = some x := by
  unfold tabD
  cases e : d.tabs.find? fun t => decide (t.1 = z) with
  | none => have := List.find?_eq_none.mp e _ h; simp at this
  | some y =>
    have ey : y.1 = z := by simpa using List.find?_some e
    rw [nodup_inj nd (List.mem_of_find?_eq_some e) h ey]; rfl
theorem setD_nd' {d : SD} {t : Str} {f : TD → TD} : ((setD d t f).tabs.map fun t => t.1) = d.tabs.map fun t => t.1 := by
  unfold setD
  dsimp only
  rw [List.map_map]
  refine List.map_congr_left fun x _ => ?_
  show (if x.1 = t then (x.1, f x.2) else x).1 = x.1
  split <;> rfl
theorem setD_tb {d : SD} {t : Str} {f : TD → TD} (h : ∀ x, (f x).num = x.num ∧ (f x).fields = x.fields) : ((setD d t f).tabs.map fun t => (t.1, t.2.num, t.2.fields)) = d.tabs.map fun t => (t.1, t.2.num, t.2.fields) := by
  unfold setD
  dsimp only
  rw [List.map_map]
  refine List.map_congr_left fun x _ => ?_
  show ((if x.1 = t then (x.1, f x.2) else x).1, (if x.1 = t then (x.1, f x.2) else x).2.num, (if x.1 = t then (x.1, f x.2) else x).2.fields) = _
  by_cases c : x.1 = t
  · rw [if_pos c, (h x.2).1, (h x.2).2]
  · rw [if_neg c]
theorem sum_set {t : Str} {f : TD → TD} {g : TD → Nat} {j : Nat} : ∀ {ts : List (Str × TD)}, (ts.map fun t => t.1).Nodup → (∃ x, (t, x) ∈ ts) → (∀ x, (t, x) ∈ ts → g (f x) = g x + j) → ((ts.map fun u => if u.1 = t then (u.1, f u.2) else u).map fun u => g u.2).sum = (ts.map fun u => g u.2).sum + j
  | [], _, ⟨x, h⟩, _ => by cases h
  | u :: ts, nd, ⟨x, hx⟩, hg => by
    obtain ⟨n1, n2⟩ := List.nodup_cons.mp nd
    rw [List.map_cons, List.map_cons, List.map_cons, List.sum_cons, List.sum_cons]
    by_cases c : u.1 = t
    · rw [if_pos c]
      have rest : ts.map (fun u => if u.1 = t then (u.1, f u.2) else u) = ts := by
        have q : ts.map (fun u => if u.1 = t then (u.1, f u.2) else u) = ts.map id := List.map_congr_left fun y hy => if_neg fun e => n1 (List.mem_map.mpr ⟨y, hy, e.trans c.symm⟩)
        rw [q, List.map_id]
      rw [rest]
      have := hg u.2 (by rw [← c]; exact List.mem_cons_self ..)
      show g (f u.2) + _ = _
      omega
    · rw [if_neg c]
      have mx : (t, x) ∈ ts := by
        rcases List.mem_cons.mp hx with e | m
        · exact absurd (by rw [← e]) c
        · exact m
      have := sum_set (f := f) (g := g) (j := j) n2 ⟨x, mx⟩ fun y hy => hg y (List.mem_cons_of_mem _ hy)
      omega
theorem rel_wr {B : BC} {d : SD} {n : Int} (R : Rel0 B d) : ∀ {w : Wr}, WrOk d w → (∀ t f, w = .idx t f → mdF d t f = none) → Rel0 (wrB B n w) (wrD d n w)
  | .tab z fs, ⟨nz, _⟩, _ => by
    have td : ∀ z', tabD (wrD d n (.tab z fs)) z' = if z' = z then some ⟨n, fs, [], [], []⟩ else tabD d z' := fun z' => tabD_tab nz
    have tz : tabD d z = none := by
      unfold tabD
      rw [List.find?_eq_none.mpr fun x hx => by
        simp only [decide_eq_true_eq]
        exact fun e => nz (List.mem_map.mpr ⟨x, hx, e⟩)]
      rfl
    refine ⟨?_, ?_, fun z' f => ?_, fun z' k => ?_, ?_, fun t ht => ?_⟩
    · show B.tabs ++ [(z, n, fs)] = (d.tabs ++ [(z, (⟨n, fs, [], [], []⟩ : TD))]).map _
      rw [List.map_append, ← R.tb]; rfl
    · show ((d.tabs ++ [(z, (⟨n, fs, [], [], []⟩ : TD))]).map fun t => t.1).Nodup
      rw [List.map_append]
      refine List.nodup_append.mpr ⟨R.nd, List.nodup_cons.mpr ⟨List.not_mem_nil, List.nodup_nil⟩, fun a ha b hb e => nz ?_⟩
      rw [List.mem_singleton.mp hb] at e
      rw [show z = a from e.symm]; exact ha
    · refine (R.md z' f).trans ?_
      unfold mdF
      rw [td z']
      by_cases c : z' = z
      · rw [if_pos c, c, tz]; rfl
      · rw [if_neg c]
    · refine (R.kp z' k).trans ?_
      unfold chn
      rw [td z']
      by_cases c : z' = z
      · rw [if_pos c, c, tz]; rfl
      · rw [if_neg c]
    · show B.kept.length = ((d.tabs ++ [(z, (⟨n, fs, [], [], []⟩ : TD))]).map fun t => (t.2.cl.map fun x => x.2.length).sum).sum
      rw [List.map_append, List.sum_append, R.sm]; rfl
    · rcases List.mem_append.mp (show t ∈ d.tabs ++ [(z, (⟨n, fs, [], [], []⟩ : TD))] from ht) with m | m
      · exact R.kd t m
      · rw [List.mem_singleton.mp m]; exact List.nodup_nil
  | .idx t f, ⟨x0, hx0, _⟩, nf => by
    have nf := nf t f rfl
    have tx := tabD_has R.nd hx0
    have td : ∀ z, tabD (wrD d n (.idx t f)) z = if z = t then (tabD d z).map (fun x => indexD x n f) else tabD d z := fun z => tabD_set
    refine ⟨R.tb.trans (setD_tb (d := d) (t := t) (f := fun x => indexD x n f) (fun x => ⟨rfl, rfl⟩)).symm, by show ((setD d t fun x => indexD x n f).tabs.map fun t => t.1).Nodup; rw [setD_nd']; exact R.nd, fun z g => ?_, fun z k => ?_, ?_, fun u hu => ?_⟩
    · show ((B.made ++ [((t, f), n)]).find? _).map _ = _
      rw [List.find?_append]
      have old := R.md z g
      unfold mdF at old ⊢
      rw [td z]
      by_cases c : z = t
      · subst c
        rw [if_pos rfl, tx]
        rw [tx] at old
        show _ = ((x0.made ++ [(f, n)]).find? fun m => decide (m.1 = g)).map fun m => m.2
        have old : (B.made.find? fun y => decide (y.1 = (z, g))).map (fun y => y.2) = (x0.made.find? fun m => decide (m.1 = g)).map fun m => m.2 := old
        rw [List.find?_append]
        cases e : B.made.find? fun y => decide (y.1 = (z, g)) with
        | some y =>
          rw [e] at old
          cases e2 : x0.made.find? fun m => decide (m.1 = g) with
          | none => rw [e2] at old; cases old
          | some m => rw [e2] at old; exact old
        | none =>
          rw [e] at old
          cases e2 : x0.made.find? fun m => decide (m.1 = g) with
          | some m => rw [e2] at old; cases old
          | none =>
            rw [Option.none_or, Option.none_or]
            by_cases c2 : f = g
            · rw [c2, List.find?_cons_of_pos (by simp), List.find?_cons_of_pos (by simp)]; rfl
            · rw [List.find?_cons_of_neg (by simp [c2]), List.find?_cons_of_neg (by simp [c2])]; rfl
      · rw [if_neg c, ← old]
        cases e : B.made.find? fun y => decide (y.1 = (z, g)) with
        | some y => rfl
        | none =>
          rw [Option.none_or, List.find?_cons_of_neg (by
            simp only [decide_eq_true_eq]
            exact fun e => c (by injection e with e1 e2; exact e1.symm))]
          rfl
    · refine (R.kp z k).trans ?_
      unfold chn
      rw [td z]
      by_cases c : z = t
      · rw [if_pos c]
        cases tabD d z <;> rfl
      · rw [if_neg c]
    · refine R.sm.trans ?_
      show _ = ((setD d t fun x => indexD x n f).tabs.map fun t => (t.2.cl.map fun x => x.2.length).sum).sum
      have h := sum_set (f := fun x => indexD x n f) (g := fun x : TD => (x.cl.map fun x => x.2.length).sum) (j := 0) R.nd ⟨x0, hx0⟩ fun x _ => rfl
      exact h.symm
    · obtain ⟨y, hy, rfl⟩ := List.mem_map.mp (show u ∈ d.tabs.map (fun u => if u.1 = t then (u.1, indexD u.2 n f) else u) from hu)
      split
      · exact R.kd y hy
      · exact R.kd y hy
  | .row t k r, ⟨x0, hx0, _⟩, _ => by
    have tx := tabD_has R.nd hx0
    have td : ∀ z, tabD (wrD d n (.row t k r)) z = if z = t then (tabD d z).map (fun x => layD x n k r) else tabD d z := fun z => tabD_set
    refine ⟨R.tb.trans (setD_tb (d := d) (t := t) (f := fun x => layD x n k r) (fun x => ⟨rfl, rfl⟩)).symm, by show ((setD d t fun x => layD x n k r).tabs.map fun t => t.1).Nodup; rw [setD_nd']; exact R.nd, fun z g => ?_, fun z k' => ?_, ?_, fun u hu => ?_⟩
    · refine (R.md z g).trans ?_
      unfold mdF
      rw [td z]
      by_cases c : z = t
      · rw [if_pos c]
        cases tabD d z <;> rfl
      · rw [if_neg c]
    · show ((B.kept ++ [(t, k, n, r)]).filter _).map _ = _
      rw [List.filter_append, List.map_append, R.kp z k']
      unfold chn
      rw [td z]
      by_cases c : z = t
      · subst c
        rw [if_pos rfl, tx]
        show chainD x0.cl k' ++ _ = chainD (pushD (openD x0.cl k) k (n, r)) k'
        rw [chainD_lay]
        by_cases c2 : k' = k
        · subst c2
          rw [if_pos rfl, List.filter_cons, if_pos (by simp)]; rfl
        · rw [if_neg c2, List.filter_cons, if_neg (by simp [Ne.symm c2])]
          show chainD x0.cl k' ++ [] = _
          rw [List.append_nil]
      · rw [if_neg c, List.filter_cons, if_neg (by simp [Ne.symm c])]
        show _ ++ [] = _
        rw [List.append_nil]
    · show (B.kept ++ [(t, k, n, r)]).length = ((setD d t fun x => layD x n k r).tabs.map fun t => (t.2.cl.map fun x => x.2.length).sum).sum
      rw [List.length_append, R.sm]
      have h := sum_set (f := fun x => layD x n k r) (g := fun x : TD => (x.cl.map fun x => x.2.length).sum) (j := 1) R.nd ⟨x0, hx0⟩ fun x hx => sum_lay (R.kd _ hx)
      exact h.symm
    · obtain ⟨y, hy, rfl⟩ := List.mem_map.mp (show u ∈ d.tabs.map (fun u => if u.1 = t then (u.1, layD u.2 n k r) else u) from hu)
      split
      · exact keys_lay (R.kd y hy)
      · exact R.kd y hy
/-! ### rows, as they are shown -/
theorem verD_nil (n : Int) : verD [] n = none := rfl
theorem verD_snoc {ch : List Ver} {n : Int} {r : Option Row} : (verD (ch ++ [(n, r)]) n).map (fun u => u.2) = r := by
  unfold verD
  rw [List.filter_append, List.filter_cons, if_pos (by simp), List.filter_nil, List.getLast?_append]
  cases r <;> rfl
theorem verD_old {ch : List Ver} {n m : Int} {r : Option Row} (h : m < n) : verD (ch ++ [(n, r)]) m = verD ch m := by
  unfold verD
  rw [List.filter_append, List.filter_cons, if_neg (by simp; omega), List.filter_nil, List.append_nil]
theorem verD_same {ch : List Ver} {m n : Int} (h : ∀ v ∈ ch, v.1 ≤ m) (hn : m ≤ n) : verD ch n = verD ch m := by
  unfold verD
  have e : ∀ q, m ≤ q → ch.filter (fun v => decide (v.1 ≤ q)) = ch := fun q hq => List.filter_eq_self.mpr fun v hv => decide_eq_true (by have := h v hv; omega)
  rw [e n hn, e m (Int.le_refl _)]
theorem lookR_put {rs : Rws} {k k' : Int} {ns : Row} : lookR (putR rs k ns) k' = if k' = k then some ns else lookR rs k' := by
  unfold lookR putR
  split
  · rename_i h
    have fm : (rs.map fun x => if x.1 = k then (x.1, ns) else x).find? (fun x => decide (x.1 = k')) = (rs.find? fun x => decide (x.1 = k')).map fun x => if x.1 = k then (x.1, ns) else x := find_map (fun x => by
      show decide ((if x.1 = k then (x.1, ns) else x).1 = k') = decide (x.1 = k')
      split <;> rfl) _
    rw [fm]
    by_cases c : k' = k
    · rw [if_pos c]
      obtain ⟨y, hy, ey⟩ := List.any_eq_true.mp h
      cases e : rs.find? fun x => decide (x.1 = k') with
      | none => have q := List.find?_eq_none.mp e y hy; rw [c] at q; exact absurd ey q
      | some x =>
        have e1 : x.1 = k' := by simpa using List.find?_some e
        show some (if x.1 = k then (x.1, ns) else x).2 = some ns
        rw [if_pos (e1.trans c)]
    · rw [if_neg c]
      cases e : rs.find? fun x => decide (x.1 = k') with
      | none => rfl
      | some x =>
        have e1 : x.1 = k' := by simpa using List.find?_some e
        show some (if x.1 = k then (x.1, ns) else x).2 = some x.2
        rw [if_neg (fun e2 => c (e1.symm.trans e2))]
  · rename_i h
    rw [List.find?_append]
    by_cases c : k' = k
    · rw [if_pos c, List.find?_eq_none.mpr fun x hx e => h (List.any_eq_true.mpr ⟨x, hx, by rw [← c]; exact e⟩), Option.none_or, List.find?_cons_of_pos (by simpa using c.symm)]; rfl
    · rw [if_neg c]
      cases e : rs.find? fun x => decide (x.1 = k') with
      | some x => rfl
      | none => rw [Option.none_or, List.find?_cons_of_neg (by simpa using Ne.symm c)]; rfl
theorem lookR_drop {rs : Rws} {k k' : Int} : lookR (dropR rs k) k' = if k' = k then none else lookR rs k' := by
  unfold lookR dropR
  by_cases c : k' = k
  · rw [if_pos c, List.find?_eq_none.mpr fun x hx => ?_]; rfl
    obtain ⟨_, h⟩ := List.mem_filter.mp hx
    simp only [decide_eq_true_eq] at h ⊢
    exact fun e => h (e.trans c)
  · rw [if_neg c]
    congr 1
    induction rs with
    | nil => rfl
    | cons x rs ih =>
      by_cases c1 : x.1 = k
      · rw [List.filter_cons, if_neg (by simp [c1]), List.find?_cons_of_neg (by simp only [decide_eq_true_eq]; exact fun e => c (e.symm.trans c1)), ih]
      · rw [List.filter_cons, if_pos (by simp [c1])]
        by_cases c2 : x.1 = k'
        · rw [List.find?_cons_of_pos (by simpa using c2), List.find?_cons_of_pos (by simpa using c2)]
        · rw [List.find?_cons_of_neg (by simpa using c2), List.find?_cons_of_neg (by simpa using c2), ih]
theorem look_row {rs : Rws} {k k' : Int} {r : Option Row} : lookR (rowR rs k r) k' = if k' = k then r else lookR rs k' := by
  cases r with
  | some ns => exact lookR_put
  | none => exact lookR_drop
theorem rowsZ_set {s : StD} {t z : Str} {g : Rws → Rws} (h : t ∈ s.map fun x => x.1) : rowsZ (setS s t g) z = if z = t then g (rowsZ s z) else rowsZ s z := by
  unfold rowsZ setS
  rw [find_map (fun x => by
    show decide ((if x.1 = t then (x.1, g x.2) else x).1 = z) = decide (x.1 = z)
    split <;> rfl)]
  cases e : s.find? fun x => decide (x.1 = z) with
  | none =>
    by_cases c : z = t
    · obtain ⟨y, hy, ey⟩ := List.mem_map.mp h
      have q := List.find?_eq_none.mp e y hy
      simp [ey, c] at q
    · rw [if_neg c]; rfl
  | some x =>
    have ex : x.1 = z := by simpa using List.find?_some e
    by_cases c : z = t
    · rw [if_pos c]
      show (if x.1 = t then (x.1, g x.2) else x).2 = g x.2
      rw [if_pos (ex.trans c)]
    · rw [if_neg c]
      show (if x.1 = t then (x.1, g x.2) else x).2 = x.2
      rw [if_neg (fun e => c (ex.symm.trans e))]
theorem rowsZ_tab {s : StD} {z z0 : Str} : rowsZ (s ++ [(z0, [])]) z = rowsZ s z := by
  unfold rowsZ
  rw [List.find?_append]
  cases e : s.find? fun x => decide (x.1 = z) with
  | some x => rfl
  | none =>
    rw [Option.none_or]
    by_cases c : z0 = z
    · rw [List.find?_cons_of_pos (by simpa using c)]; rfl
    · rw [List.find?_cons_of_neg (by simpa using c)]; rfl
end GS

set_option linter.all false
set_option maxHeartbeats 4000000
namespace GS
open PySem L2 HX
theorem chn_wr {d : SD} {n : Int} (nd : (d.tabs.map fun t => t.1).Nodup) : ∀ {w : Wr}, WrOk d w → ∀ z k, chn (wrD d n w) z k = chn d z k ++ (match w with | .row t k0 r => if z = t ∧ k = k0 then [(n, r)] else [] | _ => [])
  | .tab z0 fs, ⟨nz, _⟩, z, k => by
    have td : tabD (wrD d n (.tab z0 fs)) z = if z = z0 then some ⟨n, fs, [], [], []⟩ else tabD d z := tabD_tab nz
    unfold chn
    rw [td, List.append_nil]
    by_cases c : z = z0
    · have tz : tabD d z0 = none := by
        unfold tabD
        rw [List.find?_eq_none.mpr fun x hx => by
          simp only [decide_eq_true_eq]
          exact fun e => nz (List.mem_map.mpr ⟨x, hx, e⟩)]
        rfl
      rw [if_pos c, c, tz]; rfl
    · rw [if_neg c]
  | .idx t f, _, z, k => by
    have td : tabD (wrD d n (.idx t f)) z = if z = t then (tabD d z).map (fun x => indexD x n f) else tabD d z := tabD_set
    unfold chn
    rw [td, List.append_nil]
    by_cases c : z = t
    · rw [if_pos c]
      cases tabD d z <;> rfl
    · rw [if_neg c]
  | .row t k0 r, ⟨x0, hx0, _⟩, z, k => by
    have td : tabD (wrD d n (.row t k0 r)) z = if z = t then (tabD d z).map (fun x => layD x n k0 r) else tabD d z := tabD_set
    unfold chn
    rw [td]
    dsimp only
    by_cases c : z = t
    · subst c
      rw [if_pos rfl, tabD_has nd hx0]
      show chainD (pushD (openD x0.cl k0) k0 (n, r)) k = chainD x0.cl k ++ _
      rw [chainD_lay]
      by_cases c2 : k = k0
      · rw [if_pos c2, if_pos ⟨rfl, c2⟩, c2]
      · rw [if_neg c2, if_neg (fun h => c2 h.2), List.append_nil]
    · rw [if_neg c, if_neg (fun h => c h.1), List.append_nil]
/-- the state under way shows what is shown now -/
structure CR (s : StD) (d : SD) (n : Int) : Prop where
  lk : ∀ z k, lookS s z k = (verD (chn d z k) n).map fun u => u.2
  sr : ∀ z k, (chn d z k).Pairwise (fun a b => a.1 ≤ b.1) ∧ ∀ v ∈ chn d z k, v.1 ≤ n
theorem CR.wr {s : StD} {d : SD} {n : Int} (h : CR s d n) (nd : (d.tabs.map fun t => t.1).Nodup) {w : Wr} (ok : WrOk d w) (hs : ∀ t k r, w = .row t k r → t ∈ s.map fun x => x.1) : CR (wrS s w) (wrD d n w) n ∧ ∀ m, m < n → ∀ z k, verD (chn (wrD d n w) z k) m = verD (chn d z k) m := by
  have cw := chn_wr (n := n) nd ok
  cases w with
  | tab z0 fs =>
    have cw : ∀ z k, chn (wrD d n (.tab z0 fs)) z k = chn d z k := fun z k => (cw z k).trans (List.append_nil _)
    refine ⟨⟨fun z k => ?_, fun z k => by rw [cw]; exact h.sr z k⟩, fun m _ z k => by rw [cw]⟩
    rw [cw, ← h.lk]
    show lookR (rowsZ (s ++ [(z0, [])]) z) k = lookR (rowsZ s z) k
    rw [rowsZ_tab]
  | idx t f =>
    have cw : ∀ z k, chn (wrD d n (.idx t f)) z k = chn d z k := fun z k => (cw z k).trans (List.append_nil _)
    exact ⟨⟨fun z k => by rw [cw]; exact h.lk z k, fun z k => by rw [cw]; exact h.sr z k⟩, fun m _ z k => by rw [cw]⟩
  | row t k0 r =>
    have mt := hs t k0 r rfl
    refine ⟨⟨fun z k => ?_, fun z k => ?_⟩, fun m hm z k => ?_⟩
    · rw [cw]
      show lookR (rowsZ (setS s t fun rs => rowR rs k0 r) z) k = _
      rw [rowsZ_set mt]
      dsimp only
      by_cases c : z = t
      · rw [if_pos c, look_row]
        by_cases c2 : k = k0
        · rw [if_pos c2, if_pos ⟨c, c2⟩, verD_snoc]
        · rw [if_neg c2, if_neg (fun h => c2 h.2), List.append_nil]
          exact h.lk z k
      · rw [if_neg c, if_neg (fun h => c h.1), List.append_nil]
        exact h.lk z k
    · rw [cw]
      dsimp only
      by_cases c : z = t ∧ k = k0
      · rw [if_pos c]
        refine ⟨List.pairwise_append.mpr ⟨(h.sr z k).1, List.pairwise_singleton _ _, fun a ha b hb => ?_⟩, fun v hv => ?_⟩
        · rw [List.mem_singleton.mp hb]
          exact (h.sr z k).2 a ha
        · rcases List.mem_append.mp hv with hv | hv
          · exact (h.sr z k).2 v hv
          · rw [List.mem_singleton.mp hv]; exact Int.le_refl _
      · rw [if_neg c, List.append_nil]; exact h.sr z k
    · rw [cw]
      dsimp only
      by_cases c : z = t ∧ k = k0
      · rw [if_pos c]; exact verD_old hm
      · rw [if_neg c, List.append_nil]
theorem wrD_nd {d : SD} {n : Int} (nd : (d.tabs.map fun t => t.1).Nodup) : ∀ {w : Wr}, WrOk d w → ((wrD d n w).tabs.map fun t => t.1).Nodup
  | .tab z fs, ⟨nz, _⟩ => by
    show ((d.tabs ++ [(z, (⟨n, fs, [], [], []⟩ : TD))]).map fun t => t.1).Nodup
    rw [List.map_append]
    refine List.nodup_append.mpr ⟨nd, List.nodup_cons.mpr ⟨List.not_mem_nil, List.nodup_nil⟩, fun a ha b hb e => nz ?_⟩
    rw [List.mem_singleton.mp hb] at e
    rw [show z = a from e.symm]; exact ha
  | .idx t f, _ => by show ((setD d t fun x => indexD x n f).tabs.map fun t => t.1).Nodup; rw [setD_nd']; exact nd
  | .row t k r, _ => by show ((setD d t fun x => layD x n k r).tabs.map fun t => t.1).Nodup; rw [setD_nd']; exact nd
theorem CR.wrs {n : Int} : ∀ {ws : List Wr} {s : StD} {B : BC} {d : SD}, CR s d n → (d.tabs.map fun t => t.1).Nodup → SOk s B → WrsOkB B n ws → WrsOk d n ws → CR (wrsS s ws) (wrsD d n ws) n ∧ ∀ m, m < n → ∀ z k, verD (chn (wrsD d n ws) z k) m = verD (chn d z k) m
  | [], s, B, d, h, _, _, _, _ => ⟨h, fun _ _ _ _ => rfl⟩
  | w :: ws, s, B, d, h, nd, so, okB, ok => by
    obtain ⟨h1, h2⟩ := h.wr nd ok.1 fun t k r e => by
      have := okB.1
      rw [e] at this
      rw [so.nm]; exact this.1
    obtain ⟨g1, g2⟩ := CR.wrs (ws := ws) (s := wrS s w) (B := wrB B n w) (d := wrD d n w) h1 (wrD_nd nd ok.1) (so.wr okB.1) okB.2 ok.2
    exact ⟨g1, fun m hm z k => (g2 m hm z k).trans (h2 m hm z k)⟩
theorem strict_wrs {n : Int} : ∀ {ws : List Wr} {d : SD}, (d.tabs.map fun t => t.1).Nodup → WrsOk d n ws → (wks ws).Nodup → (∀ z k, (chn d z k).Pairwise (fun a b => a.1 < b.1) ∧ (∀ v ∈ chn d z k, v.1 ≤ n) ∧ ((z, k) ∈ wks ws → ∀ v ∈ chn d z k, v.1 < n)) → ∀ z k, (chn (wrsD d n ws) z k).Pairwise fun a b => a.1 < b.1
  | [], _, _, _, _, h => fun z k => (h z k).1
  | w :: ws, d, nd, ok, nk, h => by
    have cw := chn_wr (n := n) nd ok.1
    refine strict_wrs (ws := ws) (d := wrD d n w) (wrD_nd nd ok.1) ok.2 ?_ fun z k => ?_
    · cases w with
      | row t k r => exact (List.nodup_cons.mp nk).2
      | tab z fs => exact nk
      | idx t f => exact nk
    · rw [cw z k]
      obtain ⟨h1, h2, h3⟩ := h z k
      cases w with
      | tab z0 fs => rw [List.append_nil]; exact ⟨h1, h2, h3⟩
      | idx t f => rw [List.append_nil]; exact ⟨h1, h2, h3⟩
      | row t k0 r =>
        have nk2 := List.nodup_cons.mp nk
        dsimp only
        by_cases c : z = t ∧ k = k0
        · rw [if_pos c]
          have hm := h3 (by rw [c.1, c.2]; exact List.mem_cons_self ..)
          refine ⟨List.pairwise_append.mpr ⟨h1, List.pairwise_singleton .., fun a ha b hb => by rw [List.mem_singleton.mp hb]; exact hm a ha⟩, fun v hv => ?_, fun m => ?_⟩
          · rcases List.mem_append.mp hv with q | q
            · exact h2 v q
            · rw [List.mem_singleton.mp q]; exact Int.le_refl _
          · rw [c.1, c.2] at m
            exact absurd m nk2.1
        · rw [if_neg c, List.append_nil]
          exact ⟨h1, h2, fun m => h3 (List.mem_cons_of_mem _ m)⟩
abbrev names4 : List Str := [Str.ofString "a", Str.ofString "bb", Str.ofString "ccc", Str.ofString "d"]
structure Rel (B : BC) (d : SD) : Prop where
  r0 : Rel0 B d
  first : d.first = 0
  ln : (B.states.length : Int) = d.newest + 1
  st : ∃ pre s, B.states = pre ++ [s] ∧ SOk s B
  sn : ∀ s ∈ B.states, SNd s
  zs : ∀ t ∈ B.tabs, t.1 ∈ names4
  fl : ∀ t ∈ B.tabs, t.2.2 ≠ [] ∧ t.2.2.length ≤ 4 ∧ t.2.2.Nodup ∧ ∀ f ∈ t.2.2, PyData.strOk f = true
  ml : B.made.length < B.states.length
  kl : B.kept.length ≤ 20 * B.states.length
  nn : ∀ t ∈ B.tabs, t.2.1 ≤ d.newest
  ns : B.tabs = [] → d.newest = 0
  mi : ∀ t ∈ d.tabs, t.2.made.map (fun x => x.1) = t.2.il.map (fun x => x.1)
  rw_ : ∀ y ∈ B.kept, 0 ≤ y.2.1 ∧ y.2.1 < 60 ∧ ∀ ns, y.2.2.2 = some ns → ns.head? = some y.2.1 ∧ ∀ v ∈ ns, v ≤ 100
  sr : ∀ z k, (chn d z k).Pairwise (fun a b => a.1 ≤ b.1) ∧ ∀ v ∈ chn d z k, v.1 ≤ d.newest
  lk : ∀ (m : Nat) s, B.states[m]? = some s → ∀ z k, lookS s z k = (verD (chn d z k) m).map fun u => u.2
  mn : (B.made.map fun m => m.1).Nodup
  su : ∀ z k, (chn d z k).Pairwise (fun a b => a.1 < b.1)
  mw : ∀ m ∈ B.made, m.2 ≤ d.newest
  t1 : B.tabs = [] ∨ ∃ t ∈ B.tabs, t.2.1 ≤ 1
theorem Rel.nd {B : BC} {d : SD} (R : Rel B d) : (B.tabs.map fun t => t.1).Nodup := by
  rw [R.r0.tb, List.map_map]; exact R.r0.nd
theorem Rel.l4 {B : BC} {d : SD} (R : Rel B d) : B.tabs.length ≤ 4 := by
  have z := nodup_le (B.tabs.map fun t => t.1) names4 R.nd fun y my => by
    obtain ⟨t, ht, rfl⟩ := List.mem_map.mp my
    exact R.zs t ht
  rw [List.length_map] at z
  exact z
/-- rows alone -/
def RowsP (tabs : List Tin) (ws : List Wr) : Prop := ∀ w ∈ ws, ∃ k r, ∃ x ∈ tabs, w = .row x.1 k r ∧ 0 ≤ k ∧ k < 60 ∧ ∀ ns, r = some ns → ns.length = x.2.2.length ∧ ns.head? = some k ∧ ∀ v ∈ ns, v ≤ 100
theorem rows_ok {n : Int} : ∀ {ws : List Wr} {B : BC} {d : SD}, Rel0 B d → RowsP B.tabs ws → WrsOk d n ws ∧ Rel0 (wrsB B n ws) (wrsD d n ws) ∧ (wrsB B n ws).tabs = B.tabs ∧ (wrsB B n ws).made = B.made ∧ (wrsB B n ws).kept.length = B.kept.length + ws.length ∧ (B.kept.length + ws.length < 100000 → WrsOkB B n ws) ∧ (∀ y ∈ (wrsB B n ws).kept, y ∈ B.kept ∨ 0 ≤ y.2.1 ∧ y.2.1 < 60 ∧ ∀ ns, y.2.2.2 = some ns → ns.head? = some y.2.1 ∧ ∀ v ∈ ns, v ≤ 100) ∧ ((wrsD d n ws).tabs.map fun t => (t.2.made, t.2.il.map fun x => x.1)) = d.tabs.map fun t => (t.2.made, t.2.il.map fun x => x.1)
  | [], _, _, R, _ => ⟨trivial, R, rfl, rfl, rfl, fun _ => trivial, fun y h => .inl h, rfl⟩
  | w :: ws, B, d, R, h => by
    obtain ⟨k, r, x, hx, rfl, k0, k1, wid⟩ := h w (List.mem_cons_self ..)
    have wo : WrOk d (.row x.1 k r) := by
      rw [R.tb] at hx
      obtain ⟨t, ht, e⟩ := List.mem_map.mp hx
      refine ⟨t.2, by rw [← e]; exact ht, fun ns en => ?_⟩
      have w1 := (wid ns en).1
      rw [← e] at w1
      exact w1
    have R' := rel_wr (n := n) R wo fun _ _ e => by cases e
    obtain ⟨h1, hR, h2, h3, h4, h5, h6, h7⟩ := rows_ok (n := n) (ws := ws) (B := wrB B n (.row x.1 k r)) (d := wrD d n (.row x.1 k r)) R' fun w hw => h w (List.mem_cons_of_mem _ hw)
    have lk : (wrB B n (.row x.1 k r)).kept.length = B.kept.length + 1 := List.length_append
    refine ⟨⟨wo, h1⟩, hR, h2, h3, by rw [List.length_cons]; show (wrsB (wrB B n (.row x.1 k r)) n ws).kept.length = _; rw [h4, lk]; omega, fun l => ⟨⟨List.mem_map_of_mem (f := fun t : Tin => t.1) hx, k0, k1, by rw [List.length_cons] at l; omega⟩, h5 (by rw [lk]; rw [List.length_cons] at l; omega)⟩, fun y hy => ?_, ?_⟩
    · rcases h6 y hy with q | q
      · rcases List.mem_append.mp q with q | q
        · exact .inl q
        · rw [List.mem_singleton.mp q]
          exact .inr ⟨k0, k1, fun ns en => (wid ns en).2⟩
      · exact .inr q
    · refine h7.trans ?_
      show ((setD d x.1 fun x => layD x n k r).tabs.map fun t => (t.2.made, t.2.il.map fun x => x.1)) = _
      unfold setD
      dsimp only
      rw [List.map_map]
      refine List.map_congr_left fun y _ => ?_
      show ((if y.1 = x.1 then (y.1, layD y.2 n k r) else y).2.made, (if y.1 = x.1 then (y.1, layD y.2 n k r) else y).2.il.map fun x => x.1) = _
      by_cases c : y.1 = x.1
      · rw [if_pos c]
        show (y.2.made, List.map (fun x => x.1) (match r with | none => y.2.il | some ns => _)) = _
        cases r with
        | none => rfl
        | some ns => rw [List.map_map]; rfl
      · rw [if_neg c]
end GS

set_option linter.all false
set_option maxHeartbeats 4000000
namespace GS
open PySem L2 HX
theorem wrsD_first (n : Int) : ∀ (ws : List Wr) (d : SD), (wrsD d n ws).first = d.first
  | [], _ => rfl
  | w :: ws, d => by
    refine (wrsD_first n ws (wrD d n w)).trans ?_
    cases w <;> rfl
theorem wrsD_moms (n : Int) : ∀ (ws : List Wr) (d : SD), (wrsD d n ws).moms = d.moms
  | [], _ => rfl
  | w :: ws, d => by
    refine (wrsD_moms n ws (wrD d n w)).trans ?_
    cases w <;> rfl
theorem mi_of {a b : List (Str × TD)} (e : (a.map fun t => (t.2.made, t.2.il.map fun x => x.1)) = b.map fun t => (t.2.made, t.2.il.map fun x => x.1)) (h : ∀ t ∈ b, t.2.made.map (fun x => x.1) = t.2.il.map (fun x => x.1)) : ∀ t ∈ a, t.2.made.map (fun x => x.1) = t.2.il.map (fun x => x.1) := fun t ht => by
  have m : (t.2.made, t.2.il.map fun x => x.1) ∈ b.map fun t => (t.2.made, t.2.il.map fun x => x.1) := by rw [← e]; exact List.mem_map.mpr ⟨t, ht, rfl⟩
  obtain ⟨u, hu, eu⟩ := List.mem_map.mp m
  injection eu with e1 e2
  rw [← e1, ← e2]; exact h u hu
/-- what the writes of a record need, and what is left to be known behind it -/
theorem wrs_step {B : BC} {d : SD} {ws : List Wr} (R : Rel B d) (W : WsP B ws) (few : B.states.length ≤ 90) (n : Int) (en : n = (B.states.length : Nat)) :
    WrsOk d n ws ∧ WrsOkB B n ws ∧ ws.length ≤ 20 ∧ Rel0 (wrsB B n ws) (wrsD d n ws) ∧ (∀ t ∈ (wrsB B n ws).tabs, t.1 ∈ names4 ∧ (t.2.2 ≠ [] ∧ t.2.2.length ≤ 4 ∧ t.2.2.Nodup ∧ ∀ f ∈ t.2.2, PyData.strOk f = true) ∧ t.2.1 ≤ n) ∧ (wrsB B n ws).made.length ≤ B.made.length + 1 ∧ (wrsB B n ws).kept.length ≤ B.kept.length + 20 ∧ (wrsB B n ws).tabs ≠ [] ∧
    (∀ t ∈ (wrsD d n ws).tabs, t.2.made.map (fun x => x.1) = t.2.il.map (fun x => x.1)) ∧ (∀ y ∈ (wrsB B n ws).kept, 0 ≤ y.2.1 ∧ y.2.1 < 60 ∧ ∀ ns, y.2.2.2 = some ns → ns.head? = some y.2.1 ∧ ∀ v ∈ ns, v ≤ 100) ∧ ((wrsB B n ws).made.map fun m => m.1).Nodup ∧ (wks ws).Nodup ∧ (∀ m ∈ (wrsB B n ws).made, m.2 ≤ n) := by
  have n0 : d.newest + 1 = n := by rw [en]; exact R.ln.symm
  have l4 := R.l4
  have ld : d.tabs.length = B.tabs.length := by rw [R.r0.tb, List.length_map]
  have kl := R.kl
  have ml := R.ml
  have old : ∀ t ∈ B.tabs, t.1 ∈ names4 ∧ (t.2.2 ≠ [] ∧ t.2.2.length ≤ 4 ∧ t.2.2.Nodup ∧ ∀ f ∈ t.2.2, PyData.strOk f = true) ∧ t.2.1 ≤ n := fun t ht => ⟨R.zs t ht, R.fl t ht, by have := R.nn t ht; omega⟩
  have mwo : ∀ m ∈ B.made, m.2 ≤ n := fun m hm => by have := R.mw m hm; omega
  rcases W with ⟨z, fs, rfl, mz, nz, f0, f4, fnd⟩ | ⟨f, x, hx, rfl, ff, nf⟩ | ⟨ne, l20, wkn, rows⟩
  · have wo : WrOk d (.tab z fs) := ⟨by rw [R.r0.tb, List.map_map] at nz; exact nz, f0, f4, fnd.1, by omega⟩
    refine ⟨⟨wo, trivial⟩, ⟨⟨nz, by omega⟩, trivial⟩, by show 1 ≤ 20; decide, rel_wr R.r0 wo (fun _ _ e => by cases e), fun t ht => ?_, Nat.le_succ _, Nat.le_add_right _ _, fun e => ?_, fun t ht => ?_, R.rw_, R.mn, List.nodup_nil, mwo⟩
    · rcases List.mem_append.mp (show t ∈ B.tabs ++ [(z, n, fs)] from ht) with h | h
      · exact old t h
      · rw [List.mem_singleton.mp h]; exact ⟨mz, ⟨f0, f4, fnd⟩, Int.le_refl _⟩
    · have e : B.tabs ++ [(z, n, fs)] = [] := e
      simp at e
    · rcases List.mem_append.mp (show t ∈ d.tabs ++ [(z, (⟨n, fs, [], [], []⟩ : TD))] from ht) with h | h
      · exact R.mi t h
      · rw [List.mem_singleton.mp h]; rfl
  · have hx' := hx
    rw [R.r0.tb] at hx'
    obtain ⟨t0, ht0, et0⟩ := List.mem_map.mp hx'
    have e1 : t0.1 = x.1 := by rw [← et0]
    have e2 : t0.2.fields = x.2.2 := by rw [← et0]
    have mn : mdF d x.1 f = none := by
      rw [← R.r0.md]
      rw [List.find?_eq_none.mpr fun y hy => by
        simp only [decide_eq_true_eq]
        exact fun e => nf (List.mem_map.mpr ⟨y, hy, e⟩)]
      rfl
    have nmade : f ∉ t0.2.il.map (fun i => i.1) := fun m => by
      rw [← R.mi t0 ht0] at m
      obtain ⟨p, hp, ep⟩ := List.mem_map.mp m
      unfold mdF at mn
      rw [tabD_has R.r0.nd (show (x.1, t0.2) ∈ d.tabs by rw [← e1]; exact ht0)] at mn
      have mn : (t0.2.made.find? fun m => decide (m.1 = f)).map (fun m => m.2) = none := mn
      cases e : t0.2.made.find? fun m => decide (m.1 = f) with
      | none => have q := List.find?_eq_none.mp e p hp; simp [ep] at q
      | some m => rw [e] at mn; cases mn
    have wo : WrOk d (.idx x.1 f) := ⟨t0.2, by rw [← e1]; exact ht0, by rw [e2]; exact ff, nmade⟩
    refine ⟨⟨wo, trivial⟩, ⟨⟨nf, by omega⟩, trivial⟩, by show 1 ≤ 20; decide, rel_wr R.r0 wo (fun t g e => by injection e with e1 e2; rw [← e1, ← e2]; exact mn), old, by show (B.made ++ [((x.1, f), n)]).length ≤ _; rw [List.length_append]; exact Nat.le_refl _, Nat.le_add_right _ _, fun e => ?_, fun t ht => ?_, R.rw_, ?_, List.nodup_nil, fun m hm => ?_⟩
    · have e : B.tabs = [] := e
      rw [e] at hx; cases hx
    · obtain ⟨y, hy, rfl⟩ := List.mem_map.mp (show t ∈ d.tabs.map (fun u => if u.1 = x.1 then (u.1, indexD u.2 n f) else u) from ht)
      split
      · show (y.2.made ++ [(f, n)]).map _ = (y.2.il ++ [(f, _)]).map _
        rw [List.map_append, List.map_append, R.mi _ hy]; rfl
      · exact R.mi _ hy
    · show ((B.made ++ [((x.1, f), n)]).map fun m => m.1).Nodup
      rw [List.map_append]
      refine List.nodup_append.mpr ⟨R.mn, List.nodup_cons.mpr ⟨List.not_mem_nil, List.nodup_nil⟩, fun a ha b hb e => nf ?_⟩
      rw [List.mem_singleton.mp hb] at e
      rw [show (x.1, f) = a from e.symm]; exact ha
    · rcases List.mem_append.mp (show m ∈ B.made ++ [((x.1, f), n)] from hm) with q | q
      · exact mwo m q
      · rw [List.mem_singleton.mp q]; exact Int.le_refl _
  · obtain ⟨wo, hR, h2, h3, h4, h5, h6, h7⟩ := rows_ok (n := n) R.r0 rows
    refine ⟨wo, h5 (by omega), l20, hR, fun t ht => old t (by rw [← h2]; exact ht), by rw [h3]; omega, by rw [h4]; omega, fun e => ne (h2.symm.trans e), mi_of h7 R.mi, fun y hy => ?_, by rw [h3]; exact R.mn, wkn, fun m hm => mwo m (by rw [← h3]; exact hm)⟩
    rcases h6 y hy with q | q
    · exact R.rw_ y q
    · exact q
theorem wrsB_tabs0 (n : Int) : ∀ (ws : List Wr) (B : BC) (t : Tin), t ∈ B.tabs → t ∈ (wrsB B n ws).tabs
  | [], _, _, h => h
  | w :: ws, B, t, h => wrsB_tabs0 n ws (wrB B n w) t (by
    cases w with
    | tab z fs => exact List.mem_append_left _ h
    | idx t f => exact h
    | row t k r => exact h)
/-- a record more -/
theorem rel_step {B : BC} {d : SD} {ws : List Wr} {pre : List StD} {s : StD} (R : Rel B d) (W : WsP B ws) (few : B.states.length ≤ 90) (est : B.states = pre ++ [s]) (so : SOk s B) (n : Int) (en : n = (B.states.length : Nat)) :
    WrsOk d n ws ∧ WrsOkB B n ws ∧ ws.length ≤ 20 ∧ Rel { wrsB B n ws with states := B.states ++ [wrsS s ws] } { wrsD d n ws with newest := n } := by
  have n0 : d.newest + 1 = n := by rw [en]; exact R.ln.symm
  have kl := R.kl
  have ml := R.ml
  obtain ⟨w1, w2, w3, hR, tabs, hm, hk, ht, mi, rw2, mn, wkn, mw⟩ := wrs_step R W few n en
  have t1' : ∃ t ∈ (wrsB B n ws).tabs, t.2.1 ≤ 1 := by
    rcases R.t1 with e | ⟨t, h, l⟩
    · have z := R.ns e
      cases eb : (wrsB B n ws).tabs with
      | nil => exact absurd eb ht
      | cons t0 tr =>
        refine ⟨t0, List.mem_cons_self .., ?_⟩
        have q := (tabs t0 (by rw [eb]; exact List.mem_cons_self ..)).2.2
        omega
    · exact ⟨t, wrsB_tabs0 n ws B t h, l⟩
  have lnS : (((B.states ++ [wrsS s ws]).length : Nat) : Int) = n + 1 := by rw [List.length_append, en]; rfl
  have lS : (B.states ++ [wrsS s ws]).length = B.states.length + 1 := List.length_append
  have es : B.states[B.states.length - 1]? = some s := by rw [est]; simp
  have l0 : 0 < B.states.length := by rw [est]; simp
  have cr0 : CR s d n := by
    refine ⟨fun z k => ?_, fun z k => ⟨(R.sr z k).1, fun v hv => by have := (R.sr z k).2 v hv; omega⟩⟩
    rw [R.lk _ s es z k, verD_same (m := ((B.states.length - 1 : Nat) : Int)) (n := n) (fun v hv => by have := (R.sr z k).2 v hv; omega) (by omega)]
  obtain ⟨cr1, old⟩ := cr0.wrs R.r0.nd so w2 w1
  have so1 : SOk (wrsS s ws) (wrsB B n ws) := by
    have h := so.at_ w2 ws.length (Nat.le_refl _)
    rw [List.take_length] at h
    exact h
  have ndB : ((wrsB B n ws).tabs.map fun t => t.1).Nodup := by rw [hR.tb, List.map_map]; exact hR.nd
  refine ⟨w1, w2, w3, ?_⟩
  refine { r0 := ⟨hR.tb, hR.nd, hR.md, hR.kp, hR.sm, hR.kd⟩, first := (wrsD_first n ws d).trans R.first, ln := lnS, st := ⟨_, _, rfl, ⟨so1.nm, so1.rs⟩⟩, sn := fun u hu => ?_, zs := fun t h => (tabs t h).1, fl := fun t h => (tabs t h).2.1, ml := ?_, kl := ?_, nn := fun t h => (tabs t h).2.2, ns := fun e => absurd e ht, mi := mi, rw_ := rw2, sr := fun z k => cr1.sr z k, lk := fun m u hu z k => ?_, mn := mn, mw := mw, t1 := .inr t1', su := strict_wrs R.r0.nd w1 wkn fun z k => ⟨R.su z k, fun v hv => by have := (R.sr z k).2 v hv; omega, fun _ v hv => by have := (R.sr z k).2 v hv; omega⟩ }
  · rcases List.mem_append.mp hu with h | h
    · exact R.sn u h
    · rw [List.mem_singleton.mp h]
      exact ⟨by rw [so1.nm]; exact ndB, so1.rs⟩
  · show (wrsB B n ws).made.length < _; rw [lS]; omega
  · show (wrsB B n ws).kept.length ≤ _; rw [lS]; omega
  · rcases Nat.lt_or_ge m B.states.length with lm | lm
    · have hu : (B.states ++ [wrsS s ws])[m]? = some u := hu
      rw [List.getElem?_append_left lm] at hu
      rw [R.lk m u hu z k]
      exact congrArg _ (old m (by omega) z k).symm
    · have hu : (B.states ++ [wrsS s ws])[m]? = some u := hu
      have lm2 := (List.getElem?_eq_some_iff.mp hu).1
      rw [lS] at lm2
      have em : m = B.states.length := by omega
      subst em
      rw [List.getElem?_append_right (Nat.le_refl _), Nat.sub_self] at hu
      obtain rfl := Option.some.inj hu
      rw [← en]
      exact cr1.lk z k
end GS

set_option linter.all false
set_option maxHeartbeats 4000000
namespace GS
open PySem L2 HX
theorem wrsB_tabs (n : Int) : ∀ (ws : List Wr) (B : BC) (t : Tin), t ∈ B.tabs → t ∈ (wrsB B n ws).tabs
  | [], _, _, h => h
  | w :: ws, B, t, h => wrsB_tabs n ws (wrB B n w) t (by
    cases w with
    | tab z fs => exact List.mem_append_left _ h
    | idx t f => exact h
    | row t k r => exact h)
def wfp (a b st bk : Addr) (own : List Addr) (B : BC) (sc : SC) : List Addr := a :: b :: (bfp own bk B ++ sfp sc st)
theorem wfp_mem {a b st bk x : Addr} {own : List Addr} {B : BC} {sc : SC} : x ∈ wfp a b st bk own B sc ↔ x = a ∨ x = b ∨ x ∈ bfp own bk B ∨ x ∈ sfp sc st := by
  unfold wfp
  rw [List.mem_cons, List.mem_cons, List.mem_append]
/-- box, store and book -/
structure Ws (K : PySem.W.Frag) (CS CT CI : Addr) (H : Hp) (a b st bk : Addr) (own : List Addr) (B : BC) (sc : SC) (m : Nat) : Prop where
  bx : BoxAt H a b
  sa : SAt K CS CT CI H st sc
  ok : sc.Ok m
  ba : BAt K H own bk B
  r : Rel B sc.dat
  ab : a ∉ bfp own bk B ∧ b ∉ bfp own bk B ∧ a ∉ sfp sc st ∧ b ∉ sfp sc st
  bs : ∀ x ∈ bfp own bk B, x ∉ sfp sc st
theorem Ws.ne {K : PySem.W.Frag} {CS CT CI : Addr} {H : Hp} {a b st bk x : Addr} {own : List Addr} {B : BC} {sc : SC} {m : Nat} (c : Ws K CS CT CI H a b st bk own B sc m) (h : x ∈ wfp a b st bk own B sc) : ∃ o, H x = some o ∧ ¬ TupO o := by
  obtain ⟨z, cs, h1, h2, _⟩ := c.bx
  rcases wfp_mem.mp h with h | h | h | h
  · exact ⟨_, h ▸ h1, by intro z; exact z⟩
  · exact ⟨_, h ▸ h2, by intro z; exact z⟩
  · exact c.ba.notup h
  · exact c.sa.notup h
theorem KF.tkW {K : PySem.W.Frag} {CS CT CI : Addr} {H H' : Hp} {a b st bk : Addr} {own : List Addr} {B : BC} {sc : SC} {m : Nat} (c : Ws K CS CT CI H a b st bk own B sc m) (k : KF (wfp a b st bk own B sc) H H') : TK H H' := fun x u hu h => by
  refine k x _ (fun mx => ?_) h
  obtain ⟨o, h1, h2⟩ := c.ne mx
  rw [h] at h1
  exact h2 (Option.some.inj h1 ▸ hu)
def spTold (K : PySem.W.Frag) (CS CT CI : Addr) : Sp := fun vs H Q _ => ∃ (a b st bk : Addr) (own : List Addr) (B : BC) (sc : SC) (m : Nat), vs = [.ref a, .ref st, .ref bk] ∧ Ws K CS CT CI H a b st bk own B sc m ∧ B.states.length ≤ 90 ∧ m + 40 ≤ 100000 ∧
  ∀ own' B' sc' H', Ws K CS CT CI H' a b st bk own' B' sc' (m + 40) → B'.states.length = B.states.length + 1 → (∀ t ∈ B.tabs, t ∈ B'.tabs) → sc'.moms = sc.moms → KF (wfp a b st bk own B sc) H H' → (∀ x ∈ wfp a b st bk own' B' sc', x ∈ wfp a b st bk own B sc ∨ H x = none) → Q .non H'
section
variable {P : Program} {w : World} {K : PySem.W.Frag} {mg : Str → Option Value} {base : Heap}
theorem scTr : FnScope ["_law_box", "_law_store", "_law_b", "_law_writes_here"] ["_law_box", "_law_store", "_law_b"] (defScope s_l_told_record) := ⟨rfl, rfl, rfl, by decide +kernel, rfl, by decide +kernel, by decide +kernel⟩
theorem ok_told {f fw fn CS CT CI f1 : Addr} {fd fdw fdn fd1 : FuncData} (F : Fun K "_law_told_record" "_law_told_record" s_l_told_record f fd) (TS : TxtS K CS) (Cwr : Cal P w K mg base 5 "_law_writes" ["_law_box", "_law_b"] (spWrites K) fw fdw) (Cnt : Cal P w K mg base 5 "_law_noted" ["_law_b", "_law_writes_here"] (spNoted K) fn fdn) (C1 : CalM P w K mg base 5 CS "take" ["self", "number", "writes"] (spTk K CS CT CI) f1 fd1) : FnOk P w K mg base CX0 6 f fd ["_law_box", "_law_store", "_law_b"] (spTold K CS CT CI) := by
  refine F.ok scTr (fun vs H Q E h => ?_) (fun cdv A outer s H vs Q E hr h => ?_)
  · obtain ⟨a, b, st, bk, own, B, sc, m, rfl, _⟩ := h
    rfl
  · obtain ⟨a, b, st, bk, own, B, sc, m, rfl, c, few, fm, kk⟩ := h
    have hr5 : Room 5 _ := hr
    refine ⟨_, (pss_cons (ps_set (i := 3) scTr.nd rfl (Or.inl rfl) (pe_call Cwr.G hr5 rfl Cwr.g Cwr.kp Cwr.b .nil pass0 (pa_cons (pv 0) (pa_cons (pv 2) pa_nil))))
      (pss_one (ps_expr (pe_meth (pv 1) TS.cl C1.mt C1.G hr5 C1.b .nil pass0 (pa_cons (pe_call Cnt.G hr5 rfl Cnt.g Cnt.kp Cnt.b .nil pass0 (pa_cons (pv 2) (pa_cons (pv 3) pa_nil))) (pa_cons (pv 3) pa_nil)))))), ?_⟩
    obtain ⟨pre, s0, est, so⟩ := c.r.st
    have l4 := c.r.l4
    have ml := c.r.ml
    refine sa1 ⟨_, rfl, _, rfl, a, b, bk, own, B, rfl, c.bx, c.ba, c.ab.1, c.ab.2.1, c.r.nd, c.r.l4, fun t ht => ⟨(c.r.fl t ht).1, (c.r.fl t ht).2.1⟩, by omega, fun p ws us H1 k1 B1 hp pw W => gn ?_⟩
    obtain ⟨w1, w2, w3, R'⟩ := rel_step c.r W few est so _ rfl
    have tk1 := Keep.tk c.bx k1
    have sa1 : SAt K CS CT CI H1 st sc := c.sa.keep (fun x hx o e => k1 x o (fun q => c.ab.2.2.1 (q ▸ hx)) (fun q => c.ab.2.2.2 (q ▸ hx)) e) tk1
    have ba1 : BAt K H1 own bk B := c.ba.keep (fun x hx o e => k1 x o (fun q => c.ab.1 (q ▸ hx)) (fun q => c.ab.2.1 (q ▸ hx)) e) tk1
    obtain ⟨dx, fs, ob, l⟩ := sa1.ob
    have lkk : fs.lookup ("take" : Str) = none := l.no _ (by decide +kernel) (by decide +kernel) (by decide +kernel) (by decide +kernel)
    refine ⟨_, rfl, st, dx, fs, rfl, ob, lkk, _, rfl, _, rfl, bk, p, own, B, ws, us, pre, s0, rfl, ba1, est, so, by omega, c.r.nd, by omega, hp, pw, w2, fun own' H2 ba2 fp2 kf2 => ⟨_, rfl, ?_⟩⟩
    have n1 : ∀ x ∈ bfp own bk B, H x ≠ none := fun x hx e => by
      obtain ⟨o, h, _⟩ := c.ba.notup hx
      rw [e] at h; cases h
    have kb2 : ∀ x, x ∉ bfp own bk B → ∀ o, H1 x = some o → H2 x = some o := fun x nx o e => kf2 x o (fun mx => nx (by
      simp only [List.mem_cons, List.not_mem_nil, or_false] at mx
      simp only [bfp, List.mem_cons]
      rcases mx with h | h | h | h
      · exact .inr (.inl h)
      · exact .inr (.inr (.inl h))
      · exact .inr (.inr (.inr (.inl h)))
      · exact .inr (.inr (.inr (.inr (.inl h)))))) e
    have tk2 : TK H1 H2 := fun x u hu e => kb2 x (fun mx => by
      obtain ⟨o, h1, h2⟩ := ba1.notup mx
      rw [e] at h1
      exact h2 (Option.some.inj h1 ▸ hu)) u e
    have sa2 : SAt K CS CT CI H2 st sc := sa1.keep (fun x hx o e => kb2 x (fun mx => c.bs x mx hx) o e) tk2
    have hp2 := sqt_keep tk2 hp
    have pw2 := pw_imp (fun _ _ h => WrAt.keep tk2 h) pw
    refine ⟨st, p, _, sc, m, ws, us, rfl, sa2, c.ok, c.r.ln, hp2, pw2, by omega, w1, fun sc' H3 md => ?_⟩
    have e4 := wrsB_addr (B.states.length : Nat) ws B
    have in2 : ∀ x ∈ bfp own' bk { wrsB B (B.states.length : Nat) ws with states := B.states ++ [wrsS s0 ws] }, x ∈ bfp own bk B ∨ H1 x = none := fun x hx => by
      simp only [bfp, List.mem_cons] at hx ⊢
      rw [e4.1, e4.2.1, e4.2.2.1, e4.2.2.2.1] at hx
      rcases hx with h | h | h | h | h | h
      · exact .inl (.inl h)
      · exact .inl (.inr (.inl h))
      · exact .inl (.inr (.inr (.inl h)))
      · exact .inl (.inr (.inr (.inr (.inl h))))
      · exact .inl (.inr (.inr (.inr (.inr (.inl h)))))
      · exact (fp2 x h).imp (fun h => .inr (.inr (.inr (.inr (.inr h))))) id
    have nosf : ∀ x ∈ bfp own' bk { wrsB B (B.states.length : Nat) ws with states := B.states ++ [wrsS s0 ws] }, x ∉ sfp sc st := fun x hx m => by
      rcases in2 x hx with h | h
      · exact c.bs x h m
      · obtain ⟨o, e, _⟩ := sa1.notup m
        rw [h] at e; cases e
    have tk3 : TK H2 H3 := KF.tkS sa2 md.kf
    obtain ⟨z, cs, x1, x2, x3⟩ := B1
    have y1 := kb2 a c.ab.1 _ x1
    have y2 := kb2 b c.ab.2.1 _ x2
    have z1 := md.kf a _ c.ab.2.2.1 y1
    have z2 := md.kf b _ c.ab.2.2.2 y2
    have some1 : ∀ x o, H x = some o → x = a ∨ x = b ∨ H1 x = some o := fun x o e => by
      by_cases ea : x = a
      · exact .inl ea
      · by_cases eb : x = b
        · exact .inr (.inl eb)
        · exact .inr (.inr (k1 x o ea eb e))
    refine kk own' _ sc' H3 ⟨⟨z, cs, z1, z2, x3⟩, md.at_, md.ok.le (by omega), ba2.keep (fun x hx o e => md.kf x o (nosf x hx) e) tk3, by rw [md.dat]; exact R', ⟨fun m => ?_, fun m => ?_, fun m => ?_, fun m => ?_⟩, fun x hx m => ?_⟩ List.length_append (fun t ht => wrsB_tabs _ ws B t ht) ((congrArg SD.moms md.dat).trans (wrsD_moms _ ws sc.dat)) (fun x o n e => ?_) fun x hx => ?_
    · rcases in2 a m with h | h
      · exact c.ab.1 h
      · rw [x1] at h; cases h
    · rcases in2 b m with h | h
      · exact c.ab.2.1 h
      · rw [x2] at h; cases h
    · rcases md.fp a m with h | h
      · exact c.ab.2.2.1 h
      · rw [y1] at h; cases h
    · rcases md.fp b m with h | h
      · exact c.ab.2.2.2 h
      · rw [y2] at h; cases h
    · rcases md.fp x m with h | h
      · exact nosf x hx h
      · obtain ⟨o, e, _⟩ := ba2.notup hx
        rw [h] at e; cases e
    · have n : ¬ (x = a ∨ x = b ∨ x ∈ bfp own bk B ∨ x ∈ sfp sc st) := fun h => n (wfp_mem.mpr h)
      simp only [not_or] at n
      exact md.kf x o n.2.2.2 (kb2 x n.2.2.1 o (k1 x o n.1 n.2.1 e))
    · have fin : (x = a ∨ x = b ∨ x ∈ bfp own bk B ∨ x ∈ sfp sc st) ∨ H x = none → x ∈ wfp a b st bk own B sc ∨ H x = none := fun h => h.imp wfp_mem.mpr id
      have none1 : H1 x = none → (x = a ∨ x = b ∨ x ∈ bfp own bk B ∨ x ∈ sfp sc st) ∨ H x = none := fun e => by
        cases eo : H x with
        | none => exact .inr rfl
        | some o =>
          rcases some1 x o eo with h | h | h
          · exact .inl (.inl h)
          · exact .inl (.inr (.inl h))
          · rw [e] at h; cases h
      rcases wfp_mem.mp hx with h | h | h | h
      · exact fin (.inl (.inl h))
      · exact fin (.inl (.inr (.inl h)))
      · rcases in2 x h with h | h
        · exact fin (.inl (.inr (.inr (.inl h))))
        · exact fin (none1 h)
      · rcases md.fp x h with h | h
        · exact fin (.inl (.inr (.inr (.inr h))))
        · by_cases mb : x ∈ bfp own bk B
          · exact fin (.inl (.inr (.inr (.inl mb))))
          · refine fin (none1 ?_)
            cases eo : H1 x with
            | none => rfl
            | some o => rw [kb2 x mb o eo] at h; cases h
end
end GS

set_option Elab.async false
set_option linter.all false
set_option maxRecDepth 100000
/-! o.m(k = v, ..) of one's own class: a method's keyword arguments -/
namespace L2
open PySem PySem.Spec PyProof.Rows
section
variable {X : Cx} {CX : CXT} {k n : Nat} {f C : Addr} {fd : FuncData} {ps ks : List Str} {sp : Sp} {E : XK} {m : Str} {pos apos : Pos} {o : Expr} {kws : List Keyword} {ta : TE} {tk : TA} {g : List Value → List Value → List Value} {gV : List V → List V → List V}
def tMethK (C : Addr) (m : Str) (n : Nat) (sp : Sp) (gV : List V → List V → List V) (E : XK) (ta : TE) (tk : TA) : TE := fun σ H Q => ta σ H fun x H1 => ∃ (a dx : Addr) (fs : List (Str × V)), x = .ref a ∧ H1 a = some (.ins C dx fs) ∧ fs.lookup m = none ∧ tk σ H1 fun zs H2 => zs.length = n ∧ sp (gV [.ref a] zs) H2 Q E
theorem pe_methK0 {pl : Sem Bool} (he : PE X o ta) (c : Cls X.K C) (hm : Meth X.K C m f) (F : FnOk X.prog X.w X.K X.mg X.base CX k f fd ps sp) (hr : Room k X.A) (hb : KBn X.K fd ps 1 ks g gV) (hx : Passes CX X E) (hkw : PK X kws tk)
    (hall : (backToKw pos (keywordEach kws X.env)).all (·.1.isSome) = true := by rfl) (hks : (backToKw pos (keywordEach kws X.env)).filterMap (·.1) = ks := by rfl)
    (hpl : ((backTo pos (starEach [] X.env)).any (·.1) || (backToKw pos (keywordEach kws X.env)).any (·.1.isNone)) = false := by rfl)
    (ht : eval (.Call (.Attribute o m apos) [] kws pos) X.env = (do
      let ov ← eval o X.env
      standAt apos.atName
      let (f, first) ← holding [ov] (getMethod ov m pl)
      callWith pos f first (backTo pos (starEach [] X.env)) (backToKw pos (keywordEach kws X.env))) := by rfl) :
    PE X (.Call (.Attribute o m apos) [] kws pos) (tMethK C m ks.length sp gV E ta tk) := by
  refine ⟨fun pins s σ H Q I h => ?_⟩
  refine PySem.W.methodCall_KW (pl := pl) (thn (he.run pins s σ H _ I h) fun u s1 ⟨x, H1, I1, rx, a, dx, fs, ex, ea, l, q⟩ => ?_) ht
  subst ex
  obtain rfl : u = Value.ref a := rx
  refine getmeth_ok I1 ea c hm l ?_
  refine PySem.W.callWith_KW0 (first := [.ref a]) (h₀ := X.base) I1.ok.mod.kin hm.kp hall ?_ hpl
  refine thn (hkw.run pos pins s1 σ H1 _ I1 q) fun ws s2 ⟨zs, H2, I2, rz, l2, q2⟩ => ⟨I2.kIn, ?_⟩
  rw [hks]
  exact run_fnN (us := [.ref a]) (vs := [.ref a]) F hr hb hx I2 (.cons rfl .nil) rz rfl l2 q2
end
end L2

set_option Elab.async false
set_option maxRecDepth 100000
set_option maxHeartbeats 4000000
namespace TH
open PySem PySem.Spec PyProof.Rows L2 LamX NdefX
/-- cells are shut into the abstract heap, frozen as they stand; and taken out of it again -/
def addC (cs : List (Addr × Obj)) (H : Hp) : Hp := fun b => match cs.lookup b with | some o => some (.frz o (.own b)) | none => H b
def subC (cs : List (Addr × Obj)) (H : Hp) : Hp := fun b => match cs.lookup b with | some _ => none | none => H b
theorem addC_in {cs : List (Addr × Obj)} {H : Hp} {b : Addr} {o : Obj} (h : cs.lookup b = some o) : addC cs H b = some (.frz o (.own b)) := by unfold addC; rw [h]
theorem addC_out {cs : List (Addr × Obj)} {H : Hp} {b : Addr} (h : cs.lookup b = none) : addC cs H b = H b := by unfold addC; rw [h]
theorem subC_in {cs : List (Addr × Obj)} {H : Hp} {b : Addr} {o : Obj} (h : cs.lookup b = some o) : subC cs H b = none := by unfold subC; rw [h]
theorem subC_out {cs : List (Addr × Obj)} {H : Hp} {b : Addr} (h : cs.lookup b = none) : subC cs H b = H b := by unfold subC; rw [h]
/-- they stand in the heap, untracked -/
def CsAt (cs : List (Addr × Obj)) (H : Hp) (h : Heap) : Prop := ∀ b o, cs.lookup b = some o → h.get? b = some o ∧ H b = none
/-- they are shut in -/
def CsIn (cs : List (Addr × Obj)) (H : Hp) : Prop := ∀ b o, cs.lookup b = some o → H b = some (.frz o (.own b))
theorem csIn_add (cs : List (Addr × Obj)) (H : Hp) : CsIn cs (addC cs H) := fun _ _ h => addC_in h
/-- what is no cell is seen alike -/
theorem out_of {cs : List (Addr × Obj)} {H : Hp} {b : Addr} (i : CsIn cs H) (n : ∀ o, H b ≠ some (.frz o (.own b))) : cs.lookup b = none := by
  cases e : cs.lookup b with
  | none => rfl
  | some o => exact absurd (i b o e) (n o)
theorem out_none {cs : List (Addr × Obj)} {H : Hp} {b : Addr} (i : CsIn cs H) (n : H b = none) : cs.lookup b = none := out_of i fun o z => by rw [n] at z; cases z
section
variable {P : Program} {w : World} {cs : List (Addr × Obj)} {H H' : Hp} {h h' B : Heap} {fs : List Addr}
theorem out_own (a : CsAt cs H h) {b x : Addr} (e : H b = some (.own x)) : cs.lookup b = none := by
  cases q : cs.lookup b with
  | none => rfl
  | some o => rw [(a b o q).2] at e; cases e
theorem out_tup (a : CsAt cs H h) {b : Addr} {xs : List V} (e : H b = some (.tup xs)) : cs.lookup b = none := by
  cases q : cs.lookup b with
  | none => rfl
  | some o => rw [(a b o q).2] at e; cases e
theorem out_some (a : CsAt cs H h) {b : Addr} {u : HO} (e : H b = some u) : cs.lookup b = none := by
  cases q : cs.lookup b with
  | none => rfl
  | some o => rw [(a b o q).2] at e; cases e
theorem hok_add (x : HOk P w H h) (a : CsAt cs H h) : HOk P w (addC cs H) h := fun b u e => by
  cases q : cs.lookup b with
  | some o =>
    rw [addC_in q] at e
    cases e
    exact ⟨(a b o q).1, o, (a b o q).1⟩
  | none =>
    rw [addC_out q] at e
    exact (x b u e).stay (fun _ _ _ z => z) (fun c z => by rw [addC_out (out_own a z)]; exact z) fun c xs z => by rw [addC_out (out_tup a z)]; exact z
theorem hok_sub (x : HOk P w H h) (i : CsIn cs H) : HOk P w (subC cs H) h := fun b u e => by
  cases q : cs.lookup b with
  | some o =>
    rw [subC_in q] at e
    cases e
  | none =>
    rw [subC_out q] at e
    refine (x b u e).stay (fun _ _ _ z => z) (fun c z => ?_) fun c xs z => ?_
    · rw [subC_out (out_of i fun o y => by rw [z] at y; cases y)]; exact z
    · rw [subC_out (out_of i fun o y => by rw [z] at y; cases y)]; exact z
theorem csAt_sub (x : HOk P w H h) (i : CsIn cs H) : CsAt cs (subC cs H) h := fun b o q => ⟨(x b _ (i b o q)).1, subC_in q⟩
/-- a call's end, seen from without: the cells were shut in for it -/
theorem un_add (u : Un fs [] (addC cs H) H' h h') (a : CsAt cs H h) (x : HOk P w H' h') : Un fs [] H (subC cs H') h h' where
  keep := fun b o e n hb hx => by
    cases q : cs.lookup b with
    | some o' =>
      have e1 := (a b o' q).1
      rw [e] at e1
      cases e1
      exact (x b _ (u.frzs b o _ (addC_in q))).1
    | none => exact u.keep b o e (by rw [addC_out q]; exact n) hb hx
  slot := fun b o e n hb hx => by
    cases q : cs.lookup b with
    | some o' =>
      have e1 := (a b o' q).1
      rw [e] at e1
      cases e1
      exact ⟨o.slots, (x b _ (u.frzs b o _ (addC_in q))).1⟩
    | none => exact u.slot b o e (by rw [addC_out q]; exact n) hb hx
  free := fun b o e n hx => by
    cases q : cs.lookup b with
    | some o' => exact subC_in q
    | none =>
      rw [subC_out q]
      exact u.free b o e (by rw [addC_out q]; exact n) hx
  there := u.there
  tups := fun b xs e => by
    have q := out_some a e
    rw [subC_out q]
    exact u.tups b xs (by rw [addC_out q]; exact e)
  frzs := fun b o v e => by
    have q := out_some a e
    rw [subC_out q]
    exact u.frzs b o v (by rw [addC_out q]; exact e)
  tbls := fun b ps e => by
    have q := out_some a e
    rw [subC_out q]
    exact u.tbls b ps (by rw [addC_out q]; exact e)
theorem csIn_of (u : Un fs [] (addC cs H) H' h h') : CsIn cs H' := fun b o q => u.frzs b o _ (addC_in q)
/-- a call's end, seen from without: the cells were taken out for it -/
theorem un_sub (u : Un fs [] (subC cs H) H' h h') (i : CsIn cs H) : Un fs [] H (addC cs H') h h' where
  keep := fun b o e n hb hx => u.keep b o e (by rw [subC_out (out_none i n)]; exact n) hb hx
  slot := fun b o e n hb hx => u.slot b o e (by rw [subC_out (out_none i n)]; exact n) hb hx
  free := fun b o e n hx => by
    have q := out_none i n
    rw [addC_out q]
    exact u.free b o e (by rw [subC_out q]; exact n) hx
  there := u.there
  tups := fun b xs e => by
    have q : cs.lookup b = none := out_of i fun o z => by rw [e] at z; cases z
    rw [addC_out q]
    exact u.tups b xs (by rw [subC_out q]; exact e)
  frzs := fun b o v e => by
    cases q : cs.lookup b with
    | some o' =>
      have e1 := i b o' q
      rw [e] at e1
      cases e1
      exact addC_in q
    | none =>
      rw [addC_out q]
      exact u.frzs b o v (by rw [subC_out q]; exact e)
  tbls := fun b ps e => by
    have q : cs.lookup b = none := out_of i fun o z => by rw [e] at z; cases z
    rw [addC_out q]
    exact u.tbls b ps (by rw [subC_out q]; exact e)
theorem csAt_of (u : Un fs [] (subC cs H) H' h h') (a : CsAt cs (subC cs H) h) (nf : ∀ b o, cs.lookup b = some o → b ∉ fs) : CsAt cs H' h' := fun b o q =>
  ⟨u.keep b o (a b o q).1 (a b o q).2 (nf b o q) (by simp), u.free b o (a b o q).1 (a b o q).2 (by simp)⟩
/-- the same of an exception's ground -/
theorem ub_add (u : UB fs (addC cs H) H' h B h') (a : CsAt cs H h) (x : HOk P w H' B) : UB fs H (subC cs H') h B h' where
  keep := fun b o e n hb => by
    cases q : cs.lookup b with
    | some o' =>
      have e1 := (a b o' q).1
      rw [e] at e1
      cases e1
      exact (x b _ (u.frzs b o _ (addC_in q))).1
    | none => exact u.keep b o e (by rw [addC_out q]; exact n) hb
  slot := u.slot
  free := fun b o e n => by
    cases q : cs.lookup b with
    | some o' => exact subC_in q
    | none =>
      rw [subC_out q]
      exact u.free b o e (by rw [addC_out q]; exact n)
  there := u.there
  tups := fun b xs e => by
    have q := out_some a e
    rw [subC_out q]
    exact u.tups b xs (by rw [addC_out q]; exact e)
  frzs := fun b o v e => by
    have q := out_some a e
    rw [subC_out q]
    exact u.frzs b o v (by rw [addC_out q]; exact e)
  tbls := fun b ps e => by
    have q := out_some a e
    rw [subC_out q]
    exact u.tbls b ps (by rw [addC_out q]; exact e)
theorem ub_sub (u : UB fs (subC cs H) H' h B h') (i : CsIn cs H) : UB fs H (addC cs H') h B h' where
  keep := fun b o e n hb => u.keep b o e (by rw [subC_out (out_none i n)]; exact n) hb
  slot := u.slot
  free := fun b o e n => by
    have q := out_none i n
    rw [addC_out q]
    exact u.free b o e (by rw [subC_out q]; exact n)
  there := u.there
  tups := fun b xs e => by
    have q : cs.lookup b = none := out_of i fun o z => by rw [e] at z; cases z
    rw [addC_out q]
    exact u.tups b xs (by rw [subC_out q]; exact e)
  frzs := fun b o v e => by
    cases q : cs.lookup b with
    | some o' =>
      have e1 := i b o' q
      rw [e] at e1
      cases e1
      exact addC_in q
    | none =>
      rw [addC_out q]
      exact u.frzs b o v (by rw [subC_out q]; exact e)
  tbls := fun b ps e => by
    have q : cs.lookup b = none := out_of i fun o z => by rw [e] at z; cases z
    rw [addC_out q]
    exact u.tbls b ps (by rw [subC_out q]; exact e)
theorem csAt_ub (u : UB fs (subC cs H) H' h B h') (a : CsAt cs (subC cs H) h) (nf : ∀ b o, cs.lookup b = some o → b ∉ fs) : CsAt cs H' B := fun b o q =>
  ⟨u.keep b o (a b o q).1 (a b o q).2 (nf b o q), u.free b o (a b o q).1 (a b o q).2⟩
end
/-! ### thunks -/
/-- what a function that was handed on leans on -/
def KeepC (H H1 : Hp) : Prop := (∀ b o u, H b = some (.frz o u) → H1 b = some (.frz o u)) ∧ (∀ b xs, H b = some (.tup xs) → H1 b = some (.tup xs)) ∧ ∀ b φ, H b = some (.ext φ) → H1 b = some (.ext φ)
theorem KeepC.of {H H1 : Hp} (e : ∀ b o, H b = some o → (∃ ob u, o = .frz ob u) ∨ (∃ xs, o = .tup xs) ∨ (∃ φ, o = .ext φ) → H1 b = some o) : KeepC H H1 :=
  ⟨fun b o u h => e b _ h (.inl ⟨o, u, rfl⟩), fun b xs h => e b _ h (.inr (.inl ⟨xs, rfl⟩)), fun b φ h => e b _ h (.inr (.inr ⟨φ, rfl⟩))⟩
theorem KeepC.refl (H : Hp) : KeepC H H := ⟨fun _ _ _ h => h, fun _ _ h => h, fun _ _ h => h⟩
theorem KeepC.trans {H H1 H2 : Hp} (a : KeepC H H1) (b : KeepC H1 H2) : KeepC H H2 := ⟨fun c o u h => b.1 c o u (a.1 c o u h), fun c xs h => b.2.1 c xs (a.2.1 c xs h), fun c φ h => b.2.2 c φ (a.2.2 c φ h)⟩
abbrev TK := Hp → VK → XK → Prop
/-- the function at f, called without arguments, does T -/
structure Thunk (P : Program) (w : World) (K : PySem.W.Frag) (mg : Str → Option Value) (base : Heap) (k : Nat) (H : Hp) (f : Addr) (T : TK) : Prop where
  fn : ∃ fd : FuncData, H f = some (.frz { cls := .type "function", data := .func fd } (.own f))
  run : ∀ (A : Around) (outer : List Env) (s : Shared) (H1 : Hp) (Q : VK) (E : XK), Room k A → Env0 P w K mg base A outer s H1 → KeepC H H1 → T H1 Q E →
    codeAny (model P w) A (.call (.ref f) ⟨[], []⟩) (CR (CX P w) outer P w H1 s Q E) s
section
variable {P : Program} {w : World} {K : PySem.W.Frag} {mg : Str → Option Value} {base : Heap} {k j : Nat} {H H' : Hp} {f : Addr} {T T' : TK}
theorem Thunk.keep (t : Thunk P w K mg base k H f T) (kc : KeepC H H') : Thunk P w K mg base k H' f T :=
  ⟨t.fn.elim fun fd h => ⟨fd, kc.1 _ _ _ h⟩, fun A outer s H1 Q E hr e0 k1 q => t.run A outer s H1 Q E hr e0 (kc.trans k1) q⟩
theorem Thunk.mono (t : Thunk P w K mg base j H f T) (h : j ≤ k) : Thunk P w K mg base k H f T := ⟨t.fn, fun A outer s H1 Q E hr => t.run A outer s H1 Q E (hr.mono h)⟩
theorem Thunk.imp (t : Thunk P w K mg base k H f T) (h : ∀ H1 Q E, KeepC H H1 → T' H1 Q E → T H1 Q E) : Thunk P w K mg base k H f T' := ⟨t.fn, fun A outer s H1 Q E hr e0 kc q => t.run A outer s H1 Q E hr e0 kc (h H1 Q E kc q)⟩
end
/-- a(), a a name that holds such a function -/
theorem pe_thunk {X : Cx} {W : WX} {i k : Nat} {a : Str} {p1 p2 : Pos} (tk : Takes X W) (hr : Room k X.A) (hN : X.N[i]? = some a) (hv : Vis X.env.scope a) (hd : (a == ("__debug__" : Str)) = false := by decide) (hcd : (a == ("__classdict__" : Str)) = false := by decide) :
    PE X (.Call (.Name a p1) [] [] p2) (fun σ H Q => ∃ f T Eb, σ[i]? = some (some (.ref f)) ∧ Thunk X.prog X.w X.K X.mg X.base k H f T ∧ T H Q Eb ∧ ∀ cls d H', Eb cls d H' → W cls d σ H') := by
  refine ⟨fun pins s σ H Q I h => ?_⟩
  obtain ⟨f, T, Eb, hs, th, q, hE⟩ := h
  refine wpAny_Call_Name_kw (thn ((pe_var (pos := p1) (i := i) hN hv hd hcd).run pins s σ H (fun v H1 => v = .ref f ∧ H1 = H) I ⟨.ref f, hs, rfl, rfl⟩) fun u s1 ⟨v, H1, I1, r1, q1⟩ => ?_)
  obtain ⟨ev, eH⟩ := q1
  subst ev
  rw [eH] at I1
  obtain rfl : u = Value.ref f := r1
  obtain ⟨fd, hf⟩ := th.fn
  have of1 := (I1.hok f _ hf).1
  refine PySem.W.callWith_F0 ⟨_, _, _, _, of1⟩ ?_
  refine wpAny_call (codeAny_mono (th.run X.A X.stack s1 H Q Eb hr I1.env0 (KeepC.refl H) q) fun r s' hq => ?_)
  cases r with
  | error e => exact tk e s' (XE.of_call (pins := pins) (σ := σ) I1 hE hq)
  | ok fl =>
    cases fl with
    | ret u => exact I1.after hq
    | next => exact False.elim hq
    | brk => exact False.elim hq
    | cont => exact False.elim hq
end TH

set_option Elab.async false
set_option maxRecDepth 100000
set_option maxHeartbeats 4000000
namespace TH
open PySem PySem.Spec PyProof.Rows L2 LamX NdefX
/-- a lambda's function, dv: where its defaults stand -/
abbrev lamFd (F : NF) (body : Expr) (dv pm ctv : Value) : FuncData := ⟨F.name, F.qual, F.params, .expr body, F.scope, mainGlobals, F.cl, dv, .none, .none, pm, none, .ref F.c, ctv, builtinsNs⟩
abbrev lamO (F : NF) (body : Expr) (dv pm ctv : Value) : Obj := { cls := .type "function", data := .func (lamFd F body dv pm ctv) }
section
variable {M : Model} {A : Around} {E : Value → Shared → Prop} {s : Shared} {nm ql : Str} {params : Arguments} {body : Expr} {scope : Scope} {env : Env} {c P : Addr} {ps : Array Value} {pos : Pos} {ln : Nat} {mg : Str → Option Value} {clos : List (Str × Addr)} {dv : Value} {Q : Value → Shared → Prop}
theorem tail_new (e1 : closureFor scope env = pure clos) (e2 : env.globals = mainGlobals) (hg : s.heap.Ns mainGlobals mg) (e3 : env.code = .ref c) (C : PySem.W.CodeHd s.heap c P) (hP : s.heap.get? P = some (PySem.W.tabObj ps)) (ht : TriplesOk ps.toList)
    (nf : codeAmong pos ps.toList = none) (gP : mainGlobals ≠ P) (hb : s.heap.BuiltinsAt mg P)
    (h : ∀ c' ctv h' tk, Heap.ExtBut P s.heap h' → s.heap.objs.size ≤ c' → c' < h'.objs.size → h'.CodeRec (.ref c') ql → h'.get? P = some (PySem.W.tabObj (ps ++ #[rawInt pos.line, rawInt pos.col, .ref c'])) →
      Q (.ref h'.objs.size) { s with heap := h'.push (lamO ⟨nm, ql, params, [], scope, clos, c'⟩ body dv ((mg "__name__").getD .none) ctv), toks := tk }) :
    wpAny M A (makeTail nm ql params (.expr body) scope env dv .none none pos ln) Q E s := by
  obtain ⟨bm, ob, b1, b2, _, b4, b5, b6, b7, b8⟩ := hb
  unfold makeTail
  rw [e1, e2]
  refine wpAny_bind (wpAny_pure ?_)
  cases clos with
  | nil =>
    rw [show (([] : List (Str × Addr)).isEmpty) = true from rfl, if_pos rfl]
    refine wpAny_bind (wpAny_pure (wpAny_bind (wpAny_functionCodeX e3 (C.code hP ht) (C.tab hP) nf fun c' h' tk x1 x2 x3 _ x5 x6 _ => ?_)))
    have g1 := hg.extBut x1 gP
    refine wpAny_bind (wpAny_builtinsFor g1 b1 b2 (x1 _ _ b4 b5) b6 b7 b8 (wpAny_bind (wpAny_nsGet g1 ?_)))
    exact wpAny_bind (wpAny_pure (wpAny_newObj_type (h c' .none h' tk x1 x2 x3 x5 x6.2) (by size_fits)))
  | cons q r =>
    rw [show ((q :: r).isEmpty) = false from rfl, if_neg Bool.false_ne_true]
    have kp : ∀ b o, s.heap.get? b = some o → (s.heap.push ({ cls := .type "tuple", data := .seq ((((q :: r).mergeSort fun a b => a.1.cps.toList ≤ b.1.cps.toList).map fun x => Value.ref x.2).toArray) } : Obj)).get? b = some o := fun b o e => Heap.get?_push_of_some _ e
    refine wpAny_bind (wpAny_newTextTuple (wpAny_bind (wpAny_functionCodeX e3 ((C.keeps kp).code (kp _ _ hP) ht) ((C.keeps kp).tab (kp _ _ hP)) nf fun c' h' tk x1 x2 x3 _ x5 x6 _ => ?_)))
    have g1 := (hg.push _).extBut x1 gP
    have y1 : Heap.ExtBut P s.heap h' := fun b o n e => x1 b o n (kp b o e)
    have y2 : s.heap.objs.size ≤ c' := Nat.le_trans (by rw [Heap.size_push]; omega) x2
    refine wpAny_bind (wpAny_builtinsFor g1 b1 b2 (y1 _ _ b4 b5) b6 b7 b8 (wpAny_bind (wpAny_nsGet g1 ?_)))
    exact wpAny_bind (wpAny_pure (wpAny_newObj_type (h c' _ h' tk y1 y2 x3 x5 x6.2) (by size_fits)))
theorem tail_hit {c' : Addr} (e1 : closureFor scope env = pure clos) (e2 : env.globals = mainGlobals) (hg : s.heap.Ns mainGlobals mg) (e3 : env.code = .ref c) (C : PySem.W.CodeHd s.heap c P) (hP : s.heap.get? P = some (PySem.W.tabObj ps)) (ht : TriplesOk ps.toList)
    (hf : codeAmong pos ps.toList = some (.ref c')) (hb : s.heap.BuiltinsAt mg P)
    (h : ∀ (ctv : Value) (h' : Heap) (tk : Tok), (∀ b o, s.heap.get? b = some o → h'.get? b = some o) → s.heap.objs.size ≤ h'.objs.size →
      Q (.ref h'.objs.size) { s with heap := h'.push (lamO ⟨nm, ql, params, [], scope, clos, c'⟩ body dv ((mg "__name__").getD .none) ctv), toks := tk }) :
    wpAny M A (makeTail nm ql params (.expr body) scope env dv .none none pos ln) Q E s := by
  obtain ⟨bm, ob, b1, b2, _, b4, b5, b6, b7, b8⟩ := hb
  unfold makeTail
  rw [e1, e2]
  refine wpAny_bind (wpAny_pure ?_)
  cases clos with
  | nil =>
    rw [show (([] : List (Str × Addr)).isEmpty) = true from rfl, if_pos rfl]
    refine wpAny_bind (wpAny_pure (wpAny_bind (wpAny_functionCode_hit e3 (C.code hP ht) hf ?_)))
    refine wpAny_bind (wpAny_builtinsFor hg b1 b2 b5 b6 b7 b8 (wpAny_bind (wpAny_nsGet hg ?_)))
    exact wpAny_bind (wpAny_pure (wpAny_newObj_type (h .none s.heap s.toks (fun _ _ e => e) (Nat.le_refl _)) (by size_fits)))
  | cons q r =>
    rw [show ((q :: r).isEmpty) = false from rfl, if_neg Bool.false_ne_true]
    have kp : ∀ b o, s.heap.get? b = some o → (s.heap.push ({ cls := .type "tuple", data := .seq ((((q :: r).mergeSort fun a b => a.1.cps.toList ≤ b.1.cps.toList).map fun x => Value.ref x.2).toArray) } : Obj)).get? b = some o := fun b o e => Heap.get?_push_of_some _ e
    refine wpAny_bind (wpAny_newTextTuple (wpAny_bind (wpAny_functionCode_hit e3 ((C.keeps kp).code (kp _ _ hP) ht) hf ?_)))
    refine wpAny_bind (wpAny_builtinsFor (hg.push _) b1 b2 (kp _ _ b5) b6 b7 b8 (wpAny_bind (wpAny_nsGet (hg.push _) ?_)))
    exact wpAny_bind (wpAny_pure (wpAny_newObj_type (h _ _ s.toks kp (by rw [Heap.size_push]; omega)) (by size_fits)))
end
/-- a lambda stands at f, ds its defaults -/
def LamAt (H : Hp) (f : Addr) (mk : Addr → NF) (body : Expr) (ds : List V) : Prop := ∃ (c' : Addr) (dv pm ctv : Value), H f = some (.frz (lamO (mk c') body dv pm ctv) (.own f)) ∧ H c' = some (CodeO c' (mk c').qual) ∧
  ((ds = [] ∧ dv = .none) ∨ ∃ d y, ds = [y] ∧ dv = .ref d ∧ H d = some (.tup [y]))
theorem LamAt.keep {H H' : Hp} {f : Addr} {mk : Addr → NF} {body : Expr} {ds : List V} (l : LamAt H f mk body ds) (kc : KeepC H H') : LamAt H' f mk body ds := by
  obtain ⟨c', dv, pm, ctv, h1, h2, h3⟩ := l
  refine ⟨c', dv, pm, ctv, kc.1 _ _ _ h1, ?_, ?_⟩
  · unfold CodeO at h2 ⊢
    exact kc.2.2 _ _ h2
  · rcases h3 with h3 | ⟨d, y, e1, e2, e3⟩
    · exact .inl h3
    · exact .inr ⟨d, y, e1, e2, kc.2.1 _ _ e3⟩
abbrev mkLam (X : Cx) (params : Arguments) (scope : Scope) : Addr → NF := fun c' => ⟨"<lambda>", X.env.qual ++ "<lambda>", params, [], scope, cloFrom X.env.cells scope.names [], c'⟩
section
variable {X : Cx} {pins : List (Addr × Obj)} {σ : L2.St} {H : Hp} {s : Shared}
/-- the function's object is new, and known from now on -/
theorem inv_lam {F : NF} {body : Expr} {dv pm ctv : Value} {t' : Nat} {o : Obj} (I : Inv X pins σ H s) (e : o = lamO F body dv pm ctv) :
    Inv X pins σ (upd H s.heap.objs.size (.frz (lamO F body dv pm ctv) (.own s.heap.objs.size))) { s with heap := s.heap.push o, toks := t' } := by
  subst e
  refine I.laid (a := s.heap.objs.size) (fun b u z => Heap.get?_push_of_some _ z) (Nat.le_refl _) ?_
  have z : (s.heap.push (lamO F body dv pm ctv)).get? s.heap.objs.size = some (lamO F body dv pm ctv) := Heap.get?_push_size _ rfl
  exact ⟨z, _, z⟩
theorem lam_tail {T : List (Addr × Str)} {c P : Addr} {params : Arguments} {body : Expr} {scope : Scope} {pos : Pos} {dv : Value} {E : Value → Shared → Prop} {Q : Value → Shared → Prop} (I : Inv X pins σ H s) (TB : TabB X.base X.mg c P) (hcode : X.env.code = .ref c)
    (hm : (P, X.env.qual ++ "<lambda>") ∈ T) (hu : ∀ p ∈ T, p.1 = P → p.2 = X.env.qual ++ "<lambda>") (hT : Tabs T H) (hfree : ∀ y ∈ scope.names, y.2 = .free → ∃ c, X.env.cells.lookup y.1 = some c)
    (h : ∀ (f c' : Addr) (pm ctv : Value) (H1 : Hp) (s' : Shared), Inv X pins σ H1 s' → ExtN H H1 → (∀ b, H1 b = Option.none → H b = Option.none) → Tabs T H1 → H f = none →
      H1 f = some (.frz (lamO (mkLam X params scope c') body dv pm ctv) (.own f)) → H1 c' = some (CodeO c' (X.env.qual ++ "<lambda>")) → Q (.ref f) s') :
    wpAny (model X.prog X.w) X.A (makeTail "<lambda>" (X.env.qual ++ "<lambda>") params (.expr body) scope X.env dv .none none pos pos.line) Q E s := by
  obtain ⟨ps, hP, ht, ha⟩ := hT _ hm
  have bP : s.heap.BuiltinsAt X.mg P := TB.bm.keeps I.bk
  have gtP : s.heap.get? P = some { cls := .none, data := .fields ps } := I.hok P _ hP
  cases hc : codeAmong pos ps.toList with
  | none =>
    refine tail_new (mg := X.mg) (c := c) (P := P) (ps := ps) (closure_ok hfree) I.ok.glob (I.mod.glob.keeps I.bk) hcode (TB.code.keeps I.bk) gtP ht hc TB.gP bP fun c' ctv h' tk hx hge hlt hrec htb => ?_
    obtain ⟨c2, oc, vs, t, z0, hoc, hd, hv⟩ := hrec
    cases z0
    have nC : H c' = none := I.hok.fresh hge
    have I1 := inv_table (t' := tk) (more := #[rawInt pos.line, rawInt pos.col, .ref c']) (h' := h') I hP (fun b o hb e => hx b o hb e) htb hge ⟨oc, vs, t, hoc, hd, hv⟩
    have eE : ExtN H (upd (upd H P (.tbl (ps ++ #[rawInt pos.line, rawInt pos.col, .ref c']))) c' (CodeO c' (X.env.qual ++ "<lambda>"))) := fun b o z n => by
      rw [upd_ne (ne_of_none z nC), upd_ne (fun y => n ps (Option.some.inj (z.symm.trans (by rw [y]; exact hP))))]
      exact z
    have eT : Tabs T (upd (upd H P (.tbl (ps ++ #[rawInt pos.line, rawInt pos.col, .ref c']))) c' (CodeO c' (X.env.qual ++ "<lambda>"))) := fun p hp => by
      by_cases hb : p.1 = P
      · rw [hu p hp hb, hb]
        have eL : (ps ++ #[rawInt pos.line, rawInt pos.col, .ref c']).toList = ps.toList ++ [rawInt pos.line, rawInt pos.col, .ref c'] := by simp
        refine ⟨_, by rw [upd_ne (ne_of_none hP nC), upd_same], by rw [eL]; exact PySem.TriplesOk_snoc _ _ _ _ ht, fun p' cv hcv => ?_⟩
        rw [eL] at hcv
        rcases among_app _ ht hcv with z | z
        · obtain ⟨c0, z1, z2⟩ := ha p' cv z
          exact ⟨c0, z1, eE _ _ z2 codeO_ne⟩
        · exact ⟨c', z, upd_same⟩
      · obtain ⟨ps', a1, a2, a3⟩ := hT p hp
        refine ⟨ps', by rw [upd_ne (ne_of_none a1 nC), upd_ne hb]; exact a1, a2, fun p' cv hcv => ?_⟩
        obtain ⟨c0, z1, z2⟩ := a3 p' cv hcv
        exact ⟨c0, z1, eE _ _ z2 codeO_ne⟩
    have nF := I1.hok.fresh (Nat.le_refl _)
    have I2 := inv_lam (F := mkLam X params scope c') (body := body) (dv := dv) (pm := (X.mg "__name__").getD .none) (ctv := ctv) (t' := tk) I1 rfl
    refine h h'.objs.size c' _ _ _ _ I2 (fun b o z n => ?_) (fun b z => upd_none (upd_none (upd_none z))) (eT.ext fun b o z => ?_) (I.hok.fresh (Nat.le_trans hge (Nat.le_of_lt hlt))) upd_same ?_
    · have z1 := eE b o z n
      exact (upd_ne (ne_of_none z1 nF)).trans z1
    · exact (upd_ne (ne_of_none z nF)).trans z
    · exact (upd_ne (Nat.ne_of_lt hlt)).trans upd_same
  | some cv =>
    obtain ⟨c', z0, hco⟩ := ha pos cv hc
    subst z0
    refine tail_hit (mg := X.mg) (c := c) (P := P) (ps := ps) (closure_ok hfree) I.ok.glob (I.mod.glob.keeps I.bk) hcode (TB.code.keeps I.bk) gtP ht hc bP fun ctv h' tk hx hsz => ?_
    have I1 : Inv X pins σ H { s with heap := h', toks := tk } := I.kept hx
    have nF : H h'.objs.size = none := I1.hok.fresh (Nat.le_refl _)
    have I2 := inv_lam (F := mkLam X params scope c') (body := body) (dv := dv) (pm := (X.mg "__name__").getD .none) (ctv := ctv) (t' := tk) I1 rfl
    refine h h'.objs.size c' _ _ _ _ I2 (fun b o z n => ?_) (fun b z => upd_none z) (hT.ext fun b o z => ?_) nF upd_same ?_
    · exact (upd_ne (ne_of_none z nF)).trans z
    · exact (upd_ne (ne_of_none z nF)).trans z
    · exact (upd_ne (ne_of_none hco nF)).trans hco
/-- a lambda, as a value -/
def tLamV (X : Cx) (T : List (Addr × Str)) (params : Arguments) (body : Expr) (scope : Scope) : TE := fun _ H Q => Tabs T H ∧
  ∀ f H1, ExtN H H1 → (∀ b, H1 b = Option.none → H b = Option.none) → Tabs T H1 → H f = none → LamAt H1 f (mkLam X params scope) body [] → Q (.ref f) H1
/-- .. with a default -/
def tLamD (T : List (Addr × Str)) (R : Hp → Addr → V → Prop) (te : TE) : TE := fun σ H Q => te σ H fun v H0 => Tabs T H0 ∧
  ∀ f H1, ExtN H0 H1 → (∀ b, H1 b = Option.none → H0 b = Option.none) → Tabs T H1 → H0 f = none → R H1 f v → Q (.ref f) H1
theorem pe_lamV {T : List (Addr × Str)} {c P : Addr} {params : Arguments} {body : Expr} {scope : Scope} {pos : Pos} (TB : TabB X.base X.mg c P) (hcode : X.env.code = .ref c) (hm : (P, X.env.qual ++ "<lambda>") ∈ T) (hu : ∀ p ∈ T, p.1 = P → p.2 = X.env.qual ++ "<lambda>")
    (hfree : ∀ y ∈ scope.names, y.2 = .free → X.env.scope.names.lookup y.1 = some .cell ∨ X.env.scope.names.lookup y.1 = some .free) (hdef : defaultsOf params X.env = ([], [])) :
    PE X (.Lambda params body scope pos) (tLamV X T params body scope) := by
  refine ⟨fun pins s σ H Q I h => ?_⟩
  obtain ⟨hT, h⟩ := h
  refine PySem.W.kla_eval hdef ?_
  rw [makeFunction_eq]
  simp only [List.zip_nil_right, List.filterMap_nil, List.isEmpty_nil, if_true, pure_bind]
  refine lam_tail I TB hcode hm hu hT (fun y hy e => (hfree y hy e).elim (fun z => I.ok.has _ (.inl z)) fun z => I.ok.has _ (.inr z)) fun f c' pm ctv H1 s' I1 eN nn T1 f0 f1 c1 => ?_
  exact ⟨.ref f, H1, I1, rfl, h f H1 eN nn T1 f0 ⟨c', .none, pm, ctv, f1, c1, .inl ⟨rfl, rfl⟩⟩⟩
theorem pe_lamD {T : List (Addr × Str)} {c P : Addr} {params : Arguments} {body e : Expr} {scope : Scope} {pos : Pos} {te : TE} (TB : TabB X.base X.mg c P) (hcode : X.env.code = .ref c) (hm : (P, X.env.qual ++ "<lambda>") ∈ T) (hu : ∀ p ∈ T, p.1 = P → p.2 = X.env.qual ++ "<lambda>")
    (hfree : ∀ y ∈ scope.names, y.2 = .free → X.env.scope.names.lookup y.1 = some .cell ∨ X.env.scope.names.lookup y.1 = some .free) (hdef : defaultsOf params X.env = ([eval e X.env], [])) (he : PE X e te)
    {R : Hp → Addr → V → Prop} (hR : ∀ (v : V) (f : Addr) (H1 : Hp), LamAt H1 f (mkLam X params scope) body [v] → R H1 f v) :
    PE X (.Lambda params body scope pos) (tLamD T R te) := by
  refine ⟨fun pins s σ H Q I h => ?_⟩
  rw [arm_eval_Lambda, hdef]
  show wpAny _ _ (do let dv ← evalAll [eval e X.env]; let kdv ← holding dv (evalAllOpt []); makeFunction "<lambda>" (X.env.qual ++ "<lambda>") params (.expr body) scope X.env dv kdv [] pos pos.line) _ _ _
  unfold evalAll
  refine wpAny_bind (wpAny_bind (thn (he.run pins s σ H _ I h) fun u s1 ⟨v, H0, I0, r, hT, h⟩ => wpAny_bind (wpAny_holding ?_)))
  unfold evalAll
  refine wpAny_pure (wpAny_pure (wpAny_bind (wpAny_holding ?_)))
  unfold evalAllOpt
  refine wpAny_pure ?_
  rw [makeFunction_eq]
  simp only [List.zip_nil_right, List.filterMap_nil, List.isEmpty_nil, List.isEmpty_cons, if_true, Bool.false_eq_true, if_false, pure_bind]
  refine wpAny_bind (wpAny_newTextTuple ?_)
  have nD : H0 s1.heap.objs.size = none := I0.hok.fresh (Nat.le_refl _)
  have I1 : Inv X pins σ (upd H0 s1.heap.objs.size (.tup [v])) { s1 with heap := s1.heap.push { cls := .type "tuple", data := .seq [u].toArray } } := I0.laid (t' := s1.toks) (fun b o z => Heap.get?_push_of_some _ z) (Nat.le_refl _)
    ⟨by show 1 ≤ sizeLine; rw [sizeLine_eq]; decide, [u], .cons r .nil, ⟨_, Heap.get?_push_size _ rfl, rfl, _, rfl⟩⟩
  have T1 : Tabs T (upd H0 s1.heap.objs.size (.tup [v])) := hT.ext fun b o z => (upd_ne (ne_of_none z nD)).trans z
  refine lam_tail I1 TB hcode hm hu T1 (fun y hy e => (hfree y hy e).elim (fun z => I.ok.has _ (.inl z)) fun z => I.ok.has _ (.inr z)) fun f c' pm ctv H1 s' I2 eN nn T2 f0 f1 c1 => ?_
  refine ⟨.ref f, H1, I2, rfl, h f H1 (fun b o z n => eN b o ((upd_ne (ne_of_none z nD)).trans z) n) (fun b z => upd_none (nn b z)) T2 (upd_none f0) (hR _ _ _ ⟨c', _, pm, ctv, f1, c1, .inr ⟨s1.heap.objs.size, v, rfl, rfl, eN _ _ upd_same fun q z => by cases z⟩⟩)⟩
end
end TH

set_option Elab.async false
set_option maxRecDepth 100000
set_option maxHeartbeats 4000000
namespace TH
open PySem PySem.Spec PyProof.Rows L2 LamX NdefX
/-! ### the running frame's cells -/
/-- cs: the cells of X's frame, as they stand -/
def Opened (X : Cx) (σ : L2.St) (H : Hp) (cs : List (Addr × Obj)) : Prop := ∃ (pins : List (Addr × Obj)) (s : Shared), Inv X pins σ H s ∧ ∀ b o, cs.lookup b = some o ↔ ((∃ x, X.env.cells.lookup x = some b) ∧ s.heap.get? b = some o)
theorem lookup_mem {l : List (Addr × Obj)} {b : Addr} {o : Obj} (h : l.lookup b = some o) : (b, o) ∈ l := by
  induction l with
  | nil => cases h
  | cons p r ih =>
    obtain ⟨k, v⟩ := p
    rw [List.lookup_cons] at h
    cases e : b == k with
    | true =>
      rw [e] at h
      have e2 : b = k := by simpa using e
      rw [e2, ← Option.some.inj h]
      exact List.mem_cons_self
    | false =>
      rw [e] at h
      exact List.mem_cons_of_mem _ (ih h)
theorem lookup_has {l : List (Addr × Obj)} {b : Addr} {o : Obj} (h : (b, o) ∈ l) : ∃ o', l.lookup b = some o' := by
  induction l with
  | nil => cases h
  | cons p r ih =>
    obtain ⟨k, v⟩ := p
    rw [List.lookup_cons]
    cases e : b == k with
    | true => exact ⟨v, rfl⟩
    | false =>
      rcases List.mem_cons.mp h with z | z
      · injection z with z1 z2
        rw [z1, beq_self_eq_true] at e
        cases e
      · exact ih z
def cellsOf (cells : List (Str × Addr)) (h : Heap) : List (Addr × Obj) := cells.filterMap fun p => if cells.lookup p.1 = some p.2 then (h.get? p.2).map fun o => (p.2, o) else none
theorem cellsOf_iff {cells : List (Str × Addr)} {h : Heap} (b : Addr) (o : Obj) : (cellsOf cells h).lookup b = some o ↔ ((∃ x, cells.lookup x = some b) ∧ h.get? b = some o) := by
  have m1 : ∀ {b o}, (b, o) ∈ cellsOf cells h → (∃ x, cells.lookup x = some b) ∧ h.get? b = some o := fun {b o} hm => by
    obtain ⟨p, hp, hq⟩ := List.mem_filterMap.mp hm
    by_cases e : cells.lookup p.1 = some p.2
    · rw [if_pos e] at hq
      cases e2 : h.get? p.2 with
      | none => rw [e2] at hq; cases hq
      | some o' =>
        rw [e2] at hq
        injection (Option.some.inj hq) with z1 z2
        subst z1 z2
        exact ⟨⟨p.1, e⟩, e2⟩
    · rw [if_neg e] at hq
      cases hq
  refine ⟨fun e => m1 (lookup_mem e), fun ⟨⟨x, e⟩, g⟩ => ?_⟩
  have hm : (b, o) ∈ cellsOf cells h := List.mem_filterMap.mpr ⟨(x, b), PySem.mem_of_lookup e, by rw [if_pos e, g]; rfl⟩
  obtain ⟨o', e'⟩ := lookup_has hm
  have g' := (m1 (lookup_mem e')).2
  rw [g] at g'
  cases g'
  exact e'
section
variable {X : Cx} {pins : List (Addr × Obj)} {σ : L2.St} {H : Hp} {s : Shared} {cs : List (Addr × Obj)}
theorem csAt_cells (I : Inv X pins σ H s) (e : ∀ b o, cs.lookup b = some o ↔ ((∃ x, X.env.cells.lookup x = some b) ∧ s.heap.get? b = some o)) : CsAt cs H s.heap := fun b o q => by
  obtain ⟨⟨x, hx⟩, g⟩ := (e b o).mp q
  exact ⟨g, I.freeC x b hx⟩
theorem Opened.at (O : Opened X σ H cs) {b : Addr} {u : HO} (e : H b = some u) : addC cs H b = some u := by
  obtain ⟨pins, s, I, h⟩ := O
  rw [addC_out (out_some (csAt_cells I h) e)]
  exact e
theorem Opened.keepC (O : Opened X σ H cs) : KeepC H (addC cs H) := .of fun _ _ e _ => O.at e
/-- the cells are above all that stood at the frame's entry -/
theorem cells_above (I : Inv X pins σ H s) (hfn : ∀ x, X.fn x = true) {x : Str} {c : Addr} (e : X.env.cells.lookup x = some c) : X.s_0.heap.objs.size ≤ c := I.ok.cab x c (hfn x) e
theorem cells_nostk (I : Inv X pins σ H s) (hfn : ∀ x, X.fn x = true) {x : Str} {c : Addr} (e : X.env.cells.lookup x = some c) : c ∉ frs X.stack := fun hm => by
  rcases List.mem_cons.mp (I.stkSub c hm) with z | z
  · exact I.cne x c e z
  · obtain ⟨_, o, ho, _⟩ := I.ok.funs.mem z
    exact absurd (Nat.lt_of_lt_of_le (Heap.lt_size ho) (cells_above I hfn e)) (Nat.lt_irrefl _)
theorem env0_add (I : Inv X pins σ H s) (hfn : ∀ x, X.fn x = true) (e : ∀ b o, cs.lookup b = some o ↔ ((∃ x, X.env.cells.lookup x = some b) ∧ s.heap.get? b = some o)) : Env0 X.prog X.w X.K X.mg X.base X.A X.stack s (addC cs H) := by
  have E := I.env0
  have ca := csAt_cells I e
  refine ⟨E.frames, E.mod, fun b o hb => ⟨(E.bs b o hb).1, ?_⟩, E.bsz, E.funs, fun b hb => ?_, hok_add E.hok ca, E.bare⟩
  · cases q : cs.lookup b with
    | none => rw [addC_out q]; exact (E.bs b o hb).2
    | some o' =>
      obtain ⟨⟨x, hx⟩, _⟩ := (e b o').mp q
      have h1 := cells_above I hfn hx
      have h2 := Heap.lt_size hb
      have h3 := I.ok.bsz
      exact absurd (Nat.lt_of_lt_of_le h2 (Nat.le_trans h3 h1)) (Nat.lt_irrefl _)
  · cases q : cs.lookup b with
    | none => rw [addC_out q]; exact E.frf b hb
    | some o' =>
      obtain ⟨⟨x, hx⟩, _⟩ := (e b o').mp q
      exact absurd hb (cells_nostk I hfn hx)
theorem opened_of (I : Inv X pins σ H s) : Opened X σ H (cellsOf X.env.cells s.heap) := ⟨pins, s, I, cellsOf_iff⟩
/-- g(..), g told of the frame's cells -/
def tCallC (X : Cx) (sp : Sp) (dvs : List V) (E : XK) (t : TA) : TE := fun σ H Q => t σ H fun vs H1 => ∀ cs, Opened X σ H1 cs → sp (vs ++ dvs) (addC cs H1) (fun v H2 => CsIn cs H2 → Q v (subC cs H2)) E
theorem pe_callC {k : Nat} {f : Addr} {fd : FuncData} {ps : List Str} {sp : Sp} {dvs : List V} {ds : List Value} {E : XK} {x : Str} {p pos : Pos} {e : Expr} {es : List Expr} {t : TA} (F : FnOk X.prog X.w X.K X.mg X.base C8.CX0 k f fd ps sp) (hr : Room k X.A) (hg : Gl X x) (hm : X.mg x = some (.ref f)) (hk : PySem.W.keepIn X.K (.ref f) = true)
    (hb : Binds X.K fd ps ds) (hd : Vals dvs ds) (hfn : ∀ x, X.fn x = true) (ha : PA X (e :: es) t) (hdb : (x == ("__debug__" : Str)) = false := by decide)
    (he : starEach (e :: es) X.env = (false, eval e X.env) :: starEach es X.env := by rfl) (hpl : (backTo pos (starEach es X.env)).any (·.1) = false := by rfl) :
    PE X (.Call (.Name x p) (e :: es) [] pos) (tCallC X sp dvs E t) := by
  refine ⟨fun pins s σ H Q I h => ?_⟩
  refine wpAny_Call_Name_kw (ld_glob I hg hm ?_ hdb)
  refine PySem.W.callWith_K (h₀ := X.base) I.ok.mod.kin hk (thn (ha.run pos pins s σ H _ I h) fun us s1 ⟨vs, H1, I1, r, q⟩ => ⟨I1.kIn, ?_⟩) he hpl
  have r2 : Vals (vs ++ dvs) (us ++ ds) := r.append hd
  have q := q _ (opened_of I1)
  have hl : (us ++ ds).length = ps.length := by rw [← r2.length]; exact F.len _ _ _ _ q
  show wpAny _ _ (call (.ref f) us) _ _ _
  refine wpAny_call (codeAny_mono (F.run X.A X.stack s1 _ ⟨us, []⟩ (us ++ ds) (vs ++ dvs) _ E hr (env0_add I1 hfn cellsOf_iff) (hb s1 us I1.kIn hl) r2 q) fun r s' hq => ?_)
  cases r with
  | error e => exact False.elim hq
  | ok fl =>
    cases fl with
    | ret u =>
      obtain ⟨v, H', os, bare, un, hok, rv, q⟩ := hq
      have ci := csIn_of un
      exact I1.after ⟨v, _, os, bare, un_add un (csAt_cells I1 cellsOf_iff) hok, hok_sub hok ci, rv, q ci⟩
    | next => exact False.elim hq
    | brk => exact False.elim hq
    | cont => exact False.elim hq
end
/-! ### a lambda of the frame X, its body read -/
structure Lamb (X : Cx) (k : Nat) (H : Hp) (f : Addr) (N : List Str) (js : List Nat) (ds : List V) (tb : XK → TE) : Prop where
  ex : ∃ (params : Arguments) (scope : Scope) (body : Expr) (ps fr : List Str), LamAt H f (mkLam X params scope) body ds ∧ NScope N ps fr scope ∧ ds.length = ps.length ∧
    (X.Ok → Caps X (cloFrom X.env.cells scope.names []) fr js) ∧
    (∀ (c' : Addr) (dv pm ctv : Value) (s : Shared) (us : List Value), us.length = ps.length → ((ps = [] ∧ dv = .none) ∨ (ps ≠ [] ∧ ∃ d o n, dv = .ref d ∧ s.heap.get? d = some o ∧ o.data = .seq us.toArray n)) →
      BindsTo s (lamFd (mkLam X params scope c') body dv pm ctv) ⟨[], []⟩ (ps.zip us)) ∧
    ∀ (c' : Addr) (A : Around) (outer : List Env) (s : Shared) (H : Hp) (E : XK), Room k (A.deeper (envF (mkLam X params scope c') f s.heap.objs.size)) → PE (ncx (L2.CX X.prog X.w) X.prog X.w X.K X.mg X.base N (mkLam X params scope c') f A outer s H E) body (tb E)
theorem Lamb.keep {X : Cx} {k : Nat} {H H' : Hp} {f : Addr} {N : List Str} {js : List Nat} {ds : List V} {tb : XK → TE} (l : Lamb X k H f N js ds tb) (kc : KeepC H H') : Lamb X k H' f N js ds tb := by
  obtain ⟨params, scope, body, ps, fr, h1, h2⟩ := l.ex
  exact ⟨params, scope, body, ps, fr, h1.keep kc, h2⟩
def CsNone (cs : List (Addr × Obj)) (H : Hp) : Prop := ∀ b o, cs.lookup b = some o → H b = none
/-- what it does, called from wherever -/
theorem Lamb.thunk {X : Cx} {k : Nat} {H : Hp} {f : Addr} {N : List Str} {js : List Nat} {ds : List V} {tb : XK → TE} {σ : L2.St} {cs : List (Addr × Obj)} (l : Lamb X k H f N js ds tb) (O : Opened X σ H cs) :
    Thunk X.prog X.w X.K X.mg X.base (k + 1) (addC cs H) f (fun H1 Q E => CsIn cs H1 → tb (fun cls d H2 => CsNone cs H2 → E cls d (addC cs H2)) (startF N ds (js.map (slotAt σ))) (subC cs H1) (fun v H2 => CsNone cs H2 → Q v (addC cs H2))) := by
  obtain ⟨params, scope, body, ps, fr, L, S, hds, cp, hb, hbody⟩ := l.ex
  have OK := O.keepC
  obtain ⟨pins, s0, I, hcs⟩ := id O
  have C := cells_of I (cp I.ok)
  have L2 := L.keep OK
  obtain ⟨c', dv, pm, ctv, h1, h2, h3⟩ := L2
  have hc0 : CsIn cs (addC cs H) := csIn_add cs H
  refine ⟨⟨_, h1⟩, fun A outer s H1 Q E hr e0 kc q => ?_⟩
  have ci : CsIn cs H1 := fun b o e => kc.1 _ _ _ (hc0 b o e)
  have q := q ci
  have fo := (e0.hok f _ (kc.1 _ _ _ h1)).1
  have hcode : s.heap.CodeRec (.ref c') (mkLam X params scope c').qual := codeO_at e0.hok (by unfold CodeO at h2 ⊢; exact kc.2.2 _ _ h2)
  have lim : s.heap.NoLimit := e0.mod.nolimit.keeps fun b o e => (e0.bs b o e).1
  have ca : CsAt cs (subC cs H1) s.heap := csAt_sub e0.hok ci
  have nf : ∀ b o, cs.lookup b = some o → b ∉ frs outer := fun b o e hm => by
    have z := e0.frf b hm
    rw [ci b o e] at z
    cases z
  have e1 : Env0 X.prog X.w X.K X.mg X.base A outer s (subC cs H1) := by
    refine ⟨e0.frames, e0.mod, fun b o hb => ⟨(e0.bs b o hb).1, ?_⟩, e0.bsz, e0.funs, fun b hm => ?_, hok_sub e0.hok ci, e0.bare⟩
    · have z := (e0.bs b o hb).2
      rw [subC_out (out_none ci z)]
      exact z
    · have z := e0.frf b hm
      rw [subC_out (out_none ci z)]
      exact z
  have atc : ∀ y c, (cloFrom X.env.cells scope.names []).lookup y = some c → ∀ o, s0.heap.get? c = some o → cs.lookup c = some o := fun y c e o g => (hcs c o).mpr ⟨⟨y, (cp I.ok).sub y c e⟩, g⟩
  have C1 : CellsAt (cloFrom X.env.cells scope.names []) fr (js.map (slotAt σ)) s.heap (subC cs H1) := by
    refine ⟨C.len, fun y c e => ?_, C.inj, fun i y e => ?_⟩
    · obtain ⟨_, v, o, g, d⟩ := C.all y c e
      have z := atc y c e o g
      exact ⟨subC_in z, v, o, (ca c o z).1, d⟩
    · obtain ⟨c, hc, hv⟩ := C.has i y e
      refine ⟨c, hc, fun v ev => ?_⟩
      obtain ⟨u, r, o, g, d⟩ := hv v ev
      exact ⟨u, r, o, (ca c o (atc y c hc o g)).1, d⟩
  obtain ⟨us, ru, hbi⟩ : ∃ us : List Value, Vals ds us ∧ BindsTo s (lamFd (mkLam X params scope c') body dv pm ctv) ⟨[], []⟩ (ps.zip us) := by
    rcases h3 with ⟨z1, z2⟩ | ⟨d, y, z1, z2, z3⟩
    · subst z1
      refine ⟨[], .nil, hb c' dv pm ctv s [] ?_ (.inl ⟨?_, z2⟩)⟩
      · exact hds
      · exact List.length_eq_zero_iff.mp hds.symm
    · subst z1
      obtain ⟨_, its, rv, ob, g, _, n, hd⟩ := e0.hok d _ (kc.2.1 _ _ z3)
      refine ⟨its, rv, hb c' dv pm ctv s its (by rw [← rv.length]; exact hds) (.inr ⟨fun z => ?_, d, ob, n, z2, g, hd⟩)⟩
      rw [z] at hds
      have hds : (1 : Nat) = 0 := hds
      exact absurd hds (by decide)
  refine PySem.W.kla_callFunE hr.depth fo rfl S.co S.gen rfl hcode ?_
  refine hbi _ _ _ _ ?_
  refine wpAny_newFunctionEnv S.nocell (fun ⟨n, _⟩ hy => S.par n (List.of_mem_zip hy).1) (fun h₁ hns hsb => ⟨lim.fresh _ hsb, ?_⟩) S.kind
  show codeAny _ _ (.expr body (envF (mkLam X params scope c') f s.heap.objs.size)) _ _
  have kp : ∀ b o, s.heap.get? b = some o → h₁.get? b = some o := fun b o e => hsb.extBut b o (Nat.ne_of_lt (Heap.lt_size e)) (Heap.get?_push_of_some _ e)
  have J : Inv (ncx (L2.CX X.prog X.w) X.prog X.w X.K X.mg X.base N (mkLam X params scope c') f A outer s (subC cs H1) (fun cls d H2 => CsNone cs H2 → E cls d (addC cs H2))) [] (startF N ds (js.map (slotAt σ))) (subC cs H1) { s with heap := h₁, toks := s.toks + (ps.zip us).length } :=
    inv_startN S hr.hd e1 hds ru C1 hns kp
  have fin : ∀ e s', L2.CX X.prog X.w outer (subC cs H1) s (fun cls d H2 => CsNone cs H2 → E cls d (addC cs H2)) e s' → L2.CX X.prog X.w outer H1 s E e s' := fun e s' ⟨a, B, H', cls, d, z, fl, hok, ub, na, os, ag, hE⟩ => by
    have cb := csAt_ub ub ca nf
    refine ⟨a, B, addC cs H', cls, d, z, fl, hok_add hok cb, ub_sub ub ci, ?_, os, ag, hE fun b o e => (cb b o e).2⟩
    cases y : cs.lookup a with
    | none => rw [addC_out y]; exact na
    | some o =>
      have z1 := (cb a o y).1
      rw [fl.2.1] at z1
      cases z1
  refine PySem.W.kla_codeExpr (wpAny_mono ((hbody c' A outer s (subC cs H1) _ (hr.deeper _)).run [] _ _ (subC cs H1) _ J q) (fun v s' hq => ?_) fun e s' hq => ?_)
  · obtain ⟨w', H', J', rv, q⟩ := hq
    exact ⟨w', _, J'.os, J'.bare, un_sub J'.base ci, hok_add J'.hok (csAt_of J'.base ca nf), rv, q fun b o e => (csAt_of J'.base ca nf b o e).2⟩
  · exact wpAny_mono hq (fun _ s'' z => fin _ _ z) fun e' s'' z => fin _ _ z
end TH

set_option Elab.async false
set_option maxRecDepth 100000
set_option maxHeartbeats 4000000
namespace TH
open PySem PySem.Spec PyProof.Rows L2 LamX NdefX
section
variable {X : Cx}
/-- lambda: body, no parameters -/
def tLam0 (X : Cx) (k : Nat) (T : List (Addr × Str)) (N : List Str) (js : List Nat) (tb : XK → TE) : TE := fun _ H Q => Tabs T H ∧
  ∀ f H1, ExtN H H1 → (∀ b, H1 b = Option.none → H b = Option.none) → Tabs T H1 → H f = none → Lamb X k H1 f N js [] tb → Q (.ref f) H1
/-- lambda a=e: body -/
def tLam1 (X : Cx) (k : Nat) (T : List (Addr × Str)) (N : List Str) (js : List Nat) (te : TE) (tb : XK → TE) : TE := fun σ H Q => te σ H fun v H0 => Tabs T H0 ∧
  ∀ f H1, ExtN H0 H1 → (∀ b, H1 b = Option.none → H0 b = Option.none) → Tabs T H1 → H0 f = none → Lamb X k H1 f N js [v] tb → Q (.ref f) H1
theorem pe_lam0 {T : List (Addr × Str)} {c P : Addr} {k : Nat} {N : List Str} {js : List Nat} {tb : XK → TE} {params : Arguments} {body : Expr} {scope : Scope} {pos : Pos} (TB : TabB X.base X.mg c P) (hcode : X.env.code = .ref c) (hm : (P, X.env.qual ++ "<lambda>") ∈ T)
    (hu : ∀ p ∈ T, p.1 = P → p.2 = X.env.qual ++ "<lambda>") (S : NScope N [] N scope) (hfree : ndefB X.env.scope scope N = true) (hjs : js.map (fun j => X.N[j]?) = N.map some) (hdef : defaultsOf params X.env = ([], []))
    (hbind : ∀ (c' : Addr) (pm ctv : Value), bindArgs (lamFd (mkLam X params scope c') body .none pm ctv) ⟨[], []⟩ = pure [])
    (hbody : ∀ (f c' : Addr) (A : Around) (outer : List Env) (s : Shared) (H : Hp) (E : XK), Room k (A.deeper (envF (mkLam X params scope c') f s.heap.objs.size)) → PE (ncx (L2.CX X.prog X.w) X.prog X.w X.K X.mg X.base N (mkLam X params scope c') f A outer s H E) body (tb E)) :
    PE X (.Lambda params body scope pos) (tLam0 X k T N js tb) := by
  refine ⟨fun pins s σ H Q I h => (pe_lamV TB hcode hm hu (ndef_free hfree) hdef).run pins s σ H Q I ⟨h.1, fun f H1 eN nn T1 f0 L => h.2 f H1 eN nn T1 f0 ⟨params, scope, body, [], N, L, S, rfl, fun ok => Caps.made ok (ndef_free hfree) (ndef_fr hfree) hjs, ?_, hbody f⟩⟩⟩
  intro c' dv pm ctv s us hl z
  obtain rfl : us = [] := List.length_eq_zero_iff.mp hl
  rcases z with ⟨_, rfl⟩ | ⟨z, _⟩
  · exact .of_eq (hbind c' pm ctv)
  · exact absurd rfl z
theorem pe_lam1 {T : List (Addr × Str)} {c P : Addr} {k : Nat} {p : Str} {N fr : List Str} {js : List Nat} {te : TE} {tb : XK → TE} {params : Arguments} {body e : Expr} {scope : Scope} {pos : Pos} (TB : TabB X.base X.mg c P) (hcode : X.env.code = .ref c) (hm : (P, X.env.qual ++ "<lambda>") ∈ T)
    (hu : ∀ p ∈ T, p.1 = P → p.2 = X.env.qual ++ "<lambda>") (S : NScope N [p] fr scope) (hfree : ndefB X.env.scope scope fr = true) (hjs : js.map (fun j => X.N[j]?) = fr.map some) (hdef : defaultsOf params X.env = ([eval e X.env], []))
    (hbind : ∀ (c' d : Addr) (pm ctv : Value), ∃ k, bindArgs (lamFd (mkLam X params scope c') body (.ref d) pm ctv) ⟨[], []⟩ = seqItems? (.ref d) >>= k ∧ ∀ u, k (some #[u]) = pure [(p, u)]) (he : PE X e te)
    (hbody : ∀ (f c' : Addr) (A : Around) (outer : List Env) (s : Shared) (H : Hp) (E : XK), Room k (A.deeper (envF (mkLam X params scope c') f s.heap.objs.size)) → PE (ncx (L2.CX X.prog X.w) X.prog X.w X.K X.mg X.base N (mkLam X params scope c') f A outer s H E) body (tb E)) :
    PE X (.Lambda params body scope pos) (tLam1 X k T N js te tb) := by
  refine ⟨fun pins s σ H Q I h => (pe_lamD TB hcode hm hu (ndef_free hfree) hdef he (R := fun H1 f v => Lamb X k H1 f N js [v] tb) fun v f H1 L => ⟨params, scope, body, [p], fr, L, S, rfl, fun ok => Caps.made ok (ndef_free hfree) (ndef_fr hfree) hjs, ?_, hbody f⟩).run pins s σ H Q I h⟩
  intro c' dv pm ctv s us hl z
  rcases z with ⟨z, _⟩ | ⟨_, d, o, n, rfl, g, hd⟩
  · cases z
  · obtain ⟨k, e1, e2⟩ := hbind c' d pm ctv
    match us, hl with
    | [u], _ => exact BindsTo.of_defaults rfl g hd e1 (e2 u)
end
/-- a(), its reading in plain letters -/
def tThunk (P : Program) (w : World) (K : PySem.W.Frag) (mg : Str → Option Value) (base : Heap) (k i : Nat) (W : WX) : TE := fun σ H Q => ∃ f T Eb, σ[i]? = some (some (.ref f)) ∧ Thunk P w K mg base k H f T ∧ T H Q Eb ∧ ∀ cls d H', Eb cls d H' → W cls d σ H'
theorem pe_thunkE {X : Cx} {W : WX} {P : Program} {w : World} {K : PySem.W.Frag} {mg : Str → Option Value} {base : Heap} {i k : Nat} {a : Str} {p1 p2 : Pos} (tk : Takes X W) (hr : Room k X.A) (hN : X.N[i]? = some a) (hv : Vis X.env.scope a) (hd : (a == ("__debug__" : Str)) = false := by decide) (hcd : (a == ("__classdict__" : Str)) = false := by decide)
    (h1 : X.prog = P := by rfl) (h2 : X.w = w := by rfl) (h3 : X.K = K := by rfl) (h4 : X.mg = mg := by rfl) (h5 : X.base = base := by rfl) : PE X (.Call (.Name a p1) [] [] p2) (tThunk P w K mg base k i W) := by
  subst h1 h2 h3 h4 h5
  exact pe_thunk tk hr hN hv hd hcd
end TH

set_option linter.all false
set_option maxHeartbeats 4000000
namespace GS
open PySem L2 HX
/-! ### what the law takes for a clash, and what the program does -/
abbrev Lsg := Str × List Str × List (Str × Span)
def befB (B : BC) (x : Int) (z : Str) (k : Int) : Option Row := match B.states[(x - 1).toNat]? with
  | some s => lookS s z k
  | none => none
def DueAt (B : BC) (ls : List Lsg) (x : Int) : Prop := (∃ t ∈ B.tabs, t.2.1 = x) ∨ (∃ m ∈ B.made, m.2 = x) ∨ ∃ y ∈ B.kept, y.2.2.1 = x ∧ ∃ l ∈ ls, l.1 = y.1 ∧ (rIn l.2.2 l.2.1 y.2.2.2 = true ∨ rIn l.2.2 l.2.1 (befB B x y.1 y.2.1) = true)
theorem lastR_cons (b : Option Row) (y : Ver) (ch : List Ver) : lastR b (y :: ch) = lastR y.2 ch := by
  unfold lastR
  rw [List.getLast?_cons]
  cases ch.getLast? <;> rfl
theorem wbC_iff {n : Int} {bs : List (Str × Span)} {fs : List Str} {x : Int} : ∀ {ch : List Ver} {b : Option Row}, x ∈ wbC n bs fs b ch ↔ ∃ pre r post, ch = pre ++ (x, r) :: post ∧ n < x ∧ (rIn bs fs (lastR b pre) = true ∨ rIn bs fs r = true)
  | [], b => ⟨fun h => (by cases h), fun ⟨pre, r, post, e, _⟩ => by cases pre <;> cases e⟩
  | y :: ch, b => by
    constructor
    · intro h
      rcases List.mem_append.mp (show x ∈ (if decide (n < y.1) && (rIn bs fs b || rIn bs fs y.2) then [y.1] else []) ++ wbC n bs fs y.2 ch from h) with h | h
      · split at h
        · rename_i c
          have ex := List.mem_singleton.mp h
          simp only [Bool.and_eq_true, Bool.or_eq_true, decide_eq_true_eq] at c
          exact ⟨[], y.2, ch, by rw [ex]; rfl, by rw [ex]; exact c.1, c.2⟩
        · cases h
      · obtain ⟨pre, r, post, e, hn, hr⟩ := wbC_iff.mp h
        exact ⟨y :: pre, r, post, by rw [e]; rfl, hn, by rw [lastR_cons]; exact hr⟩
    · rintro ⟨pre, r, post, e, hn, hr⟩
      show x ∈ (if decide (n < y.1) && (rIn bs fs b || rIn bs fs y.2) then [y.1] else []) ++ wbC n bs fs y.2 ch
      refine List.mem_append.mpr ?_
      cases pre with
      | nil =>
        left
        injection e with e1 e2
        subst e1
        rw [if_pos]
        · exact List.mem_singleton.mpr rfl
        · simp only [Bool.and_eq_true, Bool.or_eq_true, decide_eq_true_eq]
          exact ⟨hn, hr⟩
      | cons u pre =>
        right
        injection e with e1 e2
        subst e1
        exact wbC_iff.mpr ⟨pre, r, post, e2, hn, by rw [lastR_cons] at hr; exact hr⟩
theorem verD_split {pre post : List Ver} {x : Int} {r : Option Row} (h : (pre ++ (x, r) :: post).Pairwise fun a b => a.1 < b.1) : (verD (pre ++ (x, r) :: post) (x - 1)).map (fun u => u.2) = lastR none pre := by
  obtain ⟨h1, h2, h3⟩ := List.pairwise_append.mp h
  have f1 : pre.filter (fun v => decide (v.1 ≤ x - 1)) = pre := List.filter_eq_self.mpr fun v hv => decide_eq_true (by
    have := h3 v hv (x, r) (List.mem_cons_self ..)
    have : v.1 < x := this
    omega)
  have f2 : ((x, r) :: post).filter (fun v => decide (v.1 ≤ x - 1)) = [] := List.filter_eq_nil_iff.mpr fun v hv => by
    rcases List.mem_cons.mp hv with q | q
    · rw [q]; simp only [decide_eq_true_eq]; show ¬ x ≤ x - 1; omega
    · have : x < v.1 := (List.pairwise_cons.mp h2).1 v q
      simp only [decide_eq_true_eq]; omega
  unfold verD lastR
  rw [List.filter_append, f1, f2, List.append_nil]
  cases pre.getLast? with
  | none => rfl
  | some v =>
    obtain ⟨m, rr⟩ := v
    cases rr <;> rfl
theorem SameB.symm {bs bs' : List (Str × Span)} (h : SameB bs bs') : SameB bs' bs := fun f => (h f).symm
theorem rIn_same {bs bs' : List (Str × Span)} (h : SameB bs bs') (fs : List Str) (r : Option Row) : rIn bs fs r = rIn bs' fs r := by
  cases r with
  | none => rfl
  | some ns =>
    show within bs fs ns = within bs' fs ns
    unfold within
    refine congrArg (fun p => (fs.zip ns).all p) (funext fun p => ?_)
    rw [h p.1]
theorem rIn_key {bs : List (Str × Span)} {fs : List Str} {k : Int} : ∀ {r : Option Row}, (∀ ns, r = some ns → ns.head? = some k) → fs ≠ [] → rIn bs fs r = true → inSpan (keyB bs fs) k = true
  | none, _, _, h => by cases h
  | some ns, hd, nf, h => by
    have hd := hd ns rfl
    cases fs with
    | nil => exact absurd rfl nf
    | cons f0 fr =>
      cases ns with
      | nil => cases hd
      | cons k0 nr =>
        obtain rfl : k0 = k := by simpa using hd
        have h : within bs (f0 :: fr) (k0 :: nr) = true := h
        unfold within at h
        rw [List.zip_cons_cons, List.all_cons, Bool.and_eq_true] at h
        unfold keyB
        show inSpan ((bs.lookup f0).getD (none, none)) k0 = true
        have h1 := h.1
        dsimp only at h1
        cases e : bs.lookup f0 with
        | none => rfl
        | some sp => rw [e] at h1; exact h1
theorem chainD_has {cl : List (Int × List Ver)} (nd : (cl.map fun x => x.1).Nodup) {y : Int × List Ver} (hy : y ∈ cl) : chainD cl y.1 = y.2 := by
  unfold chainD
  cases e : cl.find? fun x => decide (x.1 = y.1) with
  | none => have q := List.find?_eq_none.mp e y hy; simp at q
  | some x =>
    have ex : x.1 = y.1 := by simpa using List.find?_some e
    rw [nodup_inj (f := fun x : Int × List Ver => x.1) nd (List.mem_of_find?_eq_some e) hy ex]; rfl
theorem chn_has {d : SD} (R : (d.tabs.map fun t => t.1).Nodup) {t : Str × TD} (ht : t ∈ d.tabs) (kd : (t.2.cl.map fun x => x.1).Nodup) {y : Int × List Ver} (hy : y ∈ t.2.cl) : chn d t.1 y.1 = y.2 := by
  unfold chn
  rw [tabD_has R (show (t.1, t.2) ∈ d.tabs from ht)]
  exact chainD_has kd hy
theorem chn_mem {d : SD} {z : Str} {k : Int} {v : Ver} (h : v ∈ chn d z k) : ∃ t ∈ d.tabs, t.1 = z ∧ ∃ y ∈ t.2.cl, y.1 = k := by
  unfold chn tabD at h
  cases e : d.tabs.find? fun t => decide (t.1 = z) with
  | none => rw [e] at h; cases h
  | some t =>
    rw [e] at h
    have h : v ∈ chainD t.2.cl k := h
    unfold chainD at h
    cases e2 : t.2.cl.find? fun x => decide (x.1 = k) with
    | none => rw [e2] at h; cases h
    | some y => exact ⟨t, List.mem_of_find?_eq_some e, by simpa using List.find?_some e, y, List.mem_of_find?_eq_some e2, by simpa using List.find?_some e2⟩
theorem kept_chn {B : BC} {d : SD} (R : Rel B d) {z : Str} {k x : Int} {r : Option Row} : (x, r) ∈ chn d z k ↔ (z, k, x, r) ∈ B.kept := by
  rw [← R.r0.kp z k, List.mem_map]
  constructor
  · rintro ⟨y, hy, e⟩
    obtain ⟨h1, h2⟩ := List.mem_filter.mp hy
    simp only [Bool.and_eq_true, decide_eq_true_eq] at h2
    obtain ⟨a, b, c, dd⟩ := y
    obtain ⟨rfl, rfl⟩ := h2
    cases e
    exact h1
  · intro h
    exact ⟨_, List.mem_filter.mpr ⟨h, by simp⟩, rfl⟩
theorem made_iff {B : BC} {d : SD} (R : Rel B d) (mk : ∀ t ∈ d.tabs, (t.2.made.map fun m => m.1).Nodup) {x : Int} : (∃ m ∈ B.made, m.2 = x) ↔ ∃ t ∈ d.tabs, ∃ m ∈ t.2.made, m.2 = x := by
  constructor
  · rintro ⟨m, hm, rfl⟩
    have h := R.r0.md m.1.1 m.1.2
    have e : B.made.find? (fun y => decide (y.1 = (m.1.1, m.1.2))) = some m := by
      cases e : B.made.find? fun y => decide (y.1 = (m.1.1, m.1.2)) with
      | none => have q := List.find?_eq_none.mp e m hm; simp at q
      | some y =>
        have ey : y.1 = m.1 := by simpa using List.find?_some e
        rw [nodup_inj (f := fun x : (Str × Str) × Int => x.1) R.mn (List.mem_of_find?_eq_some e) hm ey]
    rw [e] at h
    unfold mdF tabD at h
    cases e1 : d.tabs.find? fun t => decide (t.1 = m.1.1) with
    | none => rw [e1] at h; cases h
    | some t =>
      rw [e1] at h
      have h : some m.2 = (t.2.made.find? fun q => decide (q.1 = m.1.2)).map fun q => q.2 := h
      cases e2 : t.2.made.find? fun q => decide (q.1 = m.1.2) with
      | none => rw [e2] at h; cases h
      | some q => rw [e2] at h; exact ⟨t, List.mem_of_find?_eq_some e1, q, List.mem_of_find?_eq_some e2, (Option.some.inj h).symm⟩
  · rintro ⟨t, ht, m, hm, rfl⟩
    have h := R.r0.md t.1 m.1
    unfold mdF at h
    rw [tabD_has R.r0.nd (show (t.1, t.2) ∈ d.tabs from ht)] at h
    have e : t.2.made.find? (fun q => decide (q.1 = m.1)) = some m := by
      cases e : t.2.made.find? fun q => decide (q.1 = m.1) with
      | none => have q := List.find?_eq_none.mp e m hm; simp at q
      | some y =>
        have ey : y.1 = m.1 := by simpa using List.find?_some e
        rw [nodup_inj (f := fun x : Str × Int => x.1) (mk t ht) (List.mem_of_find?_eq_some e) hm ey]
    have h : (B.made.find? fun y => decide (y.1 = (t.1, m.1))).map (fun y => y.2) = (t.2.made.find? fun q => decide (q.1 = m.1)).map fun q => q.2 := h
    rw [e] at h
    cases e3 : B.made.find? fun y => decide (y.1 = (t.1, m.1)) with
    | none => rw [e3] at h; cases h
    | some y => rw [e3] at h; exact ⟨y, List.mem_of_find?_eq_some e3, Option.some.inj h⟩
theorem bef_chn {B : BC} {d : SD} (R : Rel B d) {z : Str} {k x : Int} {r : Option Row} {pre post : List Ver} (e : chn d z k = pre ++ (x, r) :: post) (x1 : 1 ≤ x) : befB B x z k = lastR none pre := by
  have hx : x ≤ d.newest := (R.sr z k).2 (x, r) (by rw [e]; exact List.mem_append_right _ (List.mem_cons_self ..))
  have ln := R.ln
  have lt : (x - 1).toNat < B.states.length := by omega
  unfold befB
  have es := List.getElem?_eq_getElem lt
  rw [es]
  show lookS _ z k = _
  rw [R.lk _ _ es z k, show (((x - 1).toNat : Nat) : Int) = x - 1 by omega, e]
  exact verD_split (by rw [← e]; exact R.su z k)
theorem late_iff {B : BC} {d : SD} (R : Rel B d) (mk : ∀ t ∈ d.tabs, (t.2.made.map fun m => m.1).Nodup) {n : Int} (n0 : 0 ≤ n) {ss : List (Str × List (Str × Span))} {ls : List Lsg} (h1 : ∀ s ∈ ss, ∃ l ∈ ls, l.1 = s.1 ∧ SameB l.2.2 s.2) (h2 : ∀ l ∈ ls, ∃ s ∈ ss, l.1 = s.1 ∧ SameB l.2.2 s.2) (hf : ∀ l ∈ ls, ∃ t ∈ B.tabs, t.1 = l.1 ∧ t.2.2 = l.2.1) {x : Int} :
    Late d n ss x ↔ n < x ∧ DueAt B ls x := by
  have tb : ∀ t ∈ d.tabs, (t.1, t.2.num, t.2.fields) ∈ B.tabs := fun t ht => by rw [R.r0.tb]; exact List.mem_map.mpr ⟨t, ht, rfl⟩
  have flds : ∀ l ∈ ls, ∀ t ∈ d.tabs, t.1 = l.1 → t.2.fields = l.2.1 := fun l hl t ht e => by
    obtain ⟨t', ht', e1, e2⟩ := hf l hl
    have q := nodup_inj (f := fun t : Tin => t.1) R.nd (tb t ht) ht' (e.trans e1.symm)
    rw [← e2, ← q]
  have heads : ∀ {z : Str} {k : Int} {v : Ver}, v ∈ chn d z k → ∀ ns, v.2 = some ns → ns.head? = some k := fun {z} {k} {v} hv ns e => ((R.rw_ _ ((kept_chn R).mp (show (v.1, v.2) ∈ chn d z k from hv))).2.2 ns e).1
  constructor
  · rintro (⟨t, ht, hm⟩ | ⟨s, hs, t, ht, et, y, hy, hk, hm⟩)
    · obtain ⟨h, hn⟩ := List.mem_filter.mp hm
      refine ⟨of_decide_eq_true hn, ?_⟩
      rcases List.mem_cons.mp h with h | h
      · exact .inl ⟨_, tb t ht, h.symm⟩
      · obtain ⟨m, hm, e⟩ := List.mem_map.mp h
        exact .inr (.inl ((made_iff R mk).mpr ⟨t, ht, m, hm, e⟩))
    · obtain ⟨l, hl, e1, e2⟩ := h1 s hs
      obtain ⟨pre, r, post, e, hn, hr⟩ := wbC_iff.mp hm
      have ec := chn_has R.r0.nd ht (R.r0.kd t ht) hy
      rw [e] at ec
      refine ⟨hn, .inr (.inr ⟨(t.1, y.1, x, r), (kept_chn R).mp (by rw [ec]; exact List.mem_append_right _ (List.mem_cons_self ..)), rfl, l, hl, e1.trans et.symm, ?_⟩)⟩
      rw [← flds l hl t ht (et.trans e1.symm), rIn_same e2, rIn_same e2, bef_chn R ec (by omega)]
      exact hr.symm
  · rintro ⟨hn, h⟩
    rcases h with ⟨t, ht, e⟩ | h | ⟨y, hy, ex, l, hl, e1, hr⟩
    · rw [R.r0.tb] at ht
      obtain ⟨t0, ht0, e0⟩ := List.mem_map.mp ht
      refine .inl ⟨t0, ht0, List.mem_filter.mpr ⟨?_, decide_eq_true hn⟩⟩
      rw [← e, ← e0]
      exact List.mem_cons_self ..
    · obtain ⟨t, ht, m, hm, e⟩ := (made_iff R mk).mp h
      exact .inl ⟨t, ht, List.mem_filter.mpr ⟨List.mem_cons_of_mem _ (List.mem_map.mpr ⟨m, hm, e⟩), decide_eq_true hn⟩⟩
    · obtain ⟨z, k, x', r⟩ := y
      have ex : x' = x := ex
      subst ex
      have e1 : l.1 = z := e1
      obtain ⟨s, hs, e2, e3⟩ := h2 l hl
      have mc := (kept_chn R).mpr hy
      obtain ⟨t, ht, et, y, hy2, ek⟩ := chn_mem mc
      subst et ek
      have ec := chn_has R.r0.nd ht (R.r0.kd t ht) hy2
      obtain ⟨pre, post, e⟩ := List.append_of_mem mc
      have hb := bef_chn R e (by omega)
      have hr : rIn l.2.2 l.2.1 r = true ∨ rIn l.2.2 l.2.1 (befB B x' t.1 y.1) = true := hr
      rw [hb, ← flds l hl t ht e1.symm, rIn_same e3, rIn_same e3] at hr
      refine .inr ⟨s, hs, t, ht, (e2.symm.trans e1).symm, y, hy2, ?_, wbC_iff.mpr ⟨pre, r, post, by rw [← ec]; exact e, hn, hr.symm⟩⟩
      have nf := (R.fl _ (tb t ht)).1
      rcases hr with hr | hr
      · exact rIn_key (fun ns e => heads mc ns e) nf hr
      · refine rIn_key (fun ns en => ?_) nf hr
        unfold lastR at en
        cases eg : pre.getLast? with
        | none => rw [eg] at en; cases en
        | some v =>
          rw [eg] at en
          exact heads (z := t.1) (k := y.1) (v := v) (by rw [e]; exact List.mem_append_left _ (List.mem_of_getLast? eg)) ns en
theorem late_le {B : BC} {d : SD} (R : Rel B d) {ls : List Lsg} {x : Int} (h : DueAt B ls x) : x ≤ d.newest := by
  rcases h with ⟨t, ht, e⟩ | ⟨m, hm, e⟩ | ⟨y, hy, ex, _⟩
  · have := R.nn t ht; omega
  · have := R.mw m hm; omega
  · have := (R.sr y.1 y.2.1).2 _ ((kept_chn R).mpr hy)
    have : y.2.2.1 ≤ d.newest := this
    omega
end GS

set_option linter.all false
set_option maxHeartbeats 4000000
namespace GS
open PySem L2 HX
theorem inSpan_lo {l n : Int} {hi : Option Int} : inSpan (some l, hi) n = (decide (l ≤ n) && inSpan (none, hi) n) := by
  cases hi <;> simp [inSpan]
theorem inSpan_nh {h n : Int} : inSpan (none, some h) n = decide (n ≤ h) := by simp [inSpan]
def spBounds (K : PySem.W.Frag) : Sp := fun vs H Q _ => ∃ (a b f : Addr) (fs : List Str), vs = [.ref a, .ref f] ∧ BoxAt H a b ∧ SqT K H f (fs.map V.str) ∧ fs.length ≤ 4 ∧ fs.Nodup ∧
  ∀ d bs H', Keep a b H H' → BoxAt H' a b → H d = none → BdAt K H' d bs → (bs.map (·.1)).Nodup → bs.length ≤ 4 → Q (.ref d) H'
def spInL (K : PySem.W.Frag) : Sp := fun vs H Q _ => ∃ (f d : Addr) (rv : V) (r : Option Row) (fs : List Str) (bs : List (Str × Span)), vs = [rv, .ref f, .ref d] ∧ RowAt H r rv ∧ SqT K H f (fs.map V.str) ∧ fs.length ≤ 4 ∧ BdAt K H d bs ∧ (∀ ns, r = some ns → ns.length = fs.length) ∧
  ∀ H', Same H H' → Q (.bl (rIn bs fs r)) H'
section
variable {P : Program} {w : World} {K : PySem.W.Frag} {mg : Str → Option Value} {base : Heap}
theorem scBo : FnScope ["_law_box", "_law_fields", "_law_found", "_law_field", "_law_low", "_law_high"] ["_law_box", "_law_fields"] (defScope s_l_bounds) := ⟨rfl, rfl, rfl, by decide +kernel, rfl, by decide +kernel, by decide +kernel⟩
theorem ok_bounds {f ft : Addr} {fd fdt : FuncData} (F : Fun K "_law_bounds" "_law_bounds" s_l_bounds f fd) (T : Txt mg) (hmax : mg "max" = none) (Ctake : Cal P w K mg base 1 "_law_take" ["_law_box", "_law_many"] (spTake K) ft fdt) : FnOk P w K mg base CX0 2 f fd ["_law_box", "_law_fields"] (spBounds K) := by
  refine F.ok scBo (fun vs H Q E h => ?_) (fun cdv A outer s H vs Q E hr h => ?_)
  · obtain ⟨a, b, f, fs, rfl, _⟩ := h
    rfl
  · obtain ⟨a, b, f, fs, rfl, B, hf, l4, nd, kk⟩ := h
    have hr1 : Room 1 _ := hr
    have big : (1000 : Nat) < sizeLine := by decide
    refine ⟨_, (pss_cons (ps_set (i := 2) scBo.nd rfl (Or.inl rfl) pe_dnewK)
      (pss_cons (ps_for PassesOwn.never rfl (RK.piT (K := K) (pv 1)) (pg_name (i := 3) scBo.nd rfl (Or.inl rfl))
        (pss_one (ps_if (pt_cmpR op_eq (pe_call Ctake.G hr1 rfl Ctake.g Ctake.kp Ctake.b .nil pass0 (pa_cons (pv 0) (pa_cons pe_int pa_nil))) pe_int (nomark _)) (pss_cons (ps_par (i := 4) (j := 5) (by rfl) scBo.nd rfl rfl (by decide) rfl rfl (pa_cons (pe_op op_sub (pe_call Ctake.G hr1 rfl Ctake.g Ctake.kp Ctake.b .nil pass0 (pa_cons (pv 0) (pa_cons pe_int pa_nil))) pe_int) (pa_cons (pe_op op_sub (pe_call Ctake.G hr1 rfl Ctake.g Ctake.kp Ctake.b .nil pass0 (pa_cons (pv 0) (pa_cons pe_int pa_nil))) pe_int) pa_nil)) (by rfl))
          (pss_one (ps_dput (hu_of hr) (pv 2) (pv 3) (pe_ix (RK.ixL (K := K)) (pe_lst (pa_cons (pe_tup (pa_cons (pv 4) (pa_cons (pe_callB (call_max2 rfl) (by rfl) hmax (by decide +kernel) (pa_cons (pv 4) (pa_cons (pv 5) pa_nil))) pa_nil))) (pa_cons (pe_tup (pa_cons pe_non (pa_cons (pv 5) pa_nil))) (pa_cons (pe_tup (pa_cons (pv 4) (pa_cons pe_non pa_nil))) (pa_cons (pe_tup (pa_cons (pv 4) (pa_cons (pv 4) pa_nil))) pa_nil))))) (pe_call Ctake.G hr1 rfl Ctake.g Ctake.kp Ctake.b .nil pass0 (pa_cons (pv 0) (pa_cons pe_int pa_nil))) (fun _ _ => rfl)) rfl))) pss_nil)))
      (pss_one (ps_ret (pv 2))))), ?_⟩
    have lf : (fs.map V.str).length = fs.length := List.length_map ..
    refine sa1 fun d hd => gn ?_
    have s1 := same_new (o := .dK []) hd
    have hd1 : (upd H d (.dK [])) d = some (.dK []) := upd_same
    have ndb := box_new B hd
    have B1 := B.same s1
    have zd : H d = none := hd
    generalize upd H d (.dK []) = H1 at s1 hd1 B1
    have hf1 := sqt_keep (TK.same s1) hf
    refine ⟨_, rfl, f, rfl, ⟨_, hf1⟩, ?_⟩
    refine for_it (walk_tup (xs := fs.map V.str)) (fun i σ H' => ∃ v3 v4 v5, σ = [some (.ref a), some (.ref f), some (.ref d), v3, v4, v5] ∧ BoxAt H' a b ∧ (∀ x o, x ≠ a → x ≠ b → x ≠ d → H1 x = some o → H' x = some o) ∧ ∃ bs : List (Str × Span), BdAt K H' d bs ∧ (bs.map (·.1)).Nodup ∧ bs.length ≤ i ∧ ∀ p ∈ bs, p.1 ∈ fs.take i)
      ⟨none, none, none, rfl, B1, fun _ _ _ _ _ e => e, [], ⟨[], hd1, .nil⟩, List.nodup_nil, Nat.le_refl _, fun p hp => (by cases hp)⟩ (fun i σ H' _ q => ?_) ?_ ?_
    · obtain ⟨v3, v4, v5, _, _, kp, _⟩ := q
      refine sqt_keep (fun x u hu e => ?_) hf1
      have n := box_ne B1 e (fun xs z => by rw [z] at hu; exact hu)
      exact kp x u n.1 n.2 (ne_of e hd1 (by intro z; subst z; exact hu)) e
    · rintro i y σ H2 H3 hi ⟨v3, v4, v5, rfl, B3, kp, bs, bd, nb, lb, inb⟩ ⟨rfl, ey⟩
      have hi2 : i < fs.length := lf ▸ hi
      obtain rfl : y = .str fs[i] := by
        rw [List.getElem?_map, List.getElem?_eq_getElem hi2] at ey
        exact (Option.some.inj ey).symm
      have tki : fs.take (i + 1) = fs.take i ++ [fs[i]] := by rw [List.take_add_one, List.getElem?_eq_getElem hi2]; rfl
      have fin0 : ∀ p ∈ bs, p.1 ∈ fs.take (i + 1) := fun p hp => by rw [tki]; exact List.mem_append_left _ (inb p hp)
      refine gn (ifs ⟨_, rfl, a, b, 3, rfl, by decide, by decide, B3, fun r H4 r0 r1 B4 k4 => ⟨rfl, _, rfl, ?_⟩⟩)
      obtain ⟨kvs, hk3, pr3⟩ := id bd
      have tk4 := Keep.tk B3 k4
      have nda := box_ne B3 hk3 (by intro xs z; cases z)
      have bd4 : BdAt K H4 d bs := bd.keep (fun o e => k4 d o nda.1 nda.2 e) tk4
      by_cases c : V.int r = V.int 0
      · rw [decide_eq_true c]
        refine iteT ?_
        refine par1 ⟨_, rfl, a, b, 9, rfl, by decide, by decide, B4, fun x H5 x0 x1 B5 k5 => ⟨_, 3, rfl, rfl, _, rfl, a, b, 9, rfl, by decide, by decide, B5, fun y H6 y0 y1 B6 k6 => ⟨_, 2, rfl, rfl, .int (x - 3), .int (y - 2), rfl, ?_⟩⟩⟩
        have bd5 : BdAt K H5 d bs := bd4.keep (fun o e => k5 d o nda.1 nda.2 e) (Keep.tk B4 k5)
        have bd6 : BdAt K H6 d bs := bd5.keep (fun o e => k6 d o nda.1 nda.2 e) (Keep.tk B5 k6)
        have kp6 : ∀ x o, x ≠ a → x ≠ b → H3 x = some o → H6 x = some o := fun z o n1 n2 e => k6 z o n1 n2 (k5 z o n1 n2 (k4 z o n1 n2 e))
        generalize x - 3 = lo
        generalize y - 2 = hi0
        -- the list of spans
        refine ⟨_, rfl, _, rfl, _, rfl, lo, hi0, rfl, by show 2 ≤ sizeLine; decide, fun t1 ht1 => ?_⟩
        have e1 := same_new (o := .tup [.int lo, .int (if hi0 > lo then hi0 else lo)]) ht1
        have p1 : (upd H6 t1 (.tup [.int lo, .int (if hi0 > lo then hi0 else lo)])) t1 = some (.tup [oV (some lo), oV (some (if hi0 > lo then hi0 else lo))]) := upd_same
        generalize upd H6 t1 (.tup [.int lo, .int (if hi0 > lo then hi0 else lo)]) = G1 at e1 p1
        refine ⟨_, rfl, by show 2 ≤ sizeLine; decide, fun t2 ht2 => ?_⟩
        have e2 := same_new (o := .tup [.non, .int hi0]) ht2
        have p2 : (upd G1 t2 (.tup [.non, .int hi0])) t2 = some (.tup [oV none, oV (some hi0)]) := upd_same
        generalize upd G1 t2 (.tup [.non, .int hi0]) = G2 at e2 p2
        refine ⟨_, rfl, by show 2 ≤ sizeLine; decide, fun t3 ht3 => ?_⟩
        have e3 := same_new (o := .tup [.int lo, .non]) ht3
        have p3 : (upd G2 t3 (.tup [.int lo, .non])) t3 = some (.tup [oV (some lo), oV none]) := upd_same
        generalize upd G2 t3 (.tup [.int lo, .non]) = G3 at e3 p3
        refine ⟨_, rfl, _, rfl, by show 2 ≤ sizeLine; decide, fun t4 ht4 => ?_⟩
        have e4 := same_new (o := .tup [.int lo, .int lo]) ht4
        have p4 : (upd G3 t4 (.tup [.int lo, .int lo])) t4 = some (.tup [oV (some lo), oV (some lo)]) := upd_same
        generalize upd G3 t4 (.tup [.int lo, .int lo]) = G4 at e4 p4
        refine ⟨by show 4 ≤ sizeLine; decide, fun L hL => ?_⟩
        have e5 := same_new (o := .lst [.ref t1, .ref t2, .ref t3, .ref t4]) hL
        have p5 : (upd G4 L (.lst [.ref t1, .ref t2, .ref t3, .ref t4])) L = some (.lst [.ref t1, .ref t2, .ref t3, .ref t4]) := upd_same
        generalize upd G4 L (.lst [.ref t1, .ref t2, .ref t3, .ref t4]) = G5 at e5 p5
        have s15 := e2.trans (e3.trans (e4.trans e5))
        have s65 := e1.trans s15
        have B5' := B6.same s65
        have nL := box_new (B6.same (e1.trans (e2.trans (e3.trans e4)))) hL
        refine ⟨_, rfl, a, b, 4, rfl, by decide, by decide, B5', fun r6 H7 r60 r61 B7 k7 => ?_⟩
        have L7 := k7 _ _ nL.1 nL.2 p5
        have tk7 := Keep.tk B5' k7
        obtain ⟨tt, sp, et, ht⟩ : ∃ (tt : Addr) (sp : Span), atI [V.ref t1, V.ref t2, V.ref t3, V.ref t4] r6 = some (V.ref tt) ∧ H7 tt = some (.tup [oV sp.1, oV sp.2]) := by
          rcases (show r6 = 0 ∨ r6 = 1 ∨ r6 = 2 ∨ r6 = 3 by omega) with h | h | h | h
          · exact ⟨t1, (some lo, some (if hi0 > lo then hi0 else lo)), by rw [h]; rfl, tk7.tup (s15 _ _ p1)⟩
          · exact ⟨t2, (none, some hi0), by rw [h]; rfl, tk7.tup ((e3.trans (e4.trans e5)) _ _ p2)⟩
          · exact ⟨t3, (some lo, none), by rw [h]; rfl, tk7.tup ((e4.trans e5) _ _ p3)⟩
          · exact ⟨t4, (some lo, some lo), by rw [h]; rfl, tk7.tup (e5 _ _ p4)⟩
        have bd7 : BdAt K H7 d bs := (bd6.same s65).keep (fun o e => k7 d o nda.1 nda.2 e) tk7
        obtain ⟨kvs7, hk7, pr7⟩ := id bd7
        have lk7 := pw_len pr7
        have nf : fs[i] ∉ bs.map (·.1) := fun m => by
          obtain ⟨p, hp, ep⟩ := List.mem_map.mp m
          obtain ⟨j, hj, ej⟩ := List.getElem_of_mem (inb p hp)
          rw [List.length_take] at hj
          rw [List.getElem_take] at ej
          have z := List.pairwise_iff_getElem.mp nd j i (by omega) hi2 (by omega)
          exact z (ej.trans ep)
        have nv : valV kvs7 (Sum.inr fs[i] : Key) = none := valV_none fun m => nf (by
          rw [bd_keys pr7] at m
          obtain ⟨p, hp, ep⟩ := List.mem_map.mp m
          exact List.mem_map.mpr ⟨p, hp, Sum.inr.inj ep⟩)
        refine ⟨L, _, r6, _, rfl, rfl, SqL.of L7, et, _, rfl, _, rfl, d, _, rfl, DPut.k (k := Sum.inr fs[i]) hk7 (Nat.lt_of_le_of_lt (show kvs7.length ≤ 1000 by omega) big), ?_⟩
        rw [putK_new _ nv]
        have tk8 : TK H7 (upd H7 d (.dK (kvs7 ++ [(Sum.inr fs[i], V.ref tt)]))) := fun z u hu e => by rw [upd_ne (ne_of e hk7 (by intro z; subst z; exact hu))]; exact e
        refine ⟨_, _, _, rfl, B7.upd nda, fun x o n1 n2 n3 e => ?_, bs ++ [(fs[i], sp)], ⟨_, upd_same, pw_app (pw_imp (fun _ _ ⟨a, q, b, c⟩ => ⟨a, q, b, sqt_keep tk8 c⟩) pr7) (.cons ⟨rfl, tt, rfl, SqT.of (tk8.tup ht)⟩ .nil)⟩, ?_, by rw [List.length_append]; exact Nat.succ_le_succ lb, fun p hp => ?_⟩
        · rw [upd_ne n3]
          exact k7 x o n1 n2 (s65 _ _ (kp6 x o n1 n2 (kp x o n1 n2 n3 e)))
        · rw [List.map_append]
          refine List.nodup_append.mpr ⟨nb, List.nodup_cons.mpr ⟨List.not_mem_nil, List.nodup_nil⟩, fun x hx y hy e => nf ?_⟩
          rw [List.mem_singleton.mp hy] at e
          rw [show fs[i] = x from e.symm]; exact hx
        · rcases List.mem_append.mp hp with q | q
          · exact fin0 p q
          · rw [List.mem_singleton.mp q, tki]
            exact List.mem_append_right _ (List.mem_singleton.mpr rfl)
      · rw [decide_eq_false c]
        exact iteF ⟨_, _, _, rfl, B4, fun x o n1 n2 n3 e => k4 x o n1 n2 (kp x o n1 n2 n3 e), bs, bd4, nb, Nat.le_succ_of_le lb, fin0⟩
    · rintro σ H2 ⟨v3, v4, v5, rfl, B2, kp, bs, bd, nb, lb, _⟩
      rw [lf] at lb
      exact ⟨_, rfl, kk d bs H2 (fun x o n1 n2 e => kp x o n1 n2 (ne_of_none e zd) (s1 _ _ e)) B2 zd bd nb (by omega)⟩
theorem scInL : FnScope ["_law_row_here", "_law_fields", "_law_spans", "_law_k", "_law_low", "_law_high"] ["_law_row_here", "_law_fields", "_law_spans"] (defScope s_l_in) := ⟨rfl, rfl, rfl, by decide +kernel, rfl, by decide +kernel, by decide +kernel⟩
theorem ok_inL {f : Addr} {fd : FuncData} (F : Fun K "_law_in" "_law_in" s_l_in f fd) (T : Txt mg) : FnOk P w K mg base CX0 1 f fd ["_law_row_here", "_law_fields", "_law_spans"] (spInL K) := by
  refine F.ok scInL (fun vs H Q E h => ?_) (fun cdv A outer s H vs Q E hr h => ?_)
  · obtain ⟨f, d, rv, r, fs, bs, rfl, _⟩ := h
    rfl
  · obtain ⟨f, d, rv, r, fs, bs, rfl, hrv, hf, l4, bd, len, kk⟩ := h
    refine ⟨_, (pss_cons (ps_if (pt_cmpR op_isN (pv 0) pe_non (nomark _)) (pss_one (ps_ret pe_bl)) pss_nil)
      (pss_cons (ps_for PassesOwn.never rfl (pi_range1 rfl T.range (pa_cons (pe_callB (RK.lenQ (K := K)) (by rfl) T.len PySem.boot_len (pa_cons (pv 1) pa_nil)) pa_nil)) (pg_name (i := 3) scInL.nd rfl (Or.inl rfl))
        (pss_cons (ps_asg (pe_dget2 (hu_of hr) (pv 2) (pe_ix (RK.ixT (K := K)) (pv 1) (pv 3) (fun _ _ => rfl)) (pe_tup (pa_cons pe_non (pa_cons pe_non pa_nil))) ⟨rfl, rfl, rfl, rfl⟩) (RK.pgTup (K := K) (n := 2) rfl (pgs_cons (pg_name (i := 4) scInL.nd rfl (Or.inl rfl)) (pgs_cons (pg_name (i := 5) scInL.nd rfl (Or.inl rfl)) pgs_nil))))
        (pss_one (ps_if (PW.pt (pw_or (PW.pt (pw_and (pt_cmpR op_notN (pv 4) pe_non (nomark _)) (pw_and1 (pt_cmpR op_lt (pe_ix (RK.ixT (K := K)) (pv 0) (pv 3) (fun _ _ => rfl)) (pv 4) (nomark _))))) (pw_or1 (PW.pt (pw_and (pt_cmpR op_notN (pv 5) pe_non (nomark _)) (pw_and1 (pt_cmpR op_gt (pe_ix (RK.ixT (K := K)) (pv 0) (pv 3) (fun _ _ => rfl)) (pv 5) (nomark _)))))))) (pss_one (ps_ret pe_bl)) pss_nil))))
      (pss_one (ps_ret pe_bl)))), ?_⟩
    have lf : (fs.map V.str).length = fs.length := List.length_map ..
    cases r with
    | none =>
      obtain rfl : rv = V.non := hrv
      exact sif ⟨_, rfl, rfl, _, rfl, iteT (kk H (Same.refl H))⟩
    | some ns =>
      obtain ⟨p, rfl, hp⟩ := hrv
      have ln := len ns rfl
      refine sif ⟨_, rfl, rfl, _, rfl, iteF ?_⟩
      dsimp only [tNext]
      refine rg1 ⟨_, rfl, f, _, rfl, .inr hf, ((fs.map V.str).length : Nat), rfl, by omega, by omega, ?_⟩
      refine for_it walk_range (fun i σ H' => ∃ v3 v4 v5, σ = [some (.ref p), some (.ref f), some (.ref d), v3, v4, v5] ∧ Same H H' ∧ within bs (fs.take i) (ns.take i) = true)
        ⟨none, none, none, rfl, Same.refl H, rfl⟩ (fun _ _ _ _ _ => trivial) ?_ ?_
      · rintro i y σ H0 H' hi ⟨v3, v4, v5, rfl, sm, wi⟩ ⟨rfl, rfl⟩
        have hi1 : i < fs.length := by omega
        have hi2 : i < ns.length := by omega
        obtain ⟨kvs, hb, pr⟩ := bd.same sm
        have en : atI (ns.map V.int) (0 + ((i : Nat) : Int)) = some (.int ns[i]) := by
          rw [Int.zero_add]
          exact atI_nat (by rw [List.getElem?_map, List.getElem?_eq_getElem hi2]; rfl)
        have ef : atI (fs.map V.str) (0 + ((i : Nat) : Int)) = some (.str fs[i]) := by
          rw [Int.zero_add]
          exact atI_nat (by rw [List.getElem?_map, List.getElem?_eq_getElem hi1]; rfl)
        have step : within bs (fs.take (i + 1)) (ns.take (i + 1)) = inOpt (bs.lookup fs[i]) ns[i] := by
          have h1 : fs.take (i + 1) = fs.take i ++ [fs[i]] := by rw [List.take_add_one, List.getElem?_eq_getElem hi1]; rfl
          have h2 : ns.take (i + 1) = ns.take i ++ [ns[i]] := by rw [List.take_add_one, List.getElem?_eq_getElem hi2]; rfl
          unfold within at wi ⊢
          rw [h1, h2, List.zip_append (by rw [List.length_take, List.length_take]; omega), List.all_append, wi]
          simp
        have bad : inOpt (bs.lookup fs[i]) ns[i] = false → rIn bs fs (some ns) = false := fun h => by
          show within bs fs ns = false
          refine Bool.eq_false_iff.mpr fun c => ?_
          have c := List.all_eq_true.mp c (fs[i], ns[i]) (List.mem_iff_getElem.mpr ⟨i, by rw [List.length_zip]; omega, by rw [List.getElem_zip]⟩)
          dsimp only at c
          rw [h] at c; cases c
        refine gn (sa1 ⟨_, rfl, d, rfl, .inl ⟨kvs, .inl hb⟩, _, rfl, _, rfl, f, _, (0 + ((i : Nat) : Int)), .str fs[i], rfl, rfl, sqt_keep (TK.same sm) hf, ef, (by show 2 ≤ sizeLine; decide), fun q hq => ?_⟩)
        have s1 := same_new (o := .tup [.non, .non]) hq
        have hpt : (upd H' q (.tup [.non, .non])) q = some (.tup [.non, .non]) := upd_same
        generalize upd H' q (.tup [.non, .non]) = H1 at s1 hpt
        refine ⟨valV kvs (Sum.inr fs[i]), .inl ⟨kvs, Sum.inr fs[i], .inl (s1 _ _ hb), rfl, rfl⟩, ?_⟩
        have key : ∃ u, (valV kvs (Sum.inr fs[i])).getD (.ref q) = .ref u ∧ SqT K H1 u [oV ((bs.lookup fs[i]).getD (none, none)).1, oV ((bs.lookup fs[i]).getD (none, none)).2] := by
          rcases look_bd fs[i] pr with ⟨z1, z2⟩ | ⟨sp, u, z1, z2, hu⟩
          · exact ⟨q, by rw [z2]; rfl, by rw [z1]; exact SqT.of hpt⟩
          · exact ⟨u, by rw [z2]; rfl, by rw [z1]; exact sqt_keep (TK.same s1) hu⟩
        obtain ⟨u, z1, hu⟩ := key
        rw [z1]
        have io : inOpt (bs.lookup fs[i]) ns[i] = inSpan ((bs.lookup fs[i]).getD (none, none)) ns[i] := by
          cases bs.lookup fs[i] <;> rfl
        have sm2 := sm.trans s1
        have hp1 := SqT.of (K := K) (sm2 _ _ hp)
        rw [io] at step bad
        generalize (bs.lookup fs[i]).getD (none, none) = sp at hu step bad
        obtain ⟨lo, hi0⟩ := sp
        refine ⟨u, _, rfl, hu, rfl, _, _, rfl, gn ⟨_, _, rfl, gn ⟨rfl, ?_⟩⟩⟩
        have good : inSpan (lo, hi0) ns[i] = true → ∃ v3 v4 v5, [some (V.ref p), some (V.ref f), some (V.ref d), some (V.int (0 + (i : Nat))), some (oV lo), some (oV hi0)] = [some (V.ref p), some (V.ref f), some (V.ref d), v3, v4, v5] ∧ Same H H1 ∧ within bs (fs.take (i + 1)) (ns.take (i + 1)) = true := fun h => ⟨_, _, _, rfl, sm2, step.trans h⟩
        have out : inSpan (lo, hi0) ns[i] = false → Q (.bl false) H1 := fun h => by rw [← bad h]; exact kk H1 sm2
        refine ifs ?_
        cases lo with
        | none =>
          refine ⟨_, rfl, rfl, _, rfl, iteF (iteF ?_)⟩
          cases hi0 with
          | none => exact ⟨_, rfl, rfl, _, rfl, iteF (iteF (good rfl))⟩
          | some h =>
            refine ⟨_, rfl, rfl, _, rfl, iteT ⟨_, rfl, _, rfl, p, _, _, _, rfl, rfl, hp1, en, _, rfl, ns[i], h, rfl, rfl, _, rfl, ?_⟩⟩
            by_cases c : h < ns[i]
            · rw [decide_eq_true c]
              exact iteT (out (by rw [inSpan_nh]; exact decide_eq_false (by omega)))
            · rw [decide_eq_false c]
              exact iteF (good (by rw [inSpan_nh]; exact decide_eq_true (by omega)))
        | some l =>
          refine ⟨_, rfl, rfl, _, rfl, iteT ⟨_, rfl, _, rfl, p, _, _, _, rfl, rfl, hp1, en, _, rfl, ns[i], l, rfl, rfl, _, rfl, ?_⟩⟩
          by_cases c : ns[i] < l
          · rw [decide_eq_true c]
            exact iteT (iteT (out (by rw [inSpan_lo, decide_eq_false (by omega)]; rfl)))
          · rw [decide_eq_false c]
            refine iteF ?_
            have e := inSpan_lo (l := l) (hi := hi0) (n := ns[i])
            rw [decide_eq_true (show l ≤ ns[i] by omega), Bool.true_and] at e
            rw [e] at good out
            cases hi0 with
            | none => exact ⟨_, rfl, rfl, _, rfl, iteF (iteF (good rfl))⟩
            | some h =>
              refine ⟨_, rfl, rfl, _, rfl, iteT ⟨_, rfl, _, rfl, p, _, _, _, rfl, rfl, hp1, en, _, rfl, ns[i], h, rfl, rfl, _, rfl, ?_⟩⟩
              by_cases c : h < ns[i]
              · rw [decide_eq_true c]
                exact iteT (out (by rw [inSpan_nh]; exact decide_eq_false (by omega)))
              · rw [decide_eq_false c]
                exact iteF (good (by rw [inSpan_nh]; exact decide_eq_true (by omega)))
      · rintro σ H' ⟨v3, v4, v5, rfl, sm, wi⟩
        have e : rIn bs fs (some ns) = true := by
          have wi : within bs (fs.take (fs.map V.str).length) (ns.take (fs.map V.str).length) = true := wi
          rw [lf, List.take_length, ← ln, List.take_length] at wi
          exact wi
        rw [← e]
        exact kk H' sm
end
end GS

set_option linter.all false
set_option maxHeartbeats 4000000
namespace GS
open PySem L2 HX
def LsgAt (K : PySem.W.Frag) (H : Hp) (l : Lsg) (v : V) : Prop := ∃ p f s, v = .ref p ∧ SqT K H p [.str l.1, .ref f, .ref s] ∧ SqT K H f (l.2.1.map V.str) ∧ BdAt K H s l.2.2
theorem rg2 {ta tb' : TE} {g : TG} {tb u : TS} {D : Ends} {σ : L2.St} {H : Hp} (h : ta σ H fun x H1 => tb' σ H1 fun y H2 => ∃ i j : Int, [x, y] = [V.int i, V.int j] ∧ (-(2 ^ 62) ≤ i ∧ i < 2 ^ 62 ∧ -(2 ^ 62) ≤ j ∧ j < 2 ^ 62) ∧ (tFor (fun _ H R => R (Itr i (j - i).toNat) H) g tb) { D with nx := u D } σ H2) : tSeq (tFor (iRng2 (tCons ta (tCons tb' tNil))) g tb) u D σ H := h
theorem valV_mdk (z f : Str) : ∀ ms : List ((Str × Str) × Int), valV (mdkv ms) ([Sum.inr z, Sum.inr f] : List L2.Key) = (ms.find? fun m => decide (m.1 = (z, f))).map fun m => V.int m.2
  | [] => rfl
  | x :: ms => by
    by_cases e : x.1 = (z, f)
    · rw [List.find?_cons_of_pos (by simpa using e)]
      exact valV_pos (p := (([Sum.inr x.1.1, Sum.inr x.1.2] : List L2.Key), V.int x.2)) (by rw [e])
    · rw [List.find?_cons_of_neg (by simpa using e), ← valV_mdk z f ms]
      exact valV_neg (p := (([Sum.inr x.1.1, Sum.inr x.1.2] : List L2.Key), V.int x.2)) (fun q => e (by
        injection q with q1 q2
        injection q2 with q2 _
        exact Prod.ext (Sum.inr.inj q1) (Sum.inr.inj q2)))
theorem tin_ks {K : PySem.W.Frag} {H : Hp} : ∀ {kvs : List (Key × V)} {xs : List Tin}, Paired (TinAt K H) kvs xs → kvs.map (·.1) = (xs.map fun t => t.1).map Sum.inr
  | _, _, .nil => rfl
  | _, _, .cons h r => by rw [List.map_cons, List.map_cons, List.map_cons, tin_ks r, h.1]
/-- a row of a state, or none -/
theorem rk_look {H : Hp} {k : Int} {rkv : List (Key × V)} {rs : Rws} (h : Paired (RkR H) rkv rs) : RowAt H (lookR rs k) ((valV rkv (Sum.inl k : Key)).getD .non) := by
  by_cases m : k ∈ rs.map fun x => x.1
  · obtain ⟨v, ns, e, hv, el⟩ := rk_get h m
    rw [e, el]; exact hv
  · have nv : valV rkv (Sum.inl k : Key) = none := valV_none fun q => by
      rw [rk_keys h] at q
      obtain ⟨y, hy, ey⟩ := List.mem_map.mp q
      exact m (by rw [← Sum.inl.inj ey]; exact hy)
    have nl : lookR rs k = none := by
      unfold lookR
      rw [List.find?_eq_none.mpr fun x hx => by
        simp only [decide_eq_true_eq]
        exact fun e => m (List.mem_map.mpr ⟨x, hx, e⟩)]
      rfl
    rw [nv, nl]; rfl
def spDue (K : PySem.W.Frag) : Sp := fun vs H Q _ => ∃ (bk d p1 p2 : Addr) (own : List Addr) (B : BC) (n u : Int) (ls : List Lsg) (vs1 : List V), vs = [.ref bk, .ref d, .int u] ∧ BAt K H own bk B ∧ (∀ s ∈ B.states, SNd s) ∧ (B.tabs.map fun t => t.1).Nodup ∧ (B.made.map fun m => m.1).Nodup ∧ B.tabs.length ≤ 10 ∧ B.made.length ≤ 1000 ∧
  H d = some (.lst [.int n, .ref p1, .ref p2]) ∧ H p1 = some (.lst vs1) ∧ Paired (LsgAt K H) ls vs1 ∧ (∀ l ∈ ls, l.2.1.length ≤ 4) ∧ (∀ y ∈ B.kept, ∀ l ∈ ls, l.1 = y.1 → (∀ ns, y.2.2.2 = some ns → ns.length = l.2.1.length) ∧ ∀ x ns, befB B x y.1 y.2.1 = some ns → ns.length = l.2.1.length) ∧ 0 ≤ n ∧ n < 1000000 ∧ 0 ≤ u ∧ u ≤ (B.states.length : Nat) ∧ u < 1000000 ∧
  ∀ (o : Option Int) H', Same H H' → (o = none → ∀ x, n < x → x ≤ u → ¬ DueAt B ls x) → (∀ i, o = some i → n < i ∧ i ≤ u ∧ DueAt B ls i ∧ ∀ x, n < x → x < i → ¬ DueAt B ls x) → Q (oV o) H'
section
variable {P : Program} {w : World} {K : PySem.W.Frag} {mg : Str → Option Value} {base : Heap}
abbrev ndue : List Str := ["_law_b", "_law_d", "_law_upto", "_law_moment", "_law_name", "_law_pair", "_law_mark", "_law_at", "_law_row_here", "_law_before", "_law_table", "_law_fields", "_law_spans", "_law_both", "_law_one"]
theorem scDue : FnScope ["_law_b", "_law_d", "_law_upto", "_law_moment", "_law_name", "_law_pair", "_law_mark", "_law_at", "_law_row_here", "_law_before", "_law_table", "_law_fields", "_law_spans", "_law_both", "_law_one"] ["_law_b", "_law_d", "_law_upto"] (defScope s_l_due) := ⟨rfl, rfl, rfl, by decide +kernel, rfl, by decide +kernel, by decide +kernel⟩
theorem ok_due {f fi : Addr} {fd fdi : FuncData} (F : Fun K "_law_due" "_law_due" s_l_due f fd) (T : Txt mg) (Cin : Cal P w K mg base 1 "_law_in" ["_law_row_here", "_law_fields", "_law_spans"] (spInL K) fi fdi) : FnOk P w K mg base CX0 2 f fd ["_law_b", "_law_d", "_law_upto"] (spDue K) := by
  refine F.ok scDue (fun vs H Q E h => ?_) (fun cdv A outer s H vs Q E hr h => ?_)
  · obtain ⟨bk, d, p1, p2, own, B, n, u, ls, vs1, rfl, _⟩ := h
    rfl
  · obtain ⟨bk, d, p1, p2, own, B, n, u, ls, vs1, rfl, ba, snd, nd, mnd, lt10, lm, hd, h1, pl, l4, wid, n0, n6, u0, us, u6, kk⟩ := h
    have hr1 : Room 1 _ := hr
    have hu2 := Nat.lt_of_le_of_lt (Nat.add_le_add_left (show 2 ≤ 66 by decide) _) (room66 hr)
    have big : (100000 : Nat) < sizeLine := by decide
    refine ⟨_, (pss_cons (ps_for PassesOwn.never rfl (pi_range2 rfl T.range (pa_cons (pe_op op_add (pe_ix (RK.ixL (K := K)) (pv 1) pe_int (fun _ _ => rfl)) pe_int) (pa_cons (pe_op op_add (pv 2) pe_int) pa_nil))) (pg_name (i := 3) scDue.nd rfl (Or.inr rfl))
        (pss_cons (ps_if (pt_cmpR (NE.op_ne0 (K := K) hu2) (pe_lock (pe_lc (own := [("_law_name", 4)]) rfl scDue.nd (pi_keys (pe_dget (hu_of hr) (pv 0) pe_str (fun _ _ => rfl))) (blkOk_by (N := ["_law_b", "_law_d", "_law_upto", "_law_moment", "_law_name", "_law_pair", "_law_mark", "_law_at", "_law_row_here", "_law_before", "_law_table", "_law_fields", "_law_spans", "_law_both", "_law_one"]) (sc := defScope s_l_due) (by decide +kernel)) (fun _ _ _ _ _ => (pg_name (i := 4) scDue.nd rfl (Or.inl rfl))) (fun _ _ _ _ _ => (pts_one (pt_cmpR op_eq (pe_ix (RK.ixT (K := K)) (pe_dget (hu_of hr) (pe_dget (hu_of hr) (pv 0) pe_str (fun _ _ => rfl)) (pv 4) (fun _ _ => rfl)) pe_int (fun _ _ => rfl)) (pv 3) (nomark _)))) (fun _ _ _ _ _ => (pv 4)))) (pe_lst pa_nil) (nomark _)) (pss_one (ps_ret (pv 3))) pss_nil)
        (pss_cons (ps_if (pt_cmpR (NE.op_ne0 (K := K) hu2) (pe_lock (pe_lc (own := [("_law_pair", 5)]) rfl scDue.nd (pi_keys (pe_dget (hu_of hr) (pv 0) pe_str (fun _ _ => rfl))) (blkOk_by (N := ["_law_b", "_law_d", "_law_upto", "_law_moment", "_law_name", "_law_pair", "_law_mark", "_law_at", "_law_row_here", "_law_before", "_law_table", "_law_fields", "_law_spans", "_law_both", "_law_one"]) (sc := defScope s_l_due) (by decide +kernel)) (fun _ _ _ _ _ => (pg_name (i := 5) scDue.nd rfl (Or.inl rfl))) (fun _ _ _ _ _ => (pts_one (pt_cmpR op_eq (pe_dget (hu_of hr) (pe_dget (hu_of hr) (pv 0) pe_str (fun _ _ => rfl)) (pv 5) (fun _ _ => rfl)) (pv 3) (nomark _)))) (fun _ _ _ _ _ => (pv 5)))) (pe_lst pa_nil) (nomark _)) (pss_one (ps_ret (pv 3))) pss_nil)
        (pss_one (ps_for PassesOwn.never rfl (RK.piL (K := K) (pe_dget (hu_of hr) (pv 0) pe_str (fun _ _ => rfl))) (RK.pgTup (K := K) (n := 4) rfl (pgs_cons (pg_name (i := 4) scDue.nd rfl (Or.inl rfl)) (pgs_cons (pg_name (i := 6) scDue.nd rfl (Or.inl rfl)) (pgs_cons (pg_name (i := 7) scDue.nd rfl (Or.inl rfl)) (pgs_cons (pg_name (i := 8) scDue.nd rfl (Or.inl rfl)) pgs_nil)))))
          (pss_cons (ps_set (i := 9) scDue.nd rfl (Or.inl rfl) (pe_dget2 (hu_of hr) (pe_dget2 (hu_of hr) (pe_ix (RK.ixL (K := K)) (pe_dget (hu_of hr) (pv 0) pe_str (fun _ _ => rfl)) (pe_op op_sub (pv 3) pe_int) (fun _ _ => rfl)) (pv 4) pe_dnewK ⟨rfl, rfl, rfl, rfl⟩) (pv 6) pe_non ⟨rfl, rfl, rfl, rfl⟩))
          (pss_one (ps_for PassesOwn.never rfl (RK.piL (K := K) (pe_ix (RK.ixL (K := K)) (pv 1) pe_int (fun _ _ => rfl))) (RK.pgTup (K := K) (n := 3) rfl (pgs_cons (pg_name (i := 10) scDue.nd rfl (Or.inl rfl)) (pgs_cons (pg_name (i := 11) scDue.nd rfl (Or.inr rfl)) (pgs_cons (pg_name (i := 12) scDue.nd rfl (Or.inr rfl)) pgs_nil))))
            (pss_cons (ps_set (i := 13) scDue.nd rfl (Or.inl rfl) (pe_ifExp (PW.pt (pw_and (pt_cmpR op_eq (pv 7) (pv 3) (nomark _)) (pw_and1 (pt_cmpR op_eq (pv 10) (pv 4) (nomark _))))) (pe_lst (pa_cons (pv 8) (pa_cons (pv 9) pa_nil))) (pe_lst pa_nil)))
            (pss_one (ps_if (pt_cmpR (NE.op_ne0 (K := K) hu2) (pe_lc (own := [("_law_one", 14)]) rfl scDue.nd (RK.piL (K := K) (pv 13)) (blkOk_by (N := ["_law_b", "_law_d", "_law_upto", "_law_moment", "_law_name", "_law_pair", "_law_mark", "_law_at", "_law_row_here", "_law_before", "_law_table", "_law_fields", "_law_spans", "_law_both", "_law_one"]) (sc := defScope s_l_due) (by decide +kernel)) (fun _ _ _ _ _ => (pg_name (i := 14) scDue.nd rfl (Or.inl rfl))) (fun _ _ _ _ _ => (pts_one (pt_val (pe_call Cin.G hr1 (by rfl) Cin.g Cin.kp Cin.b .nil pass0 (pa_cons (pv 14) (pa_cons (pv 11) (pa_cons (pv 12) pa_nil))))))) (fun _ _ _ _ _ => (pv 14))) (pe_lst pa_nil) (nomark _)) (pss_one (ps_ret (pv 3))) pss_nil)))))))))))
      (pss_one (ps_ret pe_non))), ?_⟩
    obtain ⟨kvt, tb1, tb2⟩ := id ba.tb
    obtain ⟨vk, kp1, kp2⟩ := id ba.kp
    obtain ⟨us', u1, u2⟩ := id ba.st
    have lkt := pw_len tb2
    refine rg2 ⟨_, rfl, d, _, 0, .int n, rfl, rfl, SqL.of hd, at0, n, 1, rfl, rfl, _, rfl, u, 1, rfl, rfl, n + 1, u + 1, rfl, ⟨by omega, by omega, by omega, by omega⟩, ?_⟩
    refine for_it walk_range (fun i σ H' => (∃ v3 v4 v5 v6 v7 v8 v9 v10 v11 v12 v13 v14, σ = [some (.ref bk), some (.ref d), some (.int u), v3, v4, v5, v6, v7, v8, v9, v10, v11, v12, v13, v14]) ∧ Same H H' ∧ ∀ x, n < x → x ≤ n + (i : Nat) → ¬ DueAt B ls x)
      ⟨⟨none, none, none, none, none, none, none, none, none, none, none, none, rfl⟩, Same.refl H, fun x h1 h2 => by omega⟩ (fun _ _ _ _ _ => trivial) ?_ ?_
    · rintro i y σ H0 H1 hi ⟨⟨v3, v4, v5, v6, v7, v8, v9, v10, v11, v12, v13, v14, rfl⟩, sm, prior⟩ ⟨rfl, rfl⟩
      refine gn ?_
      dsimp only
      generalize hx : n + 1 + ((i : Nat) : Int) = x
      have nx : n < x := by omega
      have xu : x ≤ u := by omega
      have prior' : ∀ x', n < x' → x' < x → ¬ DueAt B ls x' := fun x' h1 h2 => prior x' h1 (by omega)
      have ret : ∀ H', Same H H' → DueAt B ls x → Q (.int x) H' := fun H' s h => kk (some x) H' s (fun e => by cases e) fun j e => by
        obtain rfl := Option.some.inj e
        exact ⟨nx, xu, h, prior'⟩
      have g1 : ∀ {H' : Hp}, H' bk = H bk → DGet H' bk (.str (Str.ofString "tables")) (some (.ref B.tb)) := fun {H'} e => g_all.1 (.ref B.tb) (.ref B.md) (.ref B.st) (.ref B.kp) ▸ DGet.k (k := Sum.inr (Str.ofString "tables")) (e.trans ba.h0)
      have g2 : ∀ {H' : Hp}, H' bk = H bk → DGet H' bk (.str (Str.ofString "made")) (some (.ref B.md)) := fun {H'} e => g_all.2.1 (.ref B.tb) (.ref B.md) (.ref B.st) (.ref B.kp) ▸ DGet.k (k := Sum.inr (Str.ofString "made")) (e.trans ba.h0)
      have g3 : ∀ {H' : Hp}, H' bk = H bk → DGet H' bk (.str (Str.ofString "states")) (some (.ref B.st)) := fun {H'} e => g_all.2.2.1 (.ref B.tb) (.ref B.md) (.ref B.st) (.ref B.kp) ▸ DGet.k (k := Sum.inr (Str.ofString "states")) (e.trans ba.h0)
      have g4 : ∀ {H' : Hp}, H' bk = H bk → DGet H' bk (.str (Str.ofString "kept")) (some (.ref B.kp)) := fun {H'} e => g_all.2.2.2 (.ref B.tb) (.ref B.md) (.ref B.st) (.ref B.kp) ▸ DGet.k (k := Sum.inr (Str.ofString "kept")) (e.trans ba.h0)
      have smk : ∀ {H' : Hp}, Same H H' → H' bk = H bk := fun {H'} s => (s _ _ ba.h0).trans ba.h0.symm
      -- tables of this moment
      refine sif ⟨B.tb, _, sm _ _ tb1, trivial, fun od => ?_⟩
      have nbt : bk ≠ B.tb := ba.ne.1
      refine ⟨_, rfl, bk, .ref B.tb, rfl, g1 ((upd_ne nbt).trans (smk sm)), B.tb, od, rfl, .inl ⟨kvt, upd_same, fun D hD => ?_⟩⟩
      have nDt : D ≠ B.tb := fun e => by rw [e, upd_same] at hD; cases hD
      have hD1 : H1 D = none := by rw [upd_ne nDt] at hD; exact hD
      have hDn : H D = none := none_of_same sm hD1
      have nDb : D ≠ bk := fun e => by rw [e, ba.h0] at hDn; cases hDn
      refine lc_it (walk_keys (kvs := kvt)) (fun i H' => H' B.tb = some (.frz od (.dK kvt)) ∧ (∀ b o, b ≠ D → b ≠ B.tb → H1 b = some o → H' b = some o) ∧ H' D = some (.lst (((B.tabs.take i).filter fun t => decide (t.2.1 = x)).map fun t => V.str t.1)))
        ⟨by rw [upd_ne (Ne.symm nDt), upd_same], fun b o n1 n2 e => by rw [upd_ne n1, upd_ne n2]; exact e, upd_same⟩ (fun i H' _ q => q.1) ?_ ?_
      · rintro i y H0 H' hi ⟨fz, kp, hd2⟩ ⟨rfl, k0, v0, ey, rfl⟩
        obtain ⟨t, et, ek, pt, ft, ev, q1, q2⟩ := pw_get' tb2 ey
        have ek : k0 = Sum.inr t.1 := ek
        have ev : v0 = .ref pt := ev
        subst ek ev
        have tkH : TK H H' := fun b w hw e => kp b w (ne_of_none e hDn) (ne_of e tb1 (by intro z; subst z; exact hw)) (sm _ _ e)
        have ebk : H' bk = H bk := (kp bk _ (Ne.symm nDb) nbt (sm _ _ ba.h0)).trans ba.h0.symm
        have ndk : (kvt.map (·.1)).Nodup := by
          have e := tin_ks tb2
          rw [e]
          exact List.Pairwise.map _ (fun a b h q => h (Sum.inr.inj q)) nd
        have dg : DGet H' B.tb (.str t.1) (some (.ref pt)) := .inl ⟨kvt, Sum.inr t.1, .inr ⟨od, fz⟩, rfl, (valV_mem ndk ey).symm⟩
        have tk1 : B.tabs.take (i + 1) = B.tabs.take i ++ [t] := by rw [List.take_add_one, et]; rfl
        refine ⟨rfl, _, rfl, bk, .ref B.tb, rfl, g1 ebk, _, rfl, B.tb, .ref pt, rfl, dg, pt, _, 0, _, rfl, rfl, sqt_keep tkH q1, at0, _, rfl, rfl, _, rfl, ?_⟩
        by_cases c : t.2.1 = x
        · rw [decide_eq_true (by rw [c])]
          refine iteT ⟨_, rfl, _, hd2, Nat.lt_of_le_of_lt (show _ ≤ 100000 by rw [List.length_map]; exact Nat.le_trans (List.length_filter_le _ _) (by rw [List.length_take]; omega)) big, by rw [upd_ne (Ne.symm nDt)]; exact fz, fun b o n1 n2 e => by rw [upd_ne n1]; exact kp b o n1 n2 e, ?_⟩
          rw [upd_same, tk1, List.filter_append, List.map_append, List.filter_cons, if_pos (by simpa using c)]; rfl
        · rw [decide_eq_false (fun e => c (by injection e))]
          refine iteF ⟨fz, kp, ?_⟩
          rw [tk1, List.filter_append, List.filter_cons, if_neg (by simpa using c)]
          exact hd2.trans (by simp)
      rintro H2 ⟨fz, kp, hd2⟩
      rw [lkt, List.take_length] at hd2
      refine ⟨fz, ?_⟩
      have s3 : Same H1 (upd H2 B.tb (.dK kvt)) := fun b o e => by
        by_cases z : b = B.tb
        · rw [z] at e ⊢
          rw [upd_same, ← sm _ _ tb1]; exact e
        · rw [upd_ne z]; exact kp b o (ne_of_none e hD1) z e
      have d3 : (upd H2 B.tb (.dK kvt)) D = some (.lst ((B.tabs.filter fun t => decide (t.2.1 = x)).map fun t => V.str t.1)) := by rw [upd_ne nDt]; exact hd2
      generalize upd H2 B.tb (.dK kvt) = H3 at s3 d3
      refine ⟨by show 0 ≤ sizeLine; decide, fun e he => ?_⟩
      have s4 := same_new (o := .lst []) he
      have e4 : (upd H3 e (.lst [])) e = some (.lst []) := upd_same
      have d4 := s4 _ _ d3
      generalize upd H3 e (.lst []) = H4 at s4 e4 d4
      have sm4 : Same H H4 := sm.trans (s3.trans s4)
      refine ⟨D, e, _, rfl, rfl, SqL.of d4, e4, _, rfl, ?_⟩
      by_cases ex : ∃ t ∈ B.tabs, t.2.1 = x
      · obtain ⟨t, ht, et⟩ := id ex
        have mf : t ∈ B.tabs.filter fun t => decide (t.2.1 = x) := List.mem_filter.mpr ⟨ht, decide_eq_true et⟩
        rw [show (((B.tabs.filter fun t => decide (t.2.1 = x)).map fun t => V.str t.1).isEmpty) = false by
          cases e : B.tabs.filter fun t => decide (t.2.1 = x) with
          | nil => rw [e] at mf; cases mf
          | cons a l => rfl]
        exact iteT ⟨_, rfl, ret H4 sm4 (.inl ex)⟩
      rw [show (((B.tabs.filter fun t => decide (t.2.1 = x)).map fun t => V.str t.1).isEmpty) = true by
        rw [List.filter_eq_nil_iff.mpr fun t ht => by
          simp only [decide_eq_true_eq]
          exact fun e => ex ⟨t, ht, e⟩]
        rfl]
      refine iteF ?_
      dsimp only [tNext]
      clear hd2 kp fz hD hD1 hDn nDt nDb d3 d4 e4 he s3 s4
      -- indexes of this moment
      refine sif ⟨B.md, _, sm4 _ _ ba.md, trivial, fun od => ?_⟩
      have nbm : bk ≠ B.md := fun e => by
        have z := ba.h0
        rw [e, ba.md] at z; cases z
      refine ⟨_, rfl, bk, .ref B.md, rfl, g2 ((upd_ne nbm).trans (smk sm4)), B.md, od, rfl, .inr ⟨mdkv B.made, upd_same, fun D hD => ?_⟩⟩
      have nDt : D ≠ B.md := fun e => by rw [e, upd_same] at hD; cases hD
      have hD1 : H4 D = none := by rw [upd_ne nDt] at hD; exact hD
      have hDn : H D = none := none_of_same sm4 hD1
      have nDb : D ≠ bk := fun e => by rw [e, ba.h0] at hDn; cases hDn
      have lmk : (mdkv B.made).length = B.made.length := List.length_map ..
      refine lc_it (walk_keysT (kvs := mdkv B.made)) (fun i H' => H' B.md = some (.frz od (.dT (mdkv B.made))) ∧ (∀ b o, b ≠ D → b ≠ B.md → H4 b = some o → H' b = some o) ∧ ∃ acc, H' D = some (.lst acc) ∧ acc.length ≤ i ∧ (acc = [] ↔ ∀ m ∈ B.made.take i, m.2 ≠ x))
        ⟨by rw [upd_ne (Ne.symm nDt), upd_same], fun b o n1 n2 e => by rw [upd_ne n1, upd_ne n2]; exact e, [], upd_same, Nat.le_refl _, ⟨fun _ m hm => (by rw [List.take_zero] at hm; cases hm), fun _ => rfl⟩⟩ (fun i H' _ q => q.1) ?_ ?_
      · rintro i y H0 H' hi ⟨fz, kp, acc, hd2, la, iff⟩ ⟨rfl, k0, v0, q, ey, rfl, hq⟩
        have hi2 : i < B.made.length := lmk ▸ hi
        have em : B.made[i]? = some B.made[i] := List.getElem?_eq_getElem hi2
        generalize B.made[i] = m at em
        have e2 : (mdkv B.made)[i]? = some (([Sum.inr m.1.1, Sum.inr m.1.2] : List L2.Key), V.int m.2) := by unfold mdkv; rw [List.getElem?_map, em]; rfl
        rw [e2] at ey
        obtain ⟨rfl, rfl⟩ := Prod.mk.inj (Option.some.inj ey)
        have ebk : H' bk = H bk := (kp bk _ (Ne.symm nDb) nbm (sm4 _ _ ba.h0)).trans ba.h0.symm
        have ev : valV (mdkv B.made) ([Sum.inr m.1.1, Sum.inr m.1.2] : List L2.Key) = some (.int m.2) := by
          rw [valV_mdk]
          cases e : B.made.find? fun y => decide (y.1 = (m.1.1, m.1.2)) with
          | none => have q := List.find?_eq_none.mp e m (List.mem_of_getElem? em); simp at q
          | some z =>
            have ez : z.1 = m.1 := by simpa using List.find?_some e
            rw [nodup_inj (f := fun x : (Str × Str) × Int => x.1) mnd (List.mem_of_find?_eq_some e) (List.mem_of_getElem? em) ez]; rfl
        have dg : DGet H' B.md (.ref q) (some (.int m.2)) := .inr ⟨_, [Sum.inr m.1.1, Sum.inr m.1.2], q, .inr ⟨od, fz⟩, rfl, hq, ev.symm⟩
        have tk1 : B.made.take (i + 1) = B.made.take i ++ [m] := by rw [List.take_add_one, em]; rfl
        refine ⟨rfl, _, rfl, bk, .ref B.md, rfl, g2 ebk, _, rfl, B.md, .int m.2, rfl, dg, _, rfl, rfl, _, rfl, ?_⟩
        by_cases c : m.2 = x
        · rw [decide_eq_true (by rw [c])]
          refine iteT ⟨_, rfl, _, hd2, Nat.lt_of_le_of_lt (show _ ≤ 100000 by omega) big, by rw [upd_ne (Ne.symm nDt)]; exact fz, fun b o n1 n2 e => by rw [upd_ne n1]; exact kp b o n1 n2 e, _, upd_same, by rw [List.length_append]; exact Nat.succ_le_succ la, ⟨fun e => by simp at e, fun h => absurd c (h m (by rw [tk1]; exact List.mem_append_right _ (List.mem_singleton.mpr rfl)))⟩⟩
        · rw [decide_eq_false (fun e => c (by injection e))]
          refine iteF ⟨fz, kp, acc, hd2, Nat.le_succ_of_le la, iff.trans ⟨fun h m' hm => ?_, fun h m' hm => h m' (by rw [tk1]; exact List.mem_append_left _ hm)⟩⟩
          rw [tk1] at hm
          rcases List.mem_append.mp hm with q | q
          · exact h m' q
          · rw [List.mem_singleton.mp q]; exact c
      rintro H2 ⟨fz, kp, acc, hd2, la, iff⟩
      rw [lmk, List.take_length] at iff
      refine ⟨fz, ?_⟩
      have s3 : Same H4 (upd H2 B.md (.dT (mdkv B.made))) := fun b o e => by
        by_cases z : b = B.md
        · rw [z] at e ⊢
          rw [upd_same, ← sm4 _ _ ba.md]; exact e
        · rw [upd_ne z]; exact kp b o (ne_of_none e hD1) z e
      have d3 : (upd H2 B.md (.dT (mdkv B.made))) D = some (.lst acc) := by rw [upd_ne nDt]; exact hd2
      generalize upd H2 B.md (.dT (mdkv B.made)) = H3 at s3 d3
      refine ⟨by show 0 ≤ sizeLine; decide, fun e he => ?_⟩
      have s4 := same_new (o := .lst []) he
      have e4 : (upd H3 e (.lst [])) e = some (.lst []) := upd_same
      have d4 := s4 _ _ d3
      generalize upd H3 e (.lst []) = H5 at s4 e4 d4
      have sm5 : Same H H5 := sm4.trans (s3.trans s4)
      refine ⟨D, e, _, rfl, rfl, SqL.of d4, e4, _, rfl, ?_⟩
      cases ea : acc with
      | cons a0 al =>
        refine iteT ⟨_, rfl, ret H5 sm5 (.inr (.inl ?_))⟩
        refine Classical.byContradiction fun no => ?_
        have z := iff.mpr fun m hm e => no ⟨m, hm, e⟩
        rw [ea] at z; cases z
      | nil =>
        have nom : ∀ m ∈ B.made, m.2 ≠ x := iff.mp ea
        refine iteF ?_
        dsimp only [tNext]
        clear hd2 kp fz hD hD1 hDn nDt nDb d3 d4 e4 he s3 s4 la iff ea acc sm4
        -- rows of this moment
        have x1 : 1 ≤ x := by omega
        have lst : (x - 1).toNat < B.states.length := by omega
        have es := List.getElem?_eq_getElem lst
        generalize B.states[(x - 1).toNat] = s0 at es
        have sn0 := snd s0 (List.mem_of_getElem? es)
        obtain ⟨sv, esv, so, ssub, sndo, sa, rl, rfl, seo, a1, a2⟩ := pw_get' u2 es
        have bef : ∀ z k, befB B x z k = lookS s0 z k := fun z k => by unfold befB; rw [es]
        have xm : x - 1 = (((x - 1).toNat : Nat) : Int) := by omega
        refine ⟨_, rfl, bk, .ref B.kp, rfl, g4 (smk sm5), B.kp, rfl, ⟨_, SqL.of (sm5 _ _ kp1)⟩, ?_⟩
        refine for_it (walk_list (xs := vk)) (fun j σ H' => (∃ v4 v5 v6 v7 v8 v9 v10 v11 v12 v13 v14, σ = [some (.ref bk), some (.ref d), some (.int u), some (.int x), v4, v5, v6, v7, v8, v9, v10, v11, v12, v13, v14]) ∧ Same H H' ∧ ∀ y ∈ B.kept.take j, y.2.2.1 = x → ∀ l ∈ ls, l.1 = y.1 → rIn l.2.2 l.2.1 y.2.2.2 = false ∧ rIn l.2.2 l.2.1 (befB B x y.1 y.2.1) = false)
          ⟨⟨_, _, _, _, _, _, _, _, _, _, _, rfl⟩, sm5, fun y hy => by rw [List.take_zero] at hy; cases hy⟩ (fun j σ H' _ q => SqL.of (q.2.1 _ _ kp1)) ?_ ?_
        · rintro j y σ H6 H7 hj ⟨⟨w4, w5, w6, w7, w8, w9, w10, w11, w12, w13, w14, rfl⟩, sm7, pr7⟩ ⟨rfl, ey⟩
          obtain ⟨yk, eyk, pk, rv, rfl, q1, q2⟩ := pw_get kp2 ey
          have my := List.mem_of_getElem? eyk
          obtain ⟨z, k, at_, row⟩ := yk
          have tk1 : B.kept.take (j + 1) = B.kept.take j ++ [(z, k, at_, row)] := by rw [List.take_add_one, eyk]; rfl
          refine ⟨pk, _, rfl, sqt_keep (TK.same sm7) q1, rfl, _, _, rfl, gn ⟨_, _, rfl, gn ⟨_, _, rfl, gn ⟨_, _, rfl, gn ⟨rfl, ?_⟩⟩⟩⟩⟩
          refine sa1 ⟨_, rfl, bk, .ref B.st, rfl, g3 (smk sm7), _, rfl, x, 1, rfl, rfl, B.st, us', x - 1, .ref sa, rfl, rfl, SqL.of (sm7 _ _ u1), by rw [xm]; exact atI_nat esv, sa, rfl, .inl ⟨_, .inl (sm7 _ _ a1)⟩, _, rfl, ?_⟩
          intro e he
          have s1 := same_new (o := .dK []) he
          have e1 : (upd H7 e (.dK [])) e = some (.dK []) := upd_same
          generalize upd H7 e (.dK []) = H8 at s1 e1
          have sm8 := sm7.trans s1
          refine ⟨valV (skvS s0 rl) (Sum.inr z), DGet.k (k := Sum.inr z) (sm8 _ _ a1), ?_⟩
          obtain ⟨r, rkv, er, r1, r2⟩ : ∃ r rkv, (valV (skvS s0 rl) (Sum.inr z : Key)).getD (.ref e) = .ref r ∧ H8 r = some (.dK rkv) ∧ Paired (RkR H8) rkv (rowsZ s0 z) := by
            by_cases mt : z ∈ s0.map fun x => x.1
            · obtain ⟨r, xr, _, mx, ex, ev, rkv, f1, f2⟩ := skvS_get a2 mt
              rw [ev, ← ex, rowsZ_of sn0.nd mx]
              exact ⟨r, rkv, rfl, sm8 _ _ f1, pw_imp (fun _ _ ⟨g1, g2⟩ => ⟨g1, RowAt.keep (TK.same sm8) g2⟩) f2⟩
            · have nv : valV (skvS s0 rl) (Sum.inr z : Key) = none := valV_none fun m => by
                rw [skvS_keys (pw_len a2)] at m
                obtain ⟨y, hy, ey⟩ := List.mem_map.mp m
                exact mt (List.mem_map.mpr ⟨y, hy, Sum.inr.inj ey⟩)
              rw [rowsZ_not mt, nv]
              exact ⟨e, [], rfl, e1, .nil⟩
          rw [er]
          refine ⟨r, rfl, .inl ⟨_, .inl r1⟩, _, rfl, valV rkv (Sum.inl k), DGet.k (k := Sum.inl k) r1, gn ?_⟩
          have hb := rk_look (k := k) r2
          rw [show lookR (rowsZ s0 z) k = befB B x z k from (bef z k).symm] at hb
          have hrow := RowAt.keep (TK.same sm8) q2
          generalize (valV rkv (Sum.inl k : Key)).getD V.non = bv at hb
          generalize hbr : befB B x z k = br at hb
          have widr := fun l hl e => (wid _ my l hl e).1
          have widb : ∀ l ∈ ls, l.1 = z → ∀ ns, br = some ns → ns.length = l.2.1.length := fun l hl e ns en => (wid _ my l hl e).2 x ns (hbr.trans en)
          clear er r1 r2 e1 he s1
          refine ⟨_, rfl, d, _, 1, .ref p1, rfl, rfl, SqL.of (sm8 _ _ hd), rfl, p1, rfl, ⟨_, SqL.of (sm8 _ _ h1)⟩, ?_⟩
          refine for_it (walk_list (xs := vs1)) (fun i σ H' => (∃ v5 v10 v11 v12 v13 v14, σ = [some (.ref bk), some (.ref d), some (.int u), some (.int x), some (.str z), v5, some (.int k), some (.int at_), some rv, some bv, v10, v11, v12, v13, v14]) ∧ Same H H' ∧ RowAt H' row rv ∧ RowAt H' br bv ∧ (at_ = x → ∀ l ∈ ls.take i, l.1 = z → rIn l.2.2 l.2.1 row = false ∧ rIn l.2.2 l.2.1 br = false))
            ⟨⟨_, _, _, _, _, _, rfl⟩, sm8, hrow, hb, fun _ l hl => by rw [List.take_zero] at hl; cases hl⟩ (fun i σ H' _ q => SqL.of (q.2.1 _ _ h1)) ?_ ?_
          · rintro i y σ H9 HA hi ⟨⟨x5, x10, x11, x12, x13, x14, rfl⟩, smA, rA, bA, prA⟩ ⟨rfl, ey2⟩
            obtain ⟨l, el, lp, lf, lsp, rfl, o1, o2, o3⟩ := pw_get pl ey2
            have ml := List.mem_of_getElem? el
            have tkl : ls.take (i + 1) = ls.take i ++ [l] := by rw [List.take_add_one, el]; rfl
            refine ⟨lp, _, rfl, sqt_keep (TK.same smA) o1, rfl, _, _, rfl, gn ⟨_, _, rfl, gn ⟨_, _, rfl, gn ⟨rfl, ?_⟩⟩⟩⟩
            refine sa1 (teR (fun v H' => ∃ L0, v = .ref L0 ∧ H' L0 = some (.lst (if at_ = x ∧ l.1 = z then [rv, bv] else [])) ∧ Same HA H') ?_ fun fin => ?_)
            · rintro v HB ⟨L0, rfl, hL0, sB⟩
              refine gn ?_
              have smB := smA.trans sB
              have rB := RowAt.keep (TK.same sB) rA
              have bB := RowAt.keep (TK.same sB) bA
              have o2B := sqt_keep (TK.same (smA.trans sB)) o2
              have o3B := o3.same (smA.trans sB)
              obtain ⟨rl2, bl, ebl, prl, hrl⟩ : ∃ (rl2 : List (Option Row)) (bl : List V), (if at_ = x ∧ l.1 = z then [rv, bv] else []) = bl ∧ Paired (fun r v => RowAt HB r v ∧ ∀ ns, r = some ns → ns.length = l.2.1.length) rl2 bl ∧ ((at_ = x ∧ l.1 = z ∧ rl2 = [row, br]) ∨ (¬ (at_ = x ∧ l.1 = z) ∧ rl2 = [])) := by
                by_cases c : at_ = x ∧ l.1 = z
                · exact ⟨[row, br], [rv, bv], if_pos c, .cons ⟨rB, widr l ml c.2⟩ (.cons ⟨bB, widb l ml c.2⟩ .nil), .inl ⟨c.1, c.2, rfl⟩⟩
                · exact ⟨[], [], if_neg c, .nil, .inr ⟨c, rfl⟩⟩
              rw [ebl] at hL0
              have lb2 : bl.length ≤ 2 := by
                rw [← pw_len prl]
                rcases hrl with ⟨_, _, e⟩ | ⟨_, e⟩ <;> rw [e] <;> simp
              refine ifs ⟨_, rfl, L0, rfl, ⟨_, SqL.of hL0⟩, fun D hD => ?_⟩
              refine lc_it (walk_list (xs := bl)) (fun i H' => (∀ b o, b ≠ D → HB b = some o → H' b = some o) ∧ ∃ acc, H' D = some (.lst acc) ∧ acc.length ≤ i ∧ (acc = [] ↔ ∀ r ∈ rl2.take i, rIn l.2.2 l.2.1 r = false))
                ⟨fun b o n e => by rw [upd_ne n]; exact e, [], upd_same, Nat.le_refl _, ⟨fun _ r hr => (by rw [List.take_zero] at hr; cases hr), fun _ => rfl⟩⟩ (fun i H' _ q => SqL.of (q.1 _ _ (ne_of_none hL0 hD) hL0)) ?_ ?_
              · rintro i2 y2 H0' HC hi2 ⟨kp, acc, hd2, la, iff⟩ ⟨rfl, ey3⟩
                obtain ⟨r, er, hr1', hr2'⟩ := pw_get prl ey3
                have sC : Same HB HC := fun b o e => kp b o (ne_of_none e hD) e
                have tkr : rl2.take (i2 + 1) = rl2.take i2 ++ [r] := by rw [List.take_add_one, er]; rfl
                refine ⟨rfl, _, rfl, _, rfl, _, rfl, lf, lsp, y2, r, l.2.1, l.2.2, rfl, RowAt.keep (TK.same sC) hr1', sqt_keep (TK.same sC) o2B, l4 l ml, o3B.same sC, hr2', fun HD sD => ⟨_, rfl, ?_⟩⟩
                have hdD := sD _ _ hd2
                have kpD : ∀ b o, b ≠ D → HB b = some o → HD b = some o := fun b o n e => sD _ _ (kp b o n e)
                cases c : rIn l.2.2 l.2.1 r with
                | true =>
                  refine iteT ⟨_, rfl, _, hdD, Nat.lt_of_le_of_lt (show _ ≤ 100000 by have : i2 < bl.length := hi2; omega) big, fun b o n e => by rw [upd_ne n]; exact kpD b o n e, _, upd_same, by rw [List.length_append]; exact Nat.succ_le_succ la, ⟨fun e => by simp at e, fun h => ?_⟩⟩
                  have z := h r (by rw [tkr]; exact List.mem_append_right _ (List.mem_singleton.mpr rfl))
                  rw [c] at z; cases z
                | false =>
                  refine iteF ⟨kpD, acc, hdD, Nat.le_succ_of_le la, iff.trans ⟨fun h r' hr => ?_, fun h r' hr => h r' (by rw [tkr]; exact List.mem_append_left _ hr)⟩⟩
                  rw [tkr] at hr
                  rcases List.mem_append.mp hr with q | q
                  · exact h r' q
                  · rw [List.mem_singleton.mp q]; exact c
              · rintro HC ⟨kp, acc, hd2, la, iff⟩
                rw [← pw_len prl, List.take_length] at iff
                have sC : Same HB HC := fun b o e => kp b o (ne_of_none e hD) e
                refine ⟨by show 0 ≤ sizeLine; decide, fun e he => ?_⟩
                have s4 := same_new (o := .lst []) he
                have e4 : (upd HC e (.lst [])) e = some (.lst []) := upd_same
                have d4 := s4 _ _ hd2
                generalize upd HC e (.lst []) = HD at s4 e4 d4
                have sD := sC.trans s4
                have smD := smB.trans sD
                refine ⟨D, e, _, rfl, rfl, SqL.of d4, e4, _, rfl, ?_⟩
                cases ea : acc with
                | cons a0 al =>
                  refine iteT ⟨_, rfl, ret HD smD (.inr (.inr ?_))⟩
                  refine Classical.byContradiction fun no => ?_
                  have zz := iff.mpr fun r hr => Bool.eq_false_iff.mpr fun ht => no ?_
                  · rw [ea] at zz; cases zz
                  · rcases hrl with ⟨c1, c2, e⟩ | ⟨_, e⟩
                    · rw [e] at hr
                      refine ⟨(z, k, at_, row), my, c1, l, ml, c2, ?_⟩
                      show rIn l.2.2 l.2.1 row = true ∨ rIn l.2.2 l.2.1 (befB B x z k) = true
                      rw [hbr]
                      rcases List.mem_cons.mp hr with q | q
                      · exact .inl (q ▸ ht)
                      · exact .inr (List.mem_singleton.mp q ▸ ht)
                    · rw [e] at hr; cases hr
                | nil =>
                  have all := iff.mp ea
                  refine iteF ⟨⟨_, _, _, _, _, _, rfl⟩, smD, RowAt.keep (TK.same sD) rB, RowAt.keep (TK.same sD) bB, fun ea l' hl' el' => ?_⟩
                  rw [tkl] at hl'
                  rcases List.mem_append.mp hl' with q | q
                  · exact prA ea l' q el'
                  · have el2 := List.mem_singleton.mp q
                    rw [el2] at el' ⊢
                    rcases hrl with ⟨c1, c2, e⟩ | ⟨c, _⟩
                    · rw [e] at all
                      exact ⟨all _ (List.mem_cons_self ..), all _ (List.mem_cons_of_mem _ (List.mem_cons_self ..))⟩
                    · exact absurd ⟨ea, el'⟩ c
            · refine ⟨_, rfl, _, rfl, rfl, _, rfl, ?_⟩
              by_cases c1 : at_ = x
              · rw [decide_eq_true (by rw [c1])]
                refine iteT ⟨_, rfl, _, rfl, rfl, _, rfl, ?_⟩
                by_cases c2 : l.1 = z
                · rw [decide_eq_true (by rw [c2])]
                  refine iteT ⟨_, rfl, _, rfl, by show 2 ≤ sizeLine; decide, fun L0 h0 => fin _ _ ⟨L0, rfl, ?_, same_new h0⟩⟩
                  rw [upd_same, if_pos ⟨c1, c2⟩]
                · rw [decide_eq_false (fun e => c2 (by injection e))]
                  refine iteF ⟨by show 0 ≤ sizeLine; decide, fun L0 h0 => fin _ _ ⟨L0, rfl, ?_, same_new h0⟩⟩
                  rw [upd_same, if_neg (fun h => c2 h.2)]
              · rw [decide_eq_false (fun e => c1 (by injection e))]
                refine iteF (iteF ⟨by show 0 ≤ sizeLine; decide, fun L0 h0 => fin _ _ ⟨L0, rfl, ?_, same_new h0⟩⟩)
                rw [upd_same, if_neg (fun h => c1 h.1)]
          · rintro σ H9 ⟨⟨x5, x10, x11, x12, x13, x14, rfl⟩, smA, rA, bA, prA⟩
            have ll := pw_len pl
            rw [← ll, List.take_length] at prA
            refine ⟨⟨_, _, _, _, _, _, _, _, _, _, _, rfl⟩, smA, fun y hy e l hl el => ?_⟩
            rw [tk1] at hy
            rcases List.mem_append.mp hy with q | q
            · exact pr7 y q e l hl el
            · rw [List.mem_singleton.mp q] at e el ⊢
              rw [show befB B x (z, k, at_, row).1 (z, k, at_, row).2.1 = br from hbr]
              exact prA e l hl el
        · rintro σ H6 ⟨⟨w4, w5, w6, w7, w8, w9, w10, w11, w12, w13, w14, rfl⟩, sm7, pr7⟩
          have lk := pw_len kp2
          rw [← lk, List.take_length] at pr7
          refine ⟨⟨_, _, _, _, _, _, _, _, _, _, _, _, rfl⟩, sm7, fun x' h1' h2' => ?_⟩
          by_cases c : x' < x
          · exact prior' x' h1' c
          · have e : x' = x := by omega
            rw [e]
            rintro (h | ⟨m, hm, em⟩ | ⟨y, hy, ey, l, hl, el, hr⟩)
            · exact ex h
            · exact nom m hm em
            · have z := pr7 y hy ey l hl el
              rw [z.1, z.2] at hr
              rcases hr with q | q <;> cases q
    · rintro σ H' ⟨⟨v3, v4, v5, v6, v7, v8, v9, v10, v11, v12, v13, v14, rfl⟩, sm, prior⟩
      refine kk none H' sm (fun _ x h1 h2 => prior x h1 ?_) fun i e => by cases e
      have z : ((u + 1 - (n + 1)).toNat : Int) = u + 1 - (n + 1) ∨ u + 1 - (n + 1) < 0 := by omega
      omega
end
end GS

set_option linter.all false
set_option maxHeartbeats 4000000
namespace TH
open PySem PySem.Spec PyProof.Rows L2
section
variable {X : Cx}
def rIsG (K : PySem.W.Frag) (a : Addr) (cls : Value) (d : Option Addr) : List V → Hp → VK → Prop := fun xs H Q => ∃ (D : Addr) (c : V) (cv : Value) (b : Bool), cls = .ref D ∧ d = none ∧ ExcC K D ∧ xs = [.ref a, c] ∧ (∀ u, RelV c u → u = cv) ∧ PySem.W.kitOne K (.ref D) cv = some b ∧ Q (.bl b) H
/-- isinstance(e, c) in a suite, whatever was caught -/
theorem call_isG {a : Addr} {oe : Obj} {cls : Value} {d : Option Addr} {pn : List (Addr × Obj)} (hz : Zc cls d oe) (hf : ∃ vs, oe.data = .fields vs) {K : PySem.W.Frag} (h : X.K = K := by rfl) : CallR (X.suite a ((a, oe) :: pn)) (.builtin "isinstance") (rIsG K a cls d) := by
  subst h
  intro pins s σ H xs us Q I r h
  obtain ⟨D, c, cv, b, rfl, rfl, C, e1, e2, e3, q⟩ := h
  exact call_isE C hz hf pins s σ H xs us Q I r ⟨c, cv, b, e1, e2, e3, q⟩
theorem upd_none1 {H : Hp} {a b : Addr} {o : HO} (e : upd H a o b = none) : H b = none := by
  unfold upd at e
  split at e
  · cases e
  · exact e
theorem countP_eq {y : V} : ∀ {ys : List V} {its : List Value}, Vals ys its → ys.all flatV = true → its.countP (eqU y) = ys.countP fun z => eqV z y
  | _, _, .nil, _ => rfl
  | z :: ys, u :: its, .cons r t, f => by
    rw [List.all_cons, Bool.and_eq_true] at f
    rw [List.countP_cons, List.countP_cons, countP_eq t f.2, eqU_of r f.1]
def rCntF (K : PySem.W.Frag) : V → List V → Hp → VK → Prop := fun x xs H Q => ∃ (a : Addr) (ys : List V) (y : V), x = V.ref a ∧ xs = [y] ∧ SqL K H a ys ∧ flatV y = true ∧ ys.all flatV = true ∧ Q (.int ((ys.countP fun z => eqV z y) : Nat)) H
theorem mt_countF {K : PySem.W.Frag} (h : X.K = K := by rfl) : MtR X "list.count" (rCntF K) := by
  subst h
  intro pins s σ H x xs v us Q I rx rxs h
  obtain ⟨a, ys, y, rfl, rfl, hs, fy, fys, q⟩ := h
  cases rx
  cases rxs with
  | cons ry rt =>
    rename_i uy ut
    cases rt
    obtain ⟨its, rv, ⟨⟨cls, dd, data, sl⟩, n, ho, hc, hdn, hd⟩, hlen⟩ := I.list hs
    simp only at hc hd
    subst hc hd
    refine call_meets PySem.F.slot_list_count ⟨_, ho, rfl⟩ PySem.F.entry_list_count (PySem.F.args_list_count_2 _ _)
      (SeqAt.list_countAt a its.toArray n dd sl uy (eqU y)) ⟨ho, fun u' hu' => mem_eqAt ry fy rv fys u' (by simpa using hu'), ?_⟩
    refine ⟨.int ((ys.countP fun z => eqV z y) : Nat), H, I.tok _, ⟨s.toks, ?_⟩, q⟩
    show Value.int ((its.toArray.toList.countP (eqU y) : Nat) : Int) s.toks = _
    rw [← countP_eq rv fys]
end
end TH
namespace GS
open PySem L2 HX
structure TxtE (K : PySem.W.Frag) (mg : Str → Option Value) (CS c1 c2 c3 c4 c5 c6 c7 c8 c9 : Addr) : Prop extends Txt mg where
  g1 : mg "BadName" = some (.ref c1)
  g2 : mg "BadNumber" = some (.ref c2)
  g3 : mg "BadPlan" = some (.ref c3)
  g4 : mg "BadRow" = some (.ref c4)
  g5 : mg "BadText" = some (.ref c5)
  g6 : mg "Gone" = some (.ref c6)
  g7 : mg "TooGreat" = some (.ref c7)
  g8 : mg "Twice" = some (.ref c8)
  g9 : mg "Within" = some (.ref c9)
  gS : mg "StoreError" = some (.ref CS)
  ve : mg "ValueError" = none
/-- D is the j-th of the kinds -/
structure IsErr (K : PySem.W.Frag) (CS c1 c2 c3 c4 c5 c6 c7 c8 c9 D : Addr) (j : Nat) : Prop where
  ex : ExcC K D
  st : PySem.W.exmOne K (.ref D) (.ref CS) = some true
  ve : PySem.W.kitOne K (.ref D) (.type "ValueError") = some true
  lt : j < 9
  k1 : PySem.W.kitOne K (.ref D) (.ref c1) = some (decide (j = 0))
  k2 : PySem.W.kitOne K (.ref D) (.ref c2) = some (decide (j = 1))
  k3 : PySem.W.kitOne K (.ref D) (.ref c3) = some (decide (j = 2))
  k4 : PySem.W.kitOne K (.ref D) (.ref c4) = some (decide (j = 3))
  k5 : PySem.W.kitOne K (.ref D) (.ref c5) = some (decide (j = 4))
  k6 : PySem.W.kitOne K (.ref D) (.ref c6) = some (decide (j = 5))
  k7 : PySem.W.kitOne K (.ref D) (.ref c7) = some (decide (j = 6))
  k8 : PySem.W.kitOne K (.ref D) (.ref c8) = some (decide (j = 7))
  k9 : PySem.W.kitOne K (.ref D) (.ref c9) = some (decide (j = 8))
def kinds : List Str := ["BadName", "BadNumber", "BadPlan", "BadRow", "BadText", "Gone", "TooGreat", "Twice", "Within"]
def bits (j : Nat) : List Bool := [decide (j = 0), decide (j = 1), decide (j = 2), decide (j = 3), decide (j = 4), decide (j = 5), decide (j = 6), decide (j = 7), decide (j = 8)]
theorem bits_count : ∀ j, j < 9 → (((bits j).map V.bl).countP fun z => eqV z (.bl true)) = 1 := by decide
theorem bits_at : ∀ j, j < 9 → ((bits j).map V.bl)[j]? = some (.bl true) ∧ ∀ m z, m < j → ((bits j).map V.bl)[m]? = some z → eqV z (.bl true) = false := by
  intro j h
  refine ⟨?_, fun m z hm hz => ?_⟩
  · revert j; decide
  · have a : ∀ j, j < 9 → ∀ m, m < j → ((bits j).map V.bl)[m]? = some (.bl false) := by decide
    rw [a j h m hm] at hz
    cases hz
    rfl
theorem kinds_at {j : Nat} (h : j < 9) : ∃ nm, kinds[j]? = some nm := ⟨kinds[j]'h, List.getElem?_eq_getElem h⟩
/-- told: what the work tells, or its error's name -/
def spTld (P : Program) (w : World) (K : PySem.W.Frag) (mg : Str → Option Value) (base : Heap) (k : Nat) (CS c1 c2 c3 c4 c5 c6 c7 c8 c9 : Addr) : Sp := fun vs H Q _ => ∃ f T Eb, vs = [.ref f] ∧ TH.Thunk P w K mg base k H f T ∧
  T H Q Eb ∧ ∀ cls d H1, Eb cls d H1 → ∃ D j nm, cls = .ref D ∧ d = none ∧ IsErr K CS c1 c2 c3 c4 c5 c6 c7 c8 c9 D j ∧ kinds[j]? = some nm ∧ ∀ p H', Same H1 H' → H1 p = none → H' p = some (.tup [.str nm, .int 0]) → Q (.ref p) H'
section
variable {P : Program} {w : World} {K : PySem.W.Frag} {mg : Str → Option Value} {base : Heap} {CS c1 c2 c3 c4 c5 c6 c7 c8 c9 : Addr}
theorem scTld : FnScope ["_law_work", "e", "_law_kinds", "_law_words"] ["_law_work"] (defScope s_l_told) := ⟨rfl, rfl, rfl, by decide +kernel, rfl, by decide +kernel, by decide +kernel⟩
theorem ok_tld {k : Nat} {f : Addr} {fd : FuncData} (F : Fun K "_law_told" "_law_told" s_l_told f fd) (T : Txt mg) (TE : TxtE K mg CS c1 c2 c3 c4 c5 c6 c7 c8 c9) : FnOk P w K mg base CX0 (k + 1) f fd ["_law_work"] (spTld P w K mg base k CS c1 c2 c3 c4 c5 c6 c7 c8 c9) := by
  refine F.ok scTld (fun vs H Q E h => ?_) (fun cdv A outer s H vs Q E hr h => ?_)
  · obtain ⟨f, T, Eb, rfl, _⟩ := h
    rfl
  · obtain ⟨f', TT, Eb, rfl, th, q, hE⟩ := h
    have hr1 : Room k _ := hr
    refine ⟨_, pss_one (ps_try_as (i := 1) rfl rfl scTld.nd rfl rfl ⟨by rfl, by decide, .inl TE.gS⟩ takes0 (fun W pn xe tk _ => pss_one (ps_ret (TH.pe_thunkE (P := P) (w := w) (K := K) (mg := mg) (base := base) (i := 0) (k := k) tk hr1 rfl (.inl rfl))))
      (fun a oe cls d pn hz hf => pss_cons (ps_set (i := 2) scTld.nd rfl (Or.inl rfl) (pe_lst (pa_cons (pe_callB (TH.call_isG (K := K) hz hf) (by rfl) T.isinstance (by decide +kernel) (pa_cons (pv 1) (pa_cons (pe_glob (v := .ref c1) (by rfl) TE.g1 rfl) pa_nil))) (pa_cons (pe_callB (TH.call_isG (K := K) hz hf) (by rfl) T.isinstance (by decide +kernel) (pa_cons (pv 1) (pa_cons (pe_glob (v := .ref c2) (by rfl) TE.g2 rfl) pa_nil))) (pa_cons (pe_callB (TH.call_isG (K := K) hz hf) (by rfl) T.isinstance (by decide +kernel) (pa_cons (pv 1) (pa_cons (pe_glob (v := .ref c3) (by rfl) TE.g3 rfl) pa_nil))) (pa_cons (pe_callB (TH.call_isG (K := K) hz hf) (by rfl) T.isinstance (by decide +kernel) (pa_cons (pv 1) (pa_cons (pe_glob (v := .ref c4) (by rfl) TE.g4 rfl) pa_nil))) pa_nil))))))
        (pss_cons (ps_set (i := 2) scTld.nd rfl (Or.inl rfl) (pe_op op_cat (pv 2) (pe_lst (pa_cons (pe_callB (TH.call_isG (K := K) hz hf) (by rfl) T.isinstance (by decide +kernel) (pa_cons (pv 1) (pa_cons (pe_glob (v := .ref c5) (by rfl) TE.g5 rfl) pa_nil))) (pa_cons (pe_callB (TH.call_isG (K := K) hz hf) (by rfl) T.isinstance (by decide +kernel) (pa_cons (pv 1) (pa_cons (pe_glob (v := .ref c6) (by rfl) TE.g6 rfl) pa_nil))) (pa_cons (pe_callB (TH.call_isG (K := K) hz hf) (by rfl) T.isinstance (by decide +kernel) (pa_cons (pv 1) (pa_cons (pe_glob (v := .ref c7) (by rfl) TE.g7 rfl) pa_nil))) (pa_cons (pe_callB (TH.call_isG (K := K) hz hf) (by rfl) T.isinstance (by decide +kernel) (pa_cons (pv 1) (pa_cons (pe_glob (v := .ref c8) (by rfl) TE.g8 rfl) pa_nil))) pa_nil)))))))
        (pss_cons (ps_expr (RK.bm (K := K) PySem.F.plainAttrs_list PySem.F.slot_list_append PySem.F.type_list_append mt_append (pv 2) (pa_cons (pe_callB (TH.call_isG (K := K) hz hf) (by rfl) T.isinstance (by decide +kernel) (pa_cons (pv 1) (pa_cons (pe_glob (v := .ref c9) (by rfl) TE.g9 rfl) pa_nil))) pa_nil)))
        (pss_cons (ps_if (PW.pt (pw_or (pt_cmpR op_ne (RK.bm (K := K) PySem.F.plainAttrs_list PySem.F.slot_list_count PySem.F.type_list_count (TH.mt_countF (K := K)) (pv 2) (pa_cons pe_bl pa_nil)) pe_int (nomark _))
            (pw_or1 (pt_not (pt_val (pe_callB (TH.call_isG (K := K) hz hf) (by rfl) T.isinstance (by decide +kernel) (pa_cons (pv 1) (pa_cons (pe_bltn (v := .ty "ValueError") (u := .type "ValueError") (by rfl) TE.ve (by decide +kernel) rfl) pa_nil)))))))) (pss_one ps_never) pss_nil)
        (pss_cons (ps_set (i := 3) scTld.nd rfl (Or.inl rfl) (pe_lst (pa_cons pe_str (pa_cons pe_str (pa_cons pe_str (pa_cons pe_str (pa_cons pe_str (pa_cons pe_str (pa_cons pe_str (pa_cons pe_str (pa_cons pe_str pa_nil)))))))))))
        (pss_one (ps_ret (pe_tup (pa_cons (pe_ix (RK.ixL (K := K)) (pv 3) (RK.bm (K := K) PySem.F.plainAttrs_list PySem.F.slot_list_index PySem.F.type_list_index (RK.indexQ (K := K)) (pv 2) (pa_cons pe_bl pa_nil)) (fun _ _ => rfl)) (pa_cons pe_int pa_nil))))))))))), ?_⟩
    refine ⟨f', TT, Eb, rfl, th, q, fun cls d H1 he => ?_⟩
    obtain ⟨D, j, nm, rfl, rfl, er, hn, k1⟩ := hE cls d H1 he
    refine ⟨true, er.st, fun _ a ha => ?_, fun z => by cases z⟩
    have RV : ∀ {c : Addr} (u : Value), RelV (.ref c) u → u = .ref c := fun u r => r
    refine sa1 ?_
    refine ⟨_, rfl, D, .ref c1, .ref c1, decide (j = 0), rfl, rfl, er.ex, rfl, RV, er.k1, ⟨_, rfl, D, .ref c2, .ref c2, decide (j = 1), rfl, rfl, er.ex, rfl, RV, er.k2, ⟨_, rfl, D, .ref c3, .ref c3, decide (j = 2), rfl, rfl, er.ex, rfl, RV, er.k3, ⟨_, rfl, D, .ref c4, .ref c4, decide (j = 3), rfl, rfl, er.ex, rfl, RV, er.k4, (by show 4 ≤ sizeLine; decide), fun l1 n1 => ?_⟩⟩⟩⟩
    refine gn ?_
    refine sa1 ?_
    refine ⟨_, rfl, ⟨_, rfl, D, .ref c5, .ref c5, decide (j = 4), rfl, rfl, er.ex, rfl, RV, er.k5, ⟨_, rfl, D, .ref c6, .ref c6, decide (j = 5), rfl, rfl, er.ex, rfl, RV, er.k6, ⟨_, rfl, D, .ref c7, .ref c7, decide (j = 6), rfl, rfl, er.ex, rfl, RV, er.k7, ⟨_, rfl, D, .ref c8, .ref c8, decide (j = 7), rfl, rfl, er.ex, rfl, RV, er.k8, (by show 4 ≤ sizeLine; decide), fun l2 n2 => ?_⟩⟩⟩⟩⟩
    have e1 : upd H1 l1 (.lst ([decide (j = 0), decide (j = 1), decide (j = 2), decide (j = 3)].map V.bl)) l1 = some _ := upd_same
    refine ⟨l1, l2, _, _, rfl, rfl, (by rw [upd_ne (ne_of_none e1 n2)]; exact e1), upd_same, (by show 8 ≤ sizeLine; decide), fun l3 n3 => ?_⟩
    refine gn ?_
    refine sq1 ?_
    refine ⟨_, rfl, .inl ⟨rfl, _, SqL.of upd_same⟩, ⟨_, rfl, D, .ref c9, .ref c9, decide (j = 8), rfl, rfl, er.ex, rfl, RV, er.k9, ?_⟩⟩
    refine ⟨l3, _, _, rfl, rfl, upd_same, (by show 8 < sizeLine; decide), ?_⟩
    rw [upd_upd]
    have eb : ([V.bl (decide (j = 0)), V.bl (decide (j = 1)), V.bl (decide (j = 2)), V.bl (decide (j = 3))] ++ [V.bl (decide (j = 4)), V.bl (decide (j = 5)), V.bl (decide (j = 6)), V.bl (decide (j = 7))] ++ [V.bl (decide (j = 8))]) = (bits j).map V.bl := rfl
    have flat : ((bits j).map V.bl).all flatV = true := rfl
    have n3' := n3
    have n2' : H1 l2 = none := TH.upd_none1 n2
    have n3'' : H1 l3 = none := TH.upd_none1 (TH.upd_none1 n3)
    have sm : Same H1 (upd (upd (upd H1 l1 (.lst [V.bl (decide (j = 0)), V.bl (decide (j = 1)), V.bl (decide (j = 2)), V.bl (decide (j = 3))])) l2 (.lst [V.bl (decide (j = 4)), V.bl (decide (j = 5)), V.bl (decide (j = 6)), V.bl (decide (j = 7))])) l3 (.lst ((bits j).map V.bl))) := fun b o e => by
      rw [upd_ne (ne_of_none e n3''), upd_ne (ne_of_none e n2'), upd_ne (ne_of_none e n1)]
      exact e
    show tSeq (tIfS _ _ _) _ _ _ (upd (upd (upd H1 l1 (.lst [V.bl (decide (j = 0)), V.bl (decide (j = 1)), V.bl (decide (j = 2)), V.bl (decide (j = 3))])) l2 (.lst [V.bl (decide (j = 4)), V.bl (decide (j = 5)), V.bl (decide (j = 6)), V.bl (decide (j = 7))])) l3 (.lst ((bits j).map V.bl)))
    have e3 : (upd (upd (upd H1 l1 (.lst [V.bl (decide (j = 0)), V.bl (decide (j = 1)), V.bl (decide (j = 2)), V.bl (decide (j = 3))])) l2 (.lst [V.bl (decide (j = 4)), V.bl (decide (j = 5)), V.bl (decide (j = 6)), V.bl (decide (j = 7))])) l3 (.lst ((bits j).map V.bl))) l3 = some (.lst ((bits j).map V.bl)) := upd_same
    generalize (upd (upd (upd H1 l1 (.lst [V.bl (decide (j = 0)), V.bl (decide (j = 1)), V.bl (decide (j = 2)), V.bl (decide (j = 3))])) l2 (.lst [V.bl (decide (j = 4)), V.bl (decide (j = 5)), V.bl (decide (j = 6)), V.bl (decide (j = 7))])) l3 (.lst ((bits j).map V.bl))) = H2 at sm e3 ⊢
    obtain ⟨at1, at2⟩ := bits_at j er.lt
    refine sif ⟨_, rfl, .inl ⟨rfl, _, SqL.of e3⟩, l3, _, _, rfl, rfl, SqL.of e3, rfl, flat, ?_⟩
    rw [bits_count j er.lt]
    refine ⟨rfl, _, rfl, iteF ?_⟩
    refine ⟨_, rfl, D, .ty "ValueError", .type "ValueError", true, rfl, rfl, er.ex, rfl, fun u r => r, er.ve, _, rfl, ?_⟩
    refine iteF ?_
    dsimp only [tNext]
    refine sa1 ⟨(by show 9 ≤ sizeLine; decide), fun l4 n4 => ?_⟩
    refine gn ?_
    have s4 := same_new (o := .lst (kinds.map V.str)) n4
    have e4 : (upd H2 l4 (.lst (kinds.map V.str))) l4 = some (.lst (kinds.map V.str)) := upd_same
    have e5 := s4 _ _ e3
    have sm2 := sm.trans s4
    refine ⟨_, rfl, _, rfl, .inl ⟨rfl, _, SqL.of e5⟩, l3, _, .bl true, j, .bl true, rfl, rfl, SqL.of e5, rfl, flat, at1, rfl, at2, ?_⟩
    refine ⟨l4, kinds.map V.str, _, .str nm, rfl, rfl, SqL.of e4, atI_nat (by rw [List.getElem?_map, hn]; rfl), (by show 2 ≤ sizeLine; decide), fun p np => ?_⟩
    exact k1 p _ (sm2.trans (same_new np)) (none_of_same sm2 np) upd_same
end
end GS

set_option linter.all false
set_option maxHeartbeats 4000000
namespace TH
open PySem PySem.Spec PyProof.Rows L2 LamX NdefX HX
theorem sub_add {cs : List (Addr × Obj)} {H : Hp} (n : CsNone cs H) : subC cs (addC cs H) = H := by
  funext b
  cases e : cs.lookup b with
  | some o => rw [subC_in e, n b o e]
  | none => rw [subC_out e, addC_out e]
theorem add_sub_in {cs : List (Addr × Obj)} {H : Hp} (i : CsIn cs H) : addC cs (subC cs H) = H := by
  funext b
  cases e : cs.lookup b with
  | some o => rw [addC_in e, i b o e]
  | none => rw [addC_out e, subC_out e]
theorem none_sub (cs : List (Addr × Obj)) (H : Hp) : CsNone cs (subC cs H) := fun _ _ e => subC_in e
theorem Opened.none {X : Cx} {σ : L2.St} {H : Hp} {cs : List (Addr × Obj)} (O : Opened X σ H cs) : CsNone cs H := fun b o e => by
  obtain ⟨pins, s, I, h⟩ := O
  exact (csAt_cells I h b o e).2
theorem same_sub {cs : List (Addr × Obj)} {H H' : Hp} (n : CsNone cs H) (s : Same (addC cs H) H') : Same H (subC cs H') := fun b o e => by
  have q : cs.lookup b = none := by
    cases z : cs.lookup b with
    | some u => rw [n b u z] at e; cases e
    | none => rfl
  rw [subC_out q]
  exact s b o (by rw [addC_out q]; exact e)
theorem same_add {cs : List (Addr × Obj)} {H H' : Hp} (i : CsIn cs H) (s : Same (subC cs H) H') : Same H (addC cs H') := fun b o e => by
  cases z : cs.lookup b with
  | some u =>
    have y := i b u z
    rw [e] at y
    rw [addC_in z, y]
  | none =>
    rw [addC_out z]
    exact s b o (by rw [subC_out z]; exact e)
end TH
namespace GS
open PySem L2 HX TH LamX NdefX
theorem sqT_up {K : PySem.W.Frag} {H H' : Hp} (s : ∀ b o, H b = some o → H' b = some o) {a : Addr} {xs : List V} (h : SqT K H a xs) : SqT K H' a xs := by
  rcases h with (h | ⟨o, h⟩) | h
  · exact .inl (.inl (s _ _ h))
  · exact .inl (.inr ⟨o, s _ _ h⟩)
  · exact .inr h
theorem sqL_up {K : PySem.W.Frag} {H H' : Hp} (s : ∀ b o, H b = some o → H' b = some o) {a : Addr} {xs : List V} (h : SqL K H a xs) : SqL K H' a xs := by
  rcases h with (h | ⟨o, h⟩) | h
  · exact .inl (.inl (s _ _ h))
  · exact .inl (.inr ⟨o, s _ _ h⟩)
  · exact .inr h
section
variable {P : Program} {w : World} {K : PySem.W.Frag} {mg : Str → Option Value} {base : Heap} {CS c1 c2 c3 c4 c5 c6 c7 c8 c9 : Addr}
/-- what is wished of an error, told -/
def ErrW (K : PySem.W.Frag) (CS c1 c2 c3 c4 c5 c6 c7 c8 c9 : Addr) (Q : VK) (cls : Value) (d : Option Addr) (H2 : Hp) : Prop := ∃ D j nm, cls = .ref D ∧ d = none ∧ IsErr K CS c1 c2 c3 c4 c5 c6 c7 c8 c9 D j ∧ kinds[j]? = some nm ∧ ∀ p H3, Same H2 H3 → H2 p = none → H3 p = some (.tup [.str nm, .int 0]) → Q (.ref p) H3
/-- told(lambda..), the lambda made at H1 -/
theorem te_told1 {X : Cx} {k : Nat} {σ : L2.St} {H1 : Hp} {Q : VK} {f : Addr} {N : List Str} {js : List Nat} {ds : List V} {tb : XK → TE} {cs : List (Addr × Obj)} (O : Opened X σ H1 cs) (l : Lamb X k H1 f N js ds tb)
    (h : ∀ (Q' : VK) (E' : XK), (∀ v H2, Q v H2 → Q' v H2) → (∀ cls d H2, ErrW K CS c1 c2 c3 c4 c5 c6 c7 c8 c9 Q cls d H2 → E' cls d H2) → tb E' (startF N ds (js.map (slotAt σ))) H1 Q') (hK : X.K = K := by rfl) :
    spTld X.prog X.w X.K X.mg X.base (k + 1) CS c1 c2 c3 c4 c5 c6 c7 c8 c9 [V.ref f] (addC cs H1) (fun v H2 => CsIn cs H2 → Q v (subC cs H2)) E0 := by
  subst hK
  refine ⟨f, _, fun cls d Hc => ∃ H2, Hc = addC cs H2 ∧ CsNone cs H2 ∧ ErrW X.K CS c1 c2 c3 c4 c5 c6 c7 c8 c9 Q cls d H2, rfl, l.thunk O, fun _ => ?_, fun cls d Hc ⟨H2, e, n, D, j, nm, q1, q2, q3, q4, q5⟩ => ?_⟩
  · rw [sub_add O.none]
    refine h _ _ (fun v H2 q n _ => ?_) fun cls d H2 q n => ⟨H2, rfl, n, q⟩
    rw [sub_add n]
    exact q
  · subst e
    refine ⟨D, j, nm, q1, q2, q3, q4, fun p H' s np hp i => ?_⟩
    have o : cs.lookup p = none := by
      cases z : cs.lookup p with
      | some u => rw [addC_in z] at np; cases np
      | none => rfl
    exact q5 p _ (same_sub n s) (by rw [addC_out o] at np; exact np) (by rw [subC_out o]; exact hp)
theorem alk_sub {K : PySem.W.Frag} {cs : List (Addr × Obj)} {H : Hp} : ∀ {n : Nat} {v w : V}, (∀ b o, H b = some o → addC cs H b = some o) → Alk K H n v w → Alk K (addC cs H) n v w
  | 0, _, _, _, h => h
  | n + 1, _, _, s, h => by
    rcases h with h | ⟨a, b, xs, ys, e1, e2, h3, h4, h5⟩
    · exact .inl h
    · refine .inr ⟨a, b, xs, ys, e1, e2, ?_, h4, pw_imp (fun _ _ q => alk_sub s q) h5⟩
      rcases h3 with ⟨x, y⟩ | ⟨x, y⟩
      · exact .inl ⟨sqT_up s x, sqT_up s y⟩
      · exact .inr ⟨sqL_up s x, sqL_up s y⟩
theorem add_up {cs : List (Addr × Obj)} {H : Hp} (n : CsNone cs H) : ∀ b o, H b = some o → addC cs H b = some o := fun b o e => by
  cases z : cs.lookup b with
  | some u => rw [n b u z] at e; cases e
  | none => rw [addC_out z]; exact e
end
end GS

set_option linter.all false
set_option maxHeartbeats 4000000
namespace GS
open PySem L2 HX LamX NdefX TH
/-- no table, no code -/
def NTb : HO → Prop
  | .tbl _ => False
  | .ext _ => False
  | _ => True
theorem NTb.nt {o : HO} (h : NTb o) : ∀ ps, o ≠ .tbl ps := fun ps z => by subst z; exact h
theorem NTb.ne {o : HO} (h : NTb o) : ∀ φ, o ≠ .ext φ := fun φ z => by subst z; exact h
theorem rl_dK {H : Hp} : ∀ {rl : List Addr} {s : StD}, Paired (fun r (x : Str × Rws) => RwAt H r x.2) rl s → ∀ b ∈ rl, ∃ kvs, H b = some (.dK kvs)
  | _, _, .nil, b, h => by cases h
  | _, _, .cons (a := r) ⟨kvs, h1, _⟩ q, b, h => by
    rcases List.mem_cons.mp h with h | h
    · exact ⟨kvs, h ▸ h1⟩
    · exact rl_dK q b h
def isDK (H : Hp) (b : Addr) : Bool := match H b with
  | some (.dK _) => true
  | _ => false
theorem isDK_of {H : Hp} {b : Addr} : isDK H b = true ↔ ∃ kvs, H b = some (.dK kvs) := by
  unfold isDK
  constructor
  · intro h
    split at h
    · rename_i kvs e; exact ⟨kvs, e⟩
    · cases h
  · rintro ⟨kvs, e⟩
    rw [e]
theorem stin_dK {H : Hp} {own : List Addr} {s : StD} {v : V} (h : StIn H own s v) : StIn H (own.filter (isDK H)) s v := by
  obtain ⟨o, h1, h2, h3⟩ := h
  refine ⟨o, fun b hb => List.mem_filter.mpr ⟨h1 b hb, ?_⟩, h2, h3⟩
  obtain ⟨a, rl, rfl, rfl, g1, g2⟩ := h3
  rcases List.mem_cons.mp hb with h | h
  · rw [h]; exact isDK_of.mpr ⟨_, g1⟩
  · exact isDK_of.mpr (rl_dK g2 b h)
/-- the book's own places, tables of code aside -/
theorem BAt.trim {K : PySem.W.Frag} {H : Hp} {own : List Addr} {bk : Addr} {B : BC} (x : BAt K H own bk B) : ∃ own', (∀ b ∈ own', b ∈ own) ∧ BAt K H own' bk B ∧ ∀ b ∈ bfp own' bk B, ∃ o, H b = some o ∧ NTb o := by
  have sub : ∀ b ∈ own.filter (isDK H), b ∈ own := fun b h => (List.mem_filter.mp h).1
  obtain ⟨us, u1, pu⟩ := id x.st
  obtain ⟨kvs, t1, _⟩ := id x.tb
  obtain ⟨vs, p1, _⟩ := id x.kp
  refine ⟨own.filter (isDK H), sub, ⟨x.h0, x.tb, x.md, x.kp, ⟨us, u1, pw_imp (fun _ _ h => stin_dK h) pu⟩, x.ne, fun b h => x.no b (sub b h), fun b h => x.ex b (sub b h)⟩, fun b hb => ?_⟩
  simp only [bfp, List.mem_cons] at hb
  rcases hb with h | h | h | h | h | h
  · exact ⟨_, h ▸ x.h0, by exact trivial⟩
  · exact ⟨_, h ▸ t1, by exact trivial⟩
  · exact ⟨_, h ▸ x.md, by exact trivial⟩
  · exact ⟨_, h ▸ u1, by exact trivial⟩
  · exact ⟨_, h ▸ p1, by exact trivial⟩
  · obtain ⟨kvs, e⟩ := isDK_of.mp (List.mem_filter.mp h).2
    exact ⟨_, e, by exact trivial⟩
theorem TAt.notbl {K : PySem.W.Frag} {CT CI : Addr} {H : Hp} {tb : Addr} {c : TC} (x : TAt K CT CI H tb c) {b : Addr} (hb : b ∈ c.fp tb) : ∃ o, H b = some o ∧ NTb o := by
  rcases fp_mem.mp hb with h | h | h | h | h | ⟨y, hy, h⟩ | ⟨i, hi, h⟩
  · obtain ⟨dx, ob⟩ := x.ob
    exact ⟨_, h ▸ ob, by exact trivial⟩
  · exact ⟨_, h ▸ x.ch, by exact trivial⟩
  · exact ⟨_, h ▸ x.ri, by exact trivial⟩
  · exact ⟨_, h ▸ x.ix, by exact trivial⟩
  · exact ⟨_, h ▸ x.md, by exact trivial⟩
  · obtain ⟨vs, h1, _⟩ := x.cv y hy
    exact ⟨_, h ▸ h1, by exact trivial⟩
  · obtain ⟨⟨dx, h1⟩, ⟨kvs, h2, _⟩, bs, h3, _⟩ := x.iv i hi
    simp only [ifp, List.mem_cons, List.not_mem_nil, or_false] at h
    rcases h with h | h | h
    · exact ⟨_, h ▸ h1, by exact trivial⟩
    · exact ⟨_, h ▸ h2, by exact trivial⟩
    · exact ⟨_, h ▸ h3, by exact trivial⟩
theorem SAt.notbl {K : PySem.W.Frag} {CS CT CI : Addr} {H : Hp} {st : Addr} {sc : SC} (x : SAt K CS CT CI H st sc) {b : Addr} (hb : b ∈ sfp sc st) : ∃ o, H b = some o ∧ NTb o := by
  rcases sfp_mem.mp hb with h | h | h | ⟨t, ht, h⟩
  · obtain ⟨dx, fs, ob, _⟩ := x.ob
    exact ⟨_, h ▸ ob, by exact trivial⟩
  · exact ⟨_, h ▸ x.td, by exact trivial⟩
  · exact ⟨_, h ▸ x.mo, by exact trivial⟩
  · exact (x.tv t ht).notbl h
theorem tk_ext {H H' : Hp} (e : ExtN H H') : TK H H' := fun a u hu h => e a u h fun ps z => by
  subst z
  exact hu
theorem ext_same {H H' : Hp} (s : Same H H') : ExtN H H' := fun b o h _ => s b o h
theorem ext_trans {H H1 H2 : Hp} (a : ExtN H H1) (b : ExtN H1 H2) : ExtN H H2 := fun c o h n => b c o (a c o h n) n
theorem keepC_ext {H H' : Hp} (e : ExtN H H') : KeepC H H' := .of fun b o h k => e b o h fun ps z => by
  subst z
  rcases k with ⟨_, _, z⟩ | ⟨_, z⟩ | ⟨_, z⟩ <;> cases z
theorem box_ext {a b : Addr} {H H' : Hp} (x : BoxAt H a b) (e : ExtN H H') : BoxAt H' a b := by
  obtain ⟨z, cs, h1, h2, h3⟩ := x
  exact ⟨z, cs, e _ _ h1 fun ps z => (by cases z), e _ _ h2 fun ps z => (by cases z), h3⟩
theorem Ws.same {K : PySem.W.Frag} {CS CT CI : Addr} {H H' : Hp} {a b st bk : Addr} {own : List Addr} {B : BC} {sc : SC} {m : Nat} (c : Ws K CS CT CI H a b st bk own B sc m) (s : Same H H') : Ws K CS CT CI H' a b st bk own B sc m :=
  ⟨box_ext c.bx (ext_same s), c.sa.same s, c.ok, c.ba.same' s, c.r, c.ab, c.bs⟩
theorem Ws.ext {K : PySem.W.Frag} {CS CT CI : Addr} {H H' : Hp} {a b st bk : Addr} {own : List Addr} {B : BC} {sc : SC} {m : Nat} (c : Ws K CS CT CI H a b st bk own B sc m) (e : ExtN H H') : ∃ own', (∀ y ∈ own', y ∈ own) ∧ Ws K CS CT CI H' a b st bk own' B sc m := by
  obtain ⟨own', sub, ba, nt⟩ := c.ba.trim
  have sub2 : ∀ x ∈ bfp own' bk B, x ∈ bfp own bk B := fun x hx => by
    simp only [bfp, List.mem_cons] at hx ⊢
    rcases hx with h | h | h | h | h | h
    · exact .inl h
    · exact .inr (.inl h)
    · exact .inr (.inr (.inl h))
    · exact .inr (.inr (.inr (.inl h)))
    · exact .inr (.inr (.inr (.inr (.inl h))))
    · exact .inr (.inr (.inr (.inr (.inr (sub x h)))))
  have t := tk_ext e
  refine ⟨own', sub, box_ext c.bx e, c.sa.keep (fun x hx o h => e x o h ?_) t, c.ok, ba.keep (fun x hx o h => e x o h ?_) t, c.r, ⟨fun h => c.ab.1 (sub2 _ h), fun h => c.ab.2.1 (sub2 _ h), c.ab.2.2⟩, fun x hx => c.bs x (sub2 x hx)⟩
  · obtain ⟨o', h1, h2⟩ := c.sa.notbl hx
    rw [h] at h1
    rw [Option.some.inj h1]; exact h2.nt
  · obtain ⟨o', h1, h2⟩ := nt x hx
    rw [h] at h1
    rw [Option.some.inj h1]; exact h2.nt
theorem Ws.trim {K : PySem.W.Frag} {CS CT CI : Addr} {H : Hp} {a b st bk : Addr} {own : List Addr} {B : BC} {sc : SC} {m : Nat} (c : Ws K CS CT CI H a b st bk own B sc m) : ∃ own', (∀ y ∈ own', y ∈ own) ∧ Ws K CS CT CI H a b st bk own' B sc m ∧ ∀ x ∈ wfp a b st bk own' B sc, ∃ o, H x = some o ∧ NTb o := by
  obtain ⟨own', sub, ba, nt⟩ := c.ba.trim
  have sub2 : ∀ x ∈ bfp own' bk B, x ∈ bfp own bk B := fun x hx => by
    simp only [bfp, List.mem_cons] at hx ⊢
    rcases hx with h | h | h | h | h | h
    · exact .inl h
    · exact .inr (.inl h)
    · exact .inr (.inr (.inl h))
    · exact .inr (.inr (.inr (.inl h)))
    · exact .inr (.inr (.inr (.inr (.inl h))))
    · exact .inr (.inr (.inr (.inr (.inr (sub x h)))))
  refine ⟨own', sub, ⟨c.bx, c.sa, c.ok, ba, c.r, ⟨fun h => c.ab.1 (sub2 _ h), fun h => c.ab.2.1 (sub2 _ h), c.ab.2.2⟩, fun x hx => c.bs x (sub2 x hx)⟩, fun x hx => ?_⟩
  obtain ⟨z, cs, h1, h2, _⟩ := c.bx
  rcases wfp_mem.mp hx with h | h | h | h
  · exact ⟨_, h ▸ h1, by exact trivial⟩
  · exact ⟨_, h ▸ h2, by exact trivial⟩
  · exact nt x h
  · exact c.sa.notbl h
/-- tables and code objects stay where other things alone change -/
theorem tabs_kept {H H' : Hp} {T : List (Addr × Str)} (t : Tabs T H) (k1 : ∀ x ps, H x = some (.tbl ps) → H' x = some (.tbl ps)) (k2 : ∀ x φ, H x = some (.ext φ) → H' x = some (.ext φ)) : Tabs T H' := fun q hq => by
  obtain ⟨ps, h1, h2, h3⟩ := t q hq
  refine ⟨ps, k1 _ _ h1, h2, fun pos cv hc => ?_⟩
  obtain ⟨c, e1, e2⟩ := h3 pos cv hc
  refine ⟨c, e1, ?_⟩
  unfold CodeO at e2 ⊢
  exact k2 _ _ e2
theorem tabs_kf {H H' : Hp} {T : List (Addr × Str)} {fp : List Addr} (t : Tabs T H) (nt : ∀ x ∈ fp, ∃ o, H x = some o ∧ NTb o) (k : KF fp H H') : Tabs T H' := tabs_kept t (fun x ps h => k x _ (fun m => by
    obtain ⟨o, e, n⟩ := nt x m
    rw [h] at e
    exact n.nt ps (Option.some.inj e).symm) h) fun x φ h => k x _ (fun m => by
    obtain ⟨o, e, n⟩ := nt x m
    rw [h] at e
    exact n.ne φ (Option.some.inj e).symm) h
theorem tabs_box {H H' : Hp} {T : List (Addr × Str)} {a b : Addr} (t : Tabs T H) (bx : BoxAt H a b) (k : Keep a b H H') : Tabs T H' := by
  obtain ⟨z, cs, h1, h2, _⟩ := bx
  exact tabs_kept t (fun x ps h => k _ _ (ne_of h h1 (by intro z; cases z)) (ne_of h h2 (by intro z; cases z)) h) fun x φ h => k _ _ (ne_of h h1 (by intro z; cases z)) (ne_of h h2 (by intro z; cases z)) h
theorem Ws.take {K : PySem.W.Frag} {CS CT CI : Addr} {H H' : Hp} {a b st bk : Addr} {own : List Addr} {B : BC} {sc : SC} {m : Nat} (c : Ws K CS CT CI H a b st bk own B sc m) (k : Keep a b H H') (bx : BoxAt H' a b) : Ws K CS CT CI H' a b st bk own B sc m := by
  have t := Keep.tk c.bx k
  exact ⟨bx, c.sa.keep (fun x hx o e => k x o (fun q => c.ab.2.2.1 (q ▸ hx)) (fun q => c.ab.2.2.2 (q ▸ hx)) e) t, c.ok, c.ba.keep (fun x hx o e => k x o (fun q => c.ab.1 (q ▸ hx)) (fun q => c.ab.2.1 (q ▸ hx)) e) t, c.r, c.ab, c.bs⟩
theorem rel_start {B : BC} {sc : SC} (h1 : B.tabs = []) (h2 : B.made = []) (h3 : B.kept = []) (h4 : B.states = [[]]) (hd : sc.dat = ⟨0, 0, [], []⟩) : Rel B sc.dat ∧ sc.Ok 0 := by
  have ht : sc.tabs = [] := by
    have e : sc.dat.tabs = [] := by rw [hd]
    exact List.map_eq_nil_iff.mp e
  refine ⟨?_, ⟨by rw [ht]; decide, fun t m => (by rw [ht] at m; cases m), fun t m => (by rw [ht] at m; cases m)⟩⟩
  rw [hd]
  have sn : SNd [] := ⟨List.nodup_nil, fun x h => by cases h⟩
  refine ⟨⟨by rw [h1]; rfl, List.nodup_nil, fun z f => by rw [h2]; rfl, fun z k => by rw [h3]; rfl, by rw [h3]; rfl, fun t h => by cases h⟩, rfl, by rw [h4]; rfl, ⟨[], [], by rw [h4]; rfl, ?_⟩, fun s h => by rw [h4] at h; rw [List.mem_singleton.mp h]; exact sn, fun t h => (by rw [h1] at h; cases h), fun t h => (by rw [h1] at h; cases h), by rw [h2, h4]; decide, by rw [h3, h4]; decide, fun t h => (by rw [h1] at h; cases h), fun _ => rfl, fun t h => (by cases h), fun y h => (by rw [h3] at h; cases h), fun z k => ⟨.nil, fun v h => by cases h⟩, fun m s hs z k => ?_, by rw [h2]; exact List.nodup_nil, fun z k => .nil, fun m h => (by rw [h2] at h; cases h), .inl h1⟩
  · exact ⟨by rw [h1]; rfl, fun x h => by cases h⟩
  · rw [h4] at hs
    have es : s = [] := by
      cases m with
      | zero => exact (Option.some.inj hs).symm
      | succ m => cases hs
    rw [es]; rfl
end GS

set_option linter.all false
set_option maxHeartbeats 4000000
namespace GS
open PySem L2 HX
/-! ### a dealing's own rows -/
abbrev Lds := List (Str × Addr × List (Int × Option Row))
abbrev Rwo := List (Int × Option Row)
def laidZ (ls : Lds) (z : Str) : Rwo := ((ls.find? fun x => decide (x.1 = z)).map fun x => x.2.2).getD []
def lookO (rs : Rwo) (k : Int) : Option (Option Row) := (rs.find? fun x => decide (x.1 = k)).map fun x => x.2
def putO (rs : Rwo) (k : Int) (r : Option Row) : Rwo := if (rs.any fun x => decide (x.1 = k)) = true then rs.map (fun x => if x.1 = k then (x.1, r) else x) else rs ++ [(k, r)]
theorem valV_ldkv (z : Str) : ∀ ls : Lds, valV (ldkv ls) (Sum.inr z) = (ls.find? fun x => decide (x.1 = z)).map fun x => V.ref x.2.1
  | [] => rfl
  | x :: ls => by
    by_cases e : x.1 = z
    · rw [List.find?_cons_of_pos (by simpa using e)]
      exact valV_pos (p := (Sum.inr x.1, V.ref x.2.1)) (by rw [e])
    · rw [List.find?_cons_of_neg (by simpa using e), ← valV_ldkv z ls]
      exact valV_neg (p := (Sum.inr x.1, V.ref x.2.1)) (fun q => e (Sum.inr.inj q))
theorem valV_ld {H : Hp} (k : Int) : ∀ {kvs : List (Key × V)} {rs : Rwo}, Paired (LdR H) kvs rs → (lookO rs k = none ∧ valV kvs (Sum.inl k : Key) = none) ∨ ∃ r v, lookO rs k = some r ∧ valV kvs (Sum.inl k : Key) = some v ∧ RowAt H r v
  | _, _, .nil => .inl ⟨rfl, rfl⟩
  | (kk, v) :: kvs, x :: rs, .cons ⟨e1, e2⟩ r => by
    have e1 : kk = Sum.inl x.1 := e1
    subst e1
    by_cases c : x.1 = k
    · exact .inr ⟨x.2, v, by unfold lookO; rw [List.find?_cons_of_pos (by simpa using c)]; rfl, valV_pos (by rw [c]), e2⟩
    · have h1 : lookO (x :: rs) k = lookO rs k := by unfold lookO; rw [List.find?_cons_of_neg (by simpa using c)]
      have h2 : valV ((Sum.inl x.1, v) :: kvs) (Sum.inl k : Key) = valV kvs (Sum.inl k) := valV_neg fun q => c (Sum.inl.inj q)
      rw [h1, h2]
      exact valV_ld k r
theorem ld_put {H : Hp} {k : Int} {r : Option Row} {v : V} (hv : RowAt H r v) : ∀ {kvs : List (Key × V)} {rs : Rwo}, Paired (LdR H) kvs rs → Paired (LdR H) (putK kvs (Sum.inl k) v) (putO rs k r) := fun {kvs} {rs} h => by
  have ea : (kvs.any fun kv => decide (kv.1 = (Sum.inl k : Key))) = rs.any fun x => decide (x.1 = k) := by
    induction h with
    | nil => rfl
    | cons a _ ih =>
      rw [List.any_cons, List.any_cons, ih, a.1]
      congr 1
      rename_i x _ _ _
      by_cases c : x.1 = k
      · simp [c]
      · simp [c]
  unfold putK putO
  rw [ea]
  split
  · rename_i hh
    clear ea hh
    induction h with
    | nil => exact .nil
    | @cons p x _ _ a _ ih =>
      refine .cons ?_ ih
      obtain ⟨a1, a2⟩ := a
      show LdR H (if p.1 = Sum.inl k then (p.1, v) else p) (if x.1 = k then (x.1, r) else x)
      by_cases c : x.1 = k
      · rw [if_pos (by rw [a1, c]), if_pos c]
        exact ⟨a1, hv⟩
      · rw [if_neg (fun q => c (by rw [a1] at q; exact Sum.inl.inj q)), if_neg c]
        exact ⟨a1, a2⟩
  · exact pw_app h (.cons ⟨rfl, hv⟩ .nil)
theorem lookO_put {rs : Rwo} {k k' : Int} {r : Option Row} : lookO (putO rs k r) k' = if k' = k then some r else lookO rs k' := by
  unfold lookO putO
  split
  · rename_i h
    have fm : (rs.map fun x => if x.1 = k then (x.1, r) else x).find? (fun x => decide (x.1 = k')) = (rs.find? fun x => decide (x.1 = k')).map fun x => if x.1 = k then (x.1, r) else x := by
      rw [List.find?_map]
      congr 1
      refine congrArg (fun p => List.find? p rs) ?_
      funext x
      show decide ((if x.1 = k then (x.1, r) else x).1 = k') = decide (x.1 = k')
      split <;> rfl
    rw [fm]
    by_cases c : k' = k
    · rw [if_pos c]
      obtain ⟨y, hy, ey⟩ := List.any_eq_true.mp h
      cases e : rs.find? fun x => decide (x.1 = k') with
      | none => have q := List.find?_eq_none.mp e y hy; rw [c] at q; exact absurd ey q
      | some x =>
        have e1 : x.1 = k' := by simpa using List.find?_some e
        show some (if x.1 = k then (x.1, r) else x).2 = some r
        rw [if_pos (e1.trans c)]
    · rw [if_neg c]
      cases e : rs.find? fun x => decide (x.1 = k') with
      | none => rfl
      | some x =>
        have e1 : x.1 = k' := by simpa using List.find?_some e
        show some (if x.1 = k then (x.1, r) else x).2 = some x.2
        rw [if_neg (fun e2 => c (e1.symm.trans e2))]
  · rename_i h
    rw [List.find?_append]
    by_cases c : k' = k
    · rw [if_pos c, List.find?_eq_none.mpr fun x hx e => h (List.any_eq_true.mpr ⟨x, hx, by rw [← c]; exact e⟩), Option.none_or, List.find?_cons_of_pos (by simpa using c.symm)]; rfl
    · rw [if_neg c]
      cases e : rs.find? fun x => decide (x.1 = k') with
      | some x => rfl
      | none => rw [Option.none_or, List.find?_cons_of_neg (by simpa using Ne.symm c)]; rfl
theorem ld_len {H : Hp} {kvs : List (Key × V)} {rs : Rwo} (h : Paired (LdR H) kvs rs) : kvs.length = rs.length := pw_len h
theorem putO_len (rs : Rwo) (k : Int) (r : Option Row) : (putO rs k r).length ≤ rs.length + 1 := by
  unfold putO
  split
  · rw [List.length_map]; omega
  · rw [List.length_append]; exact Nat.le_refl _
/-- what a dealing's row is -/
def dealR (dc : DC) (d : SD) (z : Str) (k : Int) : Option Row := match lookO (laidZ dc.laid z) k with
  | some r => r
  | none => (verS d z k dc.number).map fun u => u.2
def spLI (K : PySem.W.Frag) (CD : Addr) : Sp := fun vs H Q _ => ∃ (dl : Addr) (z : Str) (dc : DC), vs = [.ref dl, .str z] ∧ DAt K CD H dl dc ∧ ∀ a H', Same H H' → LdAt H' a (laidZ dc.laid z) → Q (.ref a) H'
def spDR (K : PySem.W.Frag) (CS CT CI CD : Addr) : Sp := fun vs H Q _ => ∃ (dl : Addr) (z : Str) (k : Int) (dc : DC) (sc : SC) (m : Nat), vs = [.ref dl, .str z, .int k] ∧ DAt K CD H dl dc ∧ SAt K CS CT CI H dc.st sc ∧ sc.Ok m ∧ sc.Srt ∧ sc.first ≤ dc.number ∧ dc.number ≤ sc.newest ∧
  ∀ v H', Same H H' → RowAt H' (dealR dc sc.dat z k) v → Q v H'
def spDSh (K : PySem.W.Frag) (CS CT CI CD : Addr) : Sp := fun vs H Q _ => ∃ (dl : Addr) (dc : DC) (sc : SC), vs = [.ref dl] ∧ DAt K CD H dl dc ∧ SAt K CS CT CI H dc.st sc ∧ sc.tabs.length ≤ 8 ∧ sc.first ≤ dc.number ∧ dc.number ≤ sc.newest ∧
  ∀ d H', H d = none → Same H H' → H' d = some (.dK (shK sc.tabs dc.number)) → Q (.ref d) H'
def spKeep (K : PySem.W.Frag) (CD : Addr) : Sp := fun vs H Q _ => ∃ (dl : Addr) (z : Str) (k : Int) (rv : V) (r : Option Row) (dc : DC), vs = [.ref dl, .str z, .int k, rv] ∧ DAt K CD H dl dc ∧ RowAt H r rv ∧ dc.laid.length ≤ 1000 ∧ (∀ x ∈ dc.laid, x.2.2.length ≤ 1000) ∧
  ∀ ls H', DAt K CD H' dl { dc with laid := ls } → (∀ z', laidZ ls z' = if z' = z then putO (laidZ dc.laid z) k r else laidZ dc.laid z') → ls.length ≤ dc.laid.length + 1 → (∀ j, (∀ x ∈ dc.laid, x.2.2.length ≤ j) → ∀ x ∈ ls, x.2.2.length ≤ j + 1) → (∀ x ∈ ls, x.1 = z ∨ x.1 ∈ dc.laid.map fun x => x.1) → KF (dc.la :: dc.laid.map fun x => x.2.1) H H' → (∀ b ∈ dfp { dc with laid := ls } dl, b ∈ dfp dc dl ∨ H b = none) → Q .non H'
section
variable {P : Program} {w : World} {K : PySem.W.Frag} {mg : Str → Option Value} {base : Heap}
theorem scLI : FnScope ["self", "table"] ["self", "table"] (defScope s_Dealing__laid_in) := ⟨rfl, rfl, rfl, by decide +kernel, rfl, by decide +kernel, by decide +kernel⟩
theorem ok_li {f CD : Addr} {fd : FuncData} (F : Fun K "_laid_in" "Dealing._laid_in" s_Dealing__laid_in f fd) (TD : TxtD K CD) : FnOk P w K mg base CX0 1 f fd ["self", "table"] (spLI K CD) := by
  refine F.ok scLI (fun vs H Q E h => ?_) (fun cdv A outer s H vs Q E hr h => ?_)
  · obtain ⟨dl, z, dc, rfl, _⟩ := h
    rfl
  · obtain ⟨dl, z, dc, rfl, x, kk⟩ := h
    refine ⟨_, (pss_one (ps_ret (pe_dget2 (hu_of hr) (pe_fld (pv 0) rfl) (pv 1) pe_dnewK ⟨rfl, rfl, rfl, rfl⟩))), ?_⟩
    obtain ⟨dx, fs, ob, l⟩ := x.ob
    refine ⟨_, rfl, dl, CD, dx, fs, _, rfl, ob, TD.cl, TD.n4, l.l4, dc.la, rfl, .inl ⟨_, .inl x.la⟩, _, rfl, fun e he => ?_⟩
    have s1 := same_new (o := .dK []) he
    have e1 : (upd H e (.dK [])) e = some (.dK []) := upd_same
    generalize upd H e (.dK []) = H1 at s1 e1
    refine ⟨valV (ldkv dc.laid) (Sum.inr z), DGet.k (k := Sum.inr z) (s1 _ _ x.la), ?_⟩
    rw [valV_ldkv]
    cases eq : dc.laid.find? fun x => decide (x.1 = z) with
    | none => exact kk e H1 s1 ⟨[], e1, by unfold laidZ; rw [eq]; exact .nil⟩
    | some y =>
      have hy := List.mem_of_find?_eq_some eq
      refine kk y.2.1 H1 s1 ?_
      have h := (x.same s1).lv y hy
      unfold laidZ
      rw [eq]
      exact h
theorem scDR : FnScope ["self", "table", "key", "laid"] ["self", "table", "key"] (defScope s_Dealing_row) := ⟨rfl, rfl, rfl, by decide +kernel, rfl, by decide +kernel, by decide +kernel⟩
theorem ok_dr {f CD CS CT CI f1 f2 : Addr} {fd fd1 fd2 : FuncData} (F : Fun K "row" "Dealing.row" s_Dealing_row f fd) (TD : TxtD K CD) (TS : TxtS K CS) (Cli : CalM P w K mg base 4 CD "_laid_in" ["self", "table"] (spLI K CD) f1 fd1) (Csr : CalM P w K mg base 4 CS "row" ["self", "table", "key", "number"] (spSR K CS CT CI) f2 fd2) : FnOk P w K mg base CX0 5 f fd ["self", "table", "key"] (spDR K CS CT CI CD) := by
  refine F.ok scDR (fun vs H Q E h => ?_) (fun cdv A outer s H vs Q E hr h => ?_)
  · obtain ⟨dl, z, k, dc, sc, m, rfl, _⟩ := h
    rfl
  · obtain ⟨dl, z, k, dc, sc, m, rfl, x, sa, ok, srt, n0, n1, kk⟩ := h
    have hr4 : Room 4 _ := hr
    refine ⟨_, (pss_cons (ps_set (i := 3) scDR.nd rfl (Or.inl rfl) (pe_meth (pv 0) TD.cl Cli.mt Cli.G hr4 Cli.b .nil pass0 (pa_cons (pv 1) pa_nil)))
      (pss_cons (ps_if (pt_cmp (pc_din (hu_of hr) (pv 2) (pv 3))) (pss_one (ps_ret (pe_dget (hu_of hr) (pv 3) (pv 2) (fun _ _ => rfl)))) pss_nil)
      (pss_one (ps_ret (pe_meth (pe_fld (pv 0) rfl) TS.cl Csr.mt Csr.G hr4 Csr.b .nil pass0 (pa_cons (pv 1) (pa_cons (pv 2) (pa_cons (pe_fld (pv 0) rfl) pa_nil)))))))), ?_⟩
    obtain ⟨dx, fs, ob, l⟩ := x.ob
    have lk : ∀ m : Str, m ≠ "number" → m ≠ "_store" → m ≠ "_made" → m ≠ "_laid" → m ≠ "_sights" → m ≠ "_over" → fs.lookup m = none := l.no
    refine sa1 ⟨_, rfl, dl, dx, fs, rfl, ob, l.no _ (by decide +kernel) (by decide +kernel) (by decide +kernel) (by decide +kernel) (by decide +kernel) (by decide +kernel), _, rfl, dl, z, dc, rfl, x, fun a H1 s1 la => gn ?_⟩
    obtain ⟨kvs, ha, pr⟩ := la
    refine sif ⟨_, rfl, _, rfl, a, _, rfl, DGet.k (k := Sum.inl k) ha, _, rfl, ?_⟩
    have dl1 := s1 _ _ ob
    rcases valV_ld k pr with ⟨e1, e2⟩ | ⟨r, v, e1, e2, e3⟩
    · rw [e2]
      refine iteF ?_
      dsimp only [tNext]
      obtain ⟨dxs, fss, obs, ls⟩ := sa.ob
      refine ⟨_, rfl, dl, CD, dx, fs, _, rfl, dl1, TD.cl, TD.n2, l.l2, dc.st, dxs, fss, rfl, s1 _ _ obs, ls.no _ (by decide +kernel) (by decide +kernel) (by decide +kernel) (by decide +kernel), _, rfl, _, rfl, _, rfl, dl, CD, dx, fs, _, rfl, dl1, TD.cl, TD.n1, l.l1, ?_⟩
      refine ⟨dc.st, z, k, dc.number, sc, m, rfl, sa.same s1, ok, srt, n0, n1, fun v H2 s2 hv => kk v H2 (s1.trans s2) ?_⟩
      unfold dealR
      rw [e1]
      exact hv
    · rw [e2]
      refine iteT ⟨_, rfl, _, rfl, a, v, rfl, e2 ▸ DGet.k (k := Sum.inl k) ha, kk v H1 s1 ?_⟩
      unfold dealR
      rw [e1]
      exact e3
end
end GS

set_option linter.all false
set_option maxHeartbeats 4000000
namespace GS
open PySem L2 HX
def setL (ls : Lds) (z : Str) (k : Int) (r : Option Row) : Lds := ls.map fun x => if x.1 = z then (x.1, x.2.1, putO x.2.2 k r) else x
theorem setL_ad (ls : Lds) (z : Str) (k : Int) (r : Option Row) : (setL ls z k r).map (fun x => x.2.1) = ls.map fun x => x.2.1 := by
  unfold setL
  rw [List.map_map]
  refine List.map_congr_left fun x _ => ?_
  show (if x.1 = z then (x.1, x.2.1, putO x.2.2 k r) else x).2.1 = x.2.1
  split <;> rfl
theorem setL_nm (ls : Lds) (z : Str) (k : Int) (r : Option Row) : (setL ls z k r).map (fun x => x.1) = ls.map fun x => x.1 := by
  unfold setL
  rw [List.map_map]
  refine List.map_congr_left fun x _ => ?_
  show (if x.1 = z then (x.1, x.2.1, putO x.2.2 k r) else x).1 = x.1
  split <;> rfl
theorem setL_kv (ls : Lds) (z : Str) (k : Int) (r : Option Row) : ldkv (setL ls z k r) = ldkv ls := by
  unfold setL ldkv
  rw [List.map_map]
  refine List.map_congr_left fun x _ => ?_
  show (Sum.inr (if x.1 = z then (x.1, x.2.1, putO x.2.2 k r) else x).1, V.ref (if x.1 = z then (x.1, x.2.1, putO x.2.2 k r) else x).2.1) = _
  split <;> rfl
theorem setL_Z {ls : Lds} {z : Str} {k : Int} {r : Option Row} (h : z ∈ ls.map fun x => x.1) (z' : Str) : laidZ (setL ls z k r) z' = if z' = z then putO (laidZ ls z) k r else laidZ ls z' := by
  unfold laidZ setL
  rw [List.find?_map]
  have ep : ((fun x : Str × Addr × Rwo => decide (x.1 = z')) ∘ fun x : Str × Addr × Rwo => if x.1 = z then (x.1, x.2.1, putO x.2.2 k r) else x) = fun x => decide (x.1 = z') := by
    funext x
    show decide ((if x.1 = z then (x.1, x.2.1, putO x.2.2 k r) else x).1 = z') = _
    split <;> rfl
  rw [ep]
  cases e : ls.find? fun x => decide (x.1 = z') with
  | none =>
    by_cases c : z' = z
    · obtain ⟨y, hy, ey⟩ := List.mem_map.mp h
      have q := List.find?_eq_none.mp e y hy
      simp [ey, c] at q
    · rw [if_neg c]; rfl
  | some x =>
    have ex : x.1 = z' := by simpa using List.find?_some e
    by_cases c : z' = z
    · rw [if_pos c, ← c, e]
      show (some (if x.1 = z' then (x.1, x.2.1, putO x.2.2 k r) else x).2.2).getD [] = _
      rw [if_pos ex]; rfl
    · rw [if_neg c]
      show (if x.1 = z then (x.1, x.2.1, putO x.2.2 k r) else x).2.2 = x.2.2
      rw [if_neg (fun q => c (ex.symm.trans q))]
theorem ld_addr {dc : DC} (nl : (dc.la :: dc.laid.map fun x => x.2.1).Nodup) {x y : Str × Addr × Rwo} (hx : x ∈ dc.laid) (hy : y ∈ dc.laid) (e : x.2.1 = y.2.1) : x = y := nodup_inj (f := fun x : Str × Addr × Rwo => x.2.1) (List.nodup_cons.mp nl).2 hx hy e
theorem DAt.setL {K : PySem.W.Frag} {CD : Addr} {H : Hp} {dl : Addr} {dc : DC} (x : DAt K CD H dl dc) {y : Str × Addr × Rwo} (hy : y ∈ dc.laid) {kvs : List (Key × V)} (hk : H y.2.1 = some (.dK kvs)) (hp : Paired (LdR H) kvs y.2.2) {k : Int} {r : Option Row} {v : V} (hv : RowAt H r v) :
    DAt K CD (upd H y.2.1 (.dK (putK kvs (Sum.inl k) v))) dl { dc with laid := setL dc.laid y.1 k r } := by
  have tk : TK H (upd H y.2.1 (.dK (putK kvs (Sum.inl k) v))) := fun b u hu e => by rw [upd_ne (ne_of e hk (by intro z; subst z; exact hu))]; exact e
  have ot : ∀ b o, H b = some o → b ≠ y.2.1 → (upd H y.2.1 (.dK (putK kvs (Sum.inl k) v))) b = some o := fun b o e n => by rw [upd_ne n]; exact e
  obtain ⟨dx, fs, ob, l⟩ := x.ob
  obtain ⟨vs, h1, h2⟩ := x.sg
  obtain ⟨ws, m1, m2⟩ := x.ma
  have ya : y.2.1 ∈ dc.laid.map fun x => x.2.1 := List.mem_map.mpr ⟨y, hy, rfl⟩
  refine ⟨⟨dx, fs, ot _ _ ob (ne_of ob hk (by intro z; cases z)), ⟨l.len, l.l1, l.l2, l.l3, l.l4, l.l5, l.l6, l.no⟩⟩, ⟨ws, ot _ _ m1 (ne_of m1 hk (by intro z; cases z)), mk_keep tk m2⟩, ?_, fun u hu => ?_, ⟨vs, ot _ _ h1 (ne_of h1 hk (by intro z; cases z)), sg_keep tk (fun s hs o e => ot _ _ e fun q => x.ns s hs (List.mem_cons_of_mem _ (by rw [q]; exact ya))) h2⟩, x.ne, ?_, fun s hs => ?_, ?_⟩
  · show _ = some (HO.dK (ldkv (GS.setL dc.laid y.1 k r)))
    rw [setL_kv]
    exact ot _ _ x.la fun q => (List.nodup_cons.mp x.nl).1 (by rw [q]; exact ya)
  · obtain ⟨u0, hu0, rfl⟩ := List.mem_map.mp (show u ∈ dc.laid.map (fun x => if x.1 = y.1 then (x.1, x.2.1, putO x.2.2 k r) else x) from hu)
    by_cases c : u0.1 = y.1
    · have e : u0 = y := nodup_inj (f := fun x : Str × Addr × Rwo => x.1) x.kd hu0 hy c
      rw [if_pos c, e]
      exact ⟨_, upd_same, pw_imp (fun _ _ ⟨a, b⟩ => ⟨a, RowAt.keep tk b⟩) (ld_put hv hp)⟩
    · rw [if_neg c]
      exact (x.lv u0 hu0).keep (fun o e => ot _ _ e fun q => c (by rw [ld_addr x.nl hu0 hy q])) tk
  · show (dc.la :: (GS.setL dc.laid y.1 k r).map fun x => x.2.1).Nodup
    rw [setL_ad]; exact x.nl
  · show s.1 ∉ dc.la :: (GS.setL dc.laid y.1 k r).map fun x => x.2.1
    rw [setL_ad]; exact x.ns s hs
  · show ((GS.setL dc.laid y.1 k r).map fun x => x.1).Nodup
    rw [setL_nm]; exact x.kd
theorem DAt.newL {K : PySem.W.Frag} {CD : Addr} {H : Hp} {dl : Addr} {dc : DC} (x : DAt K CD H dl dc) {z : Str} (nz : z ∉ dc.laid.map fun x => x.1) {e : Addr} (he : H e = none) :
    DAt K CD (upd (upd H e (.dK [])) dc.la (.dK (putK (ldkv dc.laid) (Sum.inr z) (.ref e)))) dl { dc with laid := dc.laid ++ [(z, e, [])] } := by
  have s1 := same_new (o := .dK []) he
  have e1 : (upd H e (.dK [])) e = some (.dK []) := upd_same
  generalize upd H e (.dK []) = H1 at s1 e1
  have y := x.same s1
  have nla : e ≠ dc.la := fun q => by rw [q, x.la] at he; cases he
  have tk : TK H1 (upd H1 dc.la (.dK (putK (ldkv dc.laid) (Sum.inr z) (.ref e)))) := fun b u hu q => by rw [upd_ne (ne_of q y.la (by intro z; subst z; exact hu))]; exact q
  have ot : ∀ b o, H1 b = some o → b ≠ dc.la → (upd H1 dc.la (.dK (putK (ldkv dc.laid) (Sum.inr z) (.ref e)))) b = some o := fun b o q n => by rw [upd_ne n]; exact q
  obtain ⟨dx, fs, ob, l⟩ := y.ob
  obtain ⟨vs, h1, h2⟩ := y.sg
  obtain ⟨ws, m1, m2⟩ := y.ma
  have nv : valV (ldkv dc.laid) (Sum.inr z : Key) = none := by
    rw [valV_ldkv, List.find?_eq_none.mpr fun u hu => ?_]; rfl
    simp only [decide_eq_true_eq]
    exact fun q => nz (List.mem_map.mpr ⟨u, hu, q⟩)
  have nad : e ∉ dc.laid.map fun x => x.2.1 := fun m => by
    obtain ⟨u, hu, q⟩ := List.mem_map.mp m
    obtain ⟨ks, ek, _⟩ := x.lv u hu
    rw [q, he] at ek; cases ek
  refine ⟨⟨dx, fs, ot _ _ ob (ne_of ob y.la (by intro z; cases z)), ⟨l.len, l.l1, l.l2, l.l3, l.l4, l.l5, l.l6, l.no⟩⟩, ⟨ws, ot _ _ m1 (ne_of m1 y.la (by intro z; cases z)), mk_keep tk m2⟩, ?_, fun u hu => ?_, ⟨vs, ot _ _ h1 (ne_of h1 y.la (by intro z; cases z)), sg_keep tk (fun s hs o q => ot _ _ q fun q2 => y.ns s hs (by rw [q2]; exact List.mem_cons_self ..)) h2⟩, x.ne, ?_, fun s hs => ?_, ?_⟩
  · rw [putK_new _ nv]
    refine upd_same.trans ?_
    show _ = some (HO.dK (ldkv (dc.laid ++ [(z, e, [])])))
    unfold ldkv
    rw [List.map_append]; rfl
  · rcases List.mem_append.mp (show u ∈ dc.laid ++ [(z, e, [])] from hu) with h | h
    · exact (y.lv u h).keep (fun o q => ot _ _ q fun q2 => (List.nodup_cons.mp x.nl).1 (by rw [← q2]; exact List.mem_map.mpr ⟨u, h, rfl⟩)) tk
    · rw [List.mem_singleton.mp h]
      exact ⟨[], ot _ _ e1 nla, .nil⟩
  · show (dc.la :: (dc.laid ++ [(z, e, ([] : Rwo))]).map fun x => x.2.1).Nodup
    rw [List.map_append]
    have n := List.nodup_cons.mp x.nl
    refine List.nodup_cons.mpr ⟨fun m => ?_, List.nodup_append.mpr ⟨n.2, List.nodup_cons.mpr ⟨List.not_mem_nil, List.nodup_nil⟩, fun a ha b hb q => ?_⟩⟩
    · rcases List.mem_append.mp m with m | m
      · exact n.1 m
      · exact nla (List.mem_singleton.mp m).symm
    · rw [List.mem_singleton.mp hb] at q
      exact nad (by rw [← show a = e from q]; exact ha)
  · show s.1 ∉ dc.la :: (dc.laid ++ [(z, e, ([] : Rwo))]).map fun x => x.2.1
    rw [List.map_append]
    intro m
    rcases List.mem_cons.mp m with m | m
    · exact x.ns s hs (by rw [m]; exact List.mem_cons_self ..)
    · rcases List.mem_append.mp m with m | m
      · exact x.ns s hs (List.mem_cons_of_mem _ m)
      · have m : s.1 = e := List.mem_singleton.mp m
        obtain ⟨vs0, _, g2⟩ := x.sg
        obtain ⟨i, li, ei⟩ := List.getElem_of_mem hs
        obtain ⟨v, _, q, _, _, ks, ek, _⟩ := pw_get' g2 (i := i) (List.getElem?_eq_getElem li)
        rw [ei, m, he] at ek; cases ek
  · show ((dc.laid ++ [(z, e, ([] : Rwo))]).map fun x => x.1).Nodup
    rw [List.map_append]
    refine List.nodup_append.mpr ⟨x.kd, List.nodup_cons.mpr ⟨List.not_mem_nil, List.nodup_nil⟩, fun a ha b hb q => ?_⟩
    rw [List.mem_singleton.mp hb] at q
    exact nz (by rw [← show a = z from q]; exact ha)
theorem laidZ_new {ls : Lds} {z : Str} {e : Addr} (nz : z ∉ ls.map fun x => x.1) (z' : Str) : laidZ (ls ++ [(z, e, [])]) z' = laidZ ls z' := by
  unfold laidZ
  rw [List.find?_append]
  cases q : ls.find? fun x => decide (x.1 = z') with
  | some x => rfl
  | none =>
    rw [Option.none_or]
    by_cases c : z = z'
    · rw [List.find?_cons_of_pos (by simpa using c)]; rfl
    · rw [List.find?_cons_of_neg (by simpa using c)]; rfl
section
variable {P : Program} {w : World} {K : PySem.W.Frag} {mg : Str → Option Value} {base : Heap}
theorem scKp : FnScope ["self", "table", "key", "row"] ["self", "table", "key", "row"] (defScope s_Dealing__keep) := ⟨rfl, rfl, rfl, by decide +kernel, rfl, by decide +kernel, by decide +kernel⟩
theorem ok_keep {f CD : Addr} {fd : FuncData} (F : Fun K "_keep" "Dealing._keep" s_Dealing__keep f fd) (TD : TxtD K CD) : FnOk P w K mg base CX0 1 f fd ["self", "table", "key", "row"] (spKeep K CD) := by
  refine F.ok scKp (fun vs H Q E h => ?_) (fun cdv A outer s H vs Q E hr h => ?_)
  · obtain ⟨dl, z, k, rv, r, dc, rfl, _⟩ := h
    rfl
  · obtain ⟨dl, z, k, rv, r, dc, rfl, x, hrv, few, fewR, kk⟩ := h
    have big : (1001 : Nat) < sizeLine := by decide
    refine ⟨_, (pss_cons (ps_if (pt_cmp (pc_dnotin (hu_of hr) (pv 1) (pe_fld (pv 0) rfl))) (pss_one (ps_dput (hu_of hr) (pe_fld (pv 0) rfl) (pv 1) pe_dnewK rfl)) pss_nil)
      (pss_one (ps_dput (hu_of hr) (pe_dget (hu_of hr) (pe_fld (pv 0) rfl) (pv 1) (fun _ _ => rfl)) (pv 2) (pv 3) rfl))), ?_⟩
    obtain ⟨dx, fs, ob, l⟩ := x.ob
    have lal : ∀ ls : Lds, (ldkv ls).length = ls.length := fun ls => List.length_map ..
    refine sifR (fun σ' H' => σ' = [some (V.ref dl), some (V.str z), some (V.int k), some rv] ∧ ∃ ls : Lds, DAt K CD H' dl { dc with laid := ls } ∧ z ∈ ls.map (fun x => x.1) ∧ RowAt H' r rv ∧ (∀ z', laidZ ls z' = laidZ dc.laid z') ∧ ls.length ≤ dc.laid.length + 1 ∧ (∀ j, (∀ x ∈ dc.laid, x.2.2.length ≤ j) → ∀ x ∈ ls, x.2.2.length ≤ j) ∧ (∀ x ∈ ls, x.1 = z ∨ x.1 ∈ dc.laid.map fun x => x.1) ∧ KF [dc.la] H H' ∧ (∀ b ∈ ls.map (fun x => x.2.1), b ∈ dc.laid.map (fun x => x.2.1) ∨ H b = none)) ?_ fun fin => ?_
    · rintro σ' H1 ⟨rfl, ls, y, mz, rv1, ez, ll, lj, nm, kf, ad⟩
      obtain ⟨dx, fs, ob, l⟩ := y.ob
      obtain ⟨u, hu, rfl⟩ := List.mem_map.mp mz
      obtain ⟨kvs, hk, pr⟩ := y.lv u hu
      have ev : valV (ldkv ls) (Sum.inr u.1) = some (.ref u.2.1) := by
        rw [valV_ldkv]
        cases e : ls.find? fun x => decide (x.1 = u.1) with
        | none => have q := List.find?_eq_none.mp e u hu; simp at q
        | some w =>
          have ew : w.1 = u.1 := by simpa using List.find?_some e
          rw [nodup_inj (f := fun x : Str × Addr × Rwo => x.1) y.kd (List.mem_of_find?_eq_some e) hu ew]; rfl
      have lk : kvs.length < sizeLine := Nat.lt_of_le_of_lt (show kvs.length ≤ 1001 by rw [ld_len pr]; exact Nat.le_succ_of_le (lj 1000 fewR u hu)) big
      refine ⟨_, rfl, _, rfl, dl, CD, dx, fs, _, rfl, ob, TD.cl, TD.n4, l.l4, _, rfl, dc.la, .ref u.2.1, rfl, ev ▸ DGet.k (k := Sum.inr u.1) y.la, _, rfl, u.2.1, _, rfl, DPut.k (k := Sum.inl k) hk lk, ?_⟩
      have y2 := y.setL (k := k) hu hk pr rv1
      refine kk (setL ls u.1 k r) _ y2 (fun z' => ?_) ?_ (fun j hj x hx => ?_) (fun x hx => ?_) ?_ (fun b hb => ?_)
      · rw [setL_Z (List.mem_map.mpr ⟨u, hu, rfl⟩), ez, ez]
      · unfold setL
        rw [List.length_map]; exact ll
      · obtain ⟨x0, hx0, rfl⟩ := List.mem_map.mp (show x ∈ ls.map (fun x => if x.1 = u.1 then (x.1, x.2.1, putO x.2.2 k r) else x) from hx)
        have q := lj j hj x0 hx0
        split
        · exact Nat.le_trans (putO_len _ _ _) (Nat.succ_le_succ q)
        · exact Nat.le_succ_of_le q
      · obtain ⟨x0, hx0, rfl⟩ := List.mem_map.mp (show x ∈ ls.map (fun x => if x.1 = u.1 then (x.1, x.2.1, putO x.2.2 k r) else x) from hx)
        have q := nm x0 hx0
        split
        · exact q
        · exact q
      · intro b o n e
        simp only [List.mem_cons, not_or] at n
        have e1 := kf b o (fun m => n.1 (List.mem_singleton.mp m)) e
        rw [upd_ne fun q => ?_]; exact e1
        rcases ad u.2.1 (List.mem_map.mpr ⟨u, hu, rfl⟩) with h | h
        · exact n.2 (by rw [q]; exact h)
        · rw [← q, e] at h; cases h
      · simp only [dfp, List.mem_cons, List.mem_append] at hb ⊢
        rcases hb with h | h | h | h | h | h
        · exact .inl (.inl h)
        · exact .inl (.inr (.inl h))
        · exact .inl (.inr (.inr (.inl h)))
        · exact .inl (.inr (.inr (.inr (.inl h))))
        · exact .inl (.inr (.inr (.inr (.inr (.inl h)))))
        · rw [setL_ad] at h
          exact (ad b h).imp (fun h => .inr (.inr (.inr (.inr (.inr h))))) id
    · refine ⟨_, rfl, _, rfl, dl, CD, dx, fs, _, rfl, ob, TD.cl, TD.n4, l.l4, dc.la, _, rfl, DGet.k (k := Sum.inr z) x.la, _, rfl, ?_⟩
      rw [valV_ldkv]
      cases e : dc.laid.find? fun x => decide (x.1 = z) with
      | some u =>
        have hu := List.mem_of_find?_eq_some e
        have eu : u.1 = z := by simpa using List.find?_some e
        exact iteF (fin _ _ ⟨rfl, dc.laid, x, List.mem_map.mpr ⟨u, hu, eu⟩, hrv, fun _ => rfl, Nat.le_succ _, fun _ h => h, fun y hy => .inr (List.mem_map.mpr ⟨y, hy, rfl⟩), fun _ _ _ e => e, fun _ h => .inl h⟩)
      | none =>
        have nz : z ∉ dc.laid.map fun x => x.1 := fun m => by
          obtain ⟨u, hu, q⟩ := List.mem_map.mp m
          have := List.find?_eq_none.mp e u hu
          simp [q] at this
        refine iteT fun a ha => ?_
        have s1 := same_new (o := .dK []) ha
        have llt : (ldkv dc.laid).length < sizeLine := Nat.lt_of_le_of_lt (show (ldkv dc.laid).length ≤ 1001 by unfold ldkv; rw [List.length_map]; omega) big
        refine ⟨_, rfl, dl, CD, dx, fs, _, rfl, s1 _ _ ob, TD.cl, TD.n4, l.l4, _, rfl, dc.la, _, rfl, DPut.k (k := Sum.inr z) (s1 _ _ x.la) llt, ?_⟩
        have kf : KF [dc.la] H (upd (upd H a (.dK [])) dc.la (.dK (putK (ldkv dc.laid) (Sum.inr z) (.ref a)))) := fun b o n e => by
          rw [upd_ne fun q => n (by rw [q]; exact List.mem_singleton.mpr rfl)]; exact s1 _ _ e
        have tk : TK H (upd (upd H a (.dK [])) dc.la (.dK (putK (ldkv dc.laid) (Sum.inr z) (.ref a)))) := fun b u hu e => kf b u (fun m => by
          rw [List.mem_singleton.mp m, x.la] at e
          cases e; exact hu) e
        refine fin _ _ ⟨rfl, dc.laid ++ [(z, a, [])], x.newL nz ha, ?_, hrv.keep tk, laidZ_new nz, by rw [List.length_append]; exact Nat.le_refl _, fun j hj u hu => ?_, fun u hu => ?_, kf, fun b hb => ?_⟩
        · rw [List.map_append]
          exact List.mem_append_right _ (List.mem_singleton.mpr rfl)
        · rcases List.mem_append.mp hu with h | h
          · exact hj u h
          · rw [List.mem_singleton.mp h]; exact Nat.zero_le _
        · rcases List.mem_append.mp hu with h | h
          · exact .inr (List.mem_map.mpr ⟨u, h, rfl⟩)
          · rw [List.mem_singleton.mp h]; exact .inl rfl
        · rw [List.map_append] at hb
          rcases List.mem_append.mp hb with h | h
          · exact .inl h
          · rw [List.mem_singleton.mp h]; exact .inr ha
end
end GS

set_option linter.all false
set_option maxHeartbeats 4000000
namespace GS
open PySem L2 HX
def SawTo (ss ss' : List Sgt) (z : Str) (bs : List (Str × Span)) : Prop := (ss' = ss ∧ ∃ s ∈ ss, s.2.1 = z ∧ SameB s.2.2 bs) ∨ ∃ d, ss' = ss ++ [(d, z, bs)]
def spPut (K : PySem.W.Frag) (CS CT CI CD CW : Addr) : Sp := fun vs H Q E => ∃ (dl p : Addr) (z : Str) (k : Int) (ns : List Int) (u : Tbn) (f0 : Str) (fr : List Str) (dc : DC) (sc : SC) (m : Nat), vs = [.ref dl, .str z, .ref p] ∧ H p = some (.tup ((k :: ns).map V.int)) ∧ DAt K CD H dl dc ∧ SAt K CS CT CI H dc.st sc ∧ sc.Ok m ∧ sc.Srt ∧ sc.first ≤ dc.number ∧ dc.number ≤ sc.newest ∧
  u ∈ sc.tabs ∧ u.1 = z ∧ u.2.2.num ≤ dc.number ∧ u.2.2.fields = f0 :: fr ∧ dc.sights.length ≤ 1000 ∧ (∀ s ∈ dc.sights, (s.2.2.map (·.1)).Nodup) ∧ dc.laid.length ≤ 1000 ∧ (∀ x ∈ dc.laid, x.2.2.length ≤ 1000) ∧ (∀ b ∈ dfp dc dl, b ∉ sfp sc dc.st) ∧
  (dealR dc sc.dat z k ≠ none → ∀ ss H', SawTo dc.sights ss z [(f0, (some k, some k))] → DAt K CD H' dl { dc with sights := ss } → KF [dc.sg] H H' → (∀ b ∈ dfp { dc with sights := ss } dl, b ∈ dfp dc dl ∨ H b = none) → E (.ref CW) none H') ∧
  (dealR dc sc.dat z k = none → ∀ ss ls H', SawTo dc.sights ss z [(f0, (some k, some k))] → DAt K CD H' dl { dc with sights := ss, laid := ls } → (∀ z', laidZ ls z' = if z' = z then putO (laidZ dc.laid z) k (some (k :: ns)) else laidZ dc.laid z') → ls.length ≤ dc.laid.length + 1 → (∀ j, (∀ x ∈ dc.laid, x.2.2.length ≤ j) → ∀ x ∈ ls, x.2.2.length ≤ j + 1) → (∀ x ∈ ls, x.1 = z ∨ x.1 ∈ dc.laid.map fun x => x.1) → KF (dc.sg :: dc.la :: dc.laid.map fun x => x.2.1) H H' → (∀ b ∈ dfp { dc with sights := ss, laid := ls } dl, b ∈ dfp dc dl ∨ H b = none) → Q .non H')
def spMake (K : PySem.W.Frag) (CD : Addr) : Sp := fun vs H Q _ => ∃ (dl p : Addr) (z f : Str) (dc : DC), vs = [.ref dl, .ref p] ∧ SqT K H p [.str "index", .str z, .str f] ∧ DAt K CD H dl dc ∧ dc.made.length ≤ 1000 ∧ ∀ H', DAt K CD H' dl { dc with made := dc.made ++ [(z, f)] } → KF [dc.ma] H H' → Q .non H'
theorem DAt.notup {K : PySem.W.Frag} {CD : Addr} {H : Hp} {dl : Addr} {dc : DC} (x : DAt K CD H dl dc) {b : Addr} (hb : b ∈ dfp dc dl) : ∃ o, H b = some o ∧ ¬ TupO o := by
  obtain ⟨dx, fs, ob, _⟩ := x.ob
  obtain ⟨vs, h1, h2⟩ := x.sg
  obtain ⟨ws, m1, _⟩ := x.ma
  simp only [dfp, List.mem_cons, List.mem_append, List.mem_map] at hb
  rcases hb with h | h | h | h | ⟨s, hs, h⟩ | ⟨y, hy, h⟩
  · exact ⟨_, h ▸ ob, by intro z; exact z⟩
  · exact ⟨_, h ▸ m1, by intro z; exact z⟩
  · exact ⟨_, h ▸ x.la, by intro z; exact z⟩
  · exact ⟨_, h ▸ h1, by intro z; exact z⟩
  · obtain ⟨i, li, ei⟩ := List.getElem_of_mem hs
    obtain ⟨v, _, q, _, _, ks, ek, _⟩ := pw_get' h2 (i := i) (List.getElem?_eq_getElem li)
    rw [ei] at ek
    exact ⟨_, h ▸ ek, by intro z; exact z⟩
  · obtain ⟨ks, ek, _⟩ := x.lv y hy
    exact ⟨_, h ▸ ek, by intro z; exact z⟩
theorem KF.tkD {K : PySem.W.Frag} {CD : Addr} {H H' : Hp} {dl : Addr} {dc : DC} {l : List Addr} (x : DAt K CD H dl dc) (hl : ∀ b ∈ l, b ∈ dfp dc dl) (k : KF l H H') : TK H H' := fun a u hu h => by
  refine k a _ (fun ma => ?_) h
  obtain ⟨o, h1, h2⟩ := x.notup (hl a ma)
  rw [h] at h1
  exact h2 (Option.some.inj h1 ▸ hu)
theorem valV_shK {sc : SC} {n : Int} {u : Tbn} (hu : u ∈ sc.tabs) (nd : (sc.tabs.map (fun t => t.1)).Nodup) (hn : u.2.2.num ≤ n) : valV (shK sc.tabs n) (Sum.inr u.1) = some (.ref u.2.2.tf) := by
  have mm : ((Sum.inr u.1 : Key), V.ref u.2.2.tf) ∈ shK sc.tabs n := List.mem_map.mpr ⟨u, List.mem_filter.mpr ⟨hu, by simpa using hn⟩, rfl⟩
  obtain ⟨j, ej⟩ := List.mem_iff_getElem?.mp mm
  refine valV_mem ?_ ej
  have e : (shK sc.tabs n).map (·.1) = ((sc.tabs.filter fun t => decide (t.2.2.num ≤ n)).map fun t => t.1).map Sum.inr := by
    unfold shK
    rw [List.map_map, List.map_map]; rfl
  rw [e]
  exact List.Pairwise.map _ (fun a b h q => h (Sum.inr.inj q)) (List.Nodup.sublist (List.Sublist.map _ List.filter_sublist) nd)
section
variable {P : Program} {w : World} {K : PySem.W.Frag} {mg : Str → Option Value} {base : Heap}
theorem scDSh : FnScope ["self", "shapes", "write"] ["self"] (defScope s_Dealing_shapes) := ⟨rfl, rfl, rfl, by decide +kernel, rfl, by decide +kernel, by decide +kernel⟩
theorem ok_dsh {f CD CS CT CI f1 : Addr} {fd fd1 : FuncData} (F : Fun K "shapes" "Dealing.shapes" s_Dealing_shapes f fd) (TD : TxtD K CD) (TS : TxtS K CS) (Csh : CalM P w K mg base 2 CS "shapes" ["self", "number"] (spSh K CS CT CI) f1 fd1) : FnOk P w K mg base CX0 3 f fd ["self"] (spDSh K CS CT CI CD) := by
  refine F.ok scDSh (fun vs H Q E h => ?_) (fun cdv A outer s H vs Q E hr h => ?_)
  · obtain ⟨dl, dc, sc, rfl, _⟩ := h
    rfl
  · obtain ⟨dl, dc, sc, rfl, x, sa, few, n0, n1, kk⟩ := h
    have hr2 : Room 2 _ := hr
    refine ⟨_, (pss_cons (ps_set (i := 1) scDSh.nd rfl (Or.inl rfl) (pe_meth (pe_fld (pv 0) rfl) TS.cl Csh.mt Csh.G hr2 Csh.b .nil pass0 (pa_cons (pe_fld (pv 0) rfl) pa_nil)))
      (pss_cons (ps_for PassesOwn.never rfl (RK.piL (K := K) (pe_fld (pv 0) rfl)) (pg_name (i := 2) scDSh.nd rfl (Or.inl rfl))
        (pss_one (ps_if (pt_cmpR op_eq (pe_ix (RK.ixT (K := K)) (pv 2) pe_int (fun _ _ => rfl)) pe_str (nomark _)) (pss_one (ps_dput (hu_of hr) (pv 1) (pe_ix (RK.ixT (K := K)) (pv 2) pe_int (fun _ _ => rfl)) (pe_ix (RK.ixT (K := K)) (pv 2) pe_int (fun _ _ => rfl)) rfl)) pss_nil)))
      (pss_one (ps_ret (pv 1))))), ?_⟩
    obtain ⟨dx, fs, ob, l⟩ := x.ob
    obtain ⟨dxs, fss, obs, ls⟩ := sa.ob
    obtain ⟨ws, m1, m2⟩ := x.ma
    have e1 : decide (V.str (Str.ofString "index") = V.str (Str.ofString "table")) = false := by decide +kernel
    refine sa1 ⟨_, rfl, dl, CD, dx, fs, _, rfl, ob, TD.cl, TD.n2, l.l2, dc.st, dxs, fss, rfl, obs, ls.no _ (by decide +kernel) (by decide +kernel) (by decide +kernel) (by decide +kernel), _, rfl, dl, CD, dx, fs, _, rfl, ob, TD.cl, TD.n1, l.l1, dc.st, dc.number, sc, rfl, sa, few, n0, n1, fun d H1 hd s1 hd1 => gn ?_⟩
    refine ⟨_, rfl, dl, CD, dx, fs, _, rfl, s1 _ _ ob, TD.cl, TD.n3, l.l3, dc.ma, rfl, ⟨_, SqL.of (s1 _ _ m1)⟩, ?_⟩
    refine for_it (walk_list (xs := ws)) (fun i σ H' => ∃ v2, σ = [some (.ref dl), some (.ref d), v2] ∧ H' = H1) ⟨none, rfl, rfl⟩ (fun i σ H' _ ⟨_, _, e⟩ => by rw [e]; exact SqL.of (s1 _ _ m1)) ?_ ?_
    · rintro i y σ H0 H' hi ⟨v2, rfl, rfl⟩ ⟨rfl, ey⟩
      obtain ⟨mk, _, p, rfl, sq⟩ := pw_get m2 ey
      refine gn (ifs ⟨_, rfl, p, _, 0, _, rfl, rfl, sqt_keep (TK.same s1) sq, at0, rfl, _, rfl, ?_⟩)
      have e1' : decide (V.str "index" = V.str (Str.ofString "table")) = false := e1
      rw [e1']
      exact iteF ⟨_, rfl, rfl⟩
    · rintro σ H' ⟨v2, rfl, rfl⟩
      exact ⟨_, rfl, kk d _ hd s1 hd1⟩
theorem scMk : FnScope ["self", "write", "kind", "table", "told"] ["self", "write"] (defScope s_Dealing_make) := ⟨rfl, rfl, rfl, by decide +kernel, rfl, by decide +kernel, by decide +kernel⟩
theorem ok_make {f CD : Addr} {fd : FuncData} (F : Fun K "make" "Dealing.make" s_Dealing_make f fd) (T : Txt mg) (TD : TxtD K CD) : FnOk P w K mg base CX0 1 f fd ["self", "write"] (spMake K CD) := by
  refine F.ok scMk (fun vs H Q E h => ?_) (fun cdv A outer s H vs Q E hr h => ?_)
  · obtain ⟨dl, p, z, f, dc, rfl, _⟩ := h
    rfl
  · obtain ⟨dl, p, z, f, dc, rfl, hp, x, few, kk⟩ := h
    have big : (1001 : Nat) < sizeLine := by decide
    refine ⟨_, (pss_cons (ps_asg (pv 1) (RK.pgTup (K := K) (n := 3) rfl (pgs_cons (pg_name (i := 2) scMk.nd rfl (Or.inl rfl)) (pgs_cons (pg_name (i := 3) scMk.nd rfl (Or.inl rfl)) (pgs_cons (pg_name (i := 4) scMk.nd rfl (Or.inl rfl)) pgs_nil)))))
      (pss_one (ps_expr (pe_bm PySem.F.plainAttrs_list PySem.F.slot_list_append PySem.F.type_list_append mt_append (pe_fld (pv 0) rfl) (pa_cons (pe_tup (pa_cons (pv 2) (pa_cons (pv 3) (pa_cons (pe_ifExp (pt_cmpR op_eq (pv 2) pe_str (nomark _)) (pe_callTy (RK.tupQ (K := K)) (by rfl) T.tuple (by decide +kernel) (pa_cons (pv 4) pa_nil)) (pv 4)) pa_nil)))) pa_nil))))), ?_⟩
    obtain ⟨dx, fs, ob, l⟩ := x.ob
    obtain ⟨ws, m1, m2⟩ := x.ma
    have lw := pw_len m2
    have e1 : decide (V.str "index" = V.str (Str.ofString "table")) = false := by decide +kernel
    refine sa1 ⟨_, rfl, p, _, rfl, hp, rfl, _, _, rfl, gn ⟨_, _, rfl, gn ⟨_, _, rfl, gn ⟨rfl, ?_⟩⟩⟩⟩
    refine ⟨_, rfl, dl, CD, dx, fs, _, rfl, ob, TD.cl, TD.n3, l.l3, .inl ⟨rfl, _, SqL.of m1⟩, _, rfl, _, rfl, _, rfl, rfl, _, rfl, ?_⟩
    rw [e1]
    refine iteF ⟨_, rfl, by show 3 ≤ sizeLine; decide, fun q hq => ?_⟩
    have s1 := same_new (o := .tup [.str "index", .str z, .str f]) hq
    have hq1 : (upd H q (.tup [.str "index", .str z, .str f])) q = some (.tup [.str "index", .str z, .str f]) := upd_same
    generalize upd H q (.tup [.str "index", .str z, .str f]) = H1 at s1 hq1
    have y := x.same s1
    have m1' := s1 _ _ m1
    refine ⟨_, _, _, rfl, rfl, m1', Nat.lt_of_le_of_lt (show ws.length ≤ 1001 by omega) big, ?_⟩
    have ot : ∀ a o, a ≠ dc.ma → H1 a = some o → (upd H1 dc.ma (.lst (ws ++ [.ref q]))) a = some o := fun a o n e => by rw [upd_ne n]; exact e
    have tk : TK H1 (upd H1 dc.ma (.lst (ws ++ [.ref q]))) := fun b u hu e => ot b u (ne_of e m1' (by intro z; subst z; exact hu)) e
    obtain ⟨dx, fs, ob, l⟩ := y.ob
    obtain ⟨vs, h1, h2⟩ := y.sg
    refine kk _ ⟨⟨dx, fs, ot _ _ (ne_of ob m1' (by intro z; cases z)) ob, ⟨l.len, l.l1, l.l2, l.l3, l.l4, l.l5, l.l6, l.no⟩⟩, ⟨_, upd_same, pw_app (mk_keep (TK.trans (TK.same s1) tk) m2) (.cons ⟨q, rfl, SqT.of (tk.tup hq1)⟩ .nil)⟩, ot _ _ (ne_of y.la m1' (by intro z; cases z)) y.la, fun u hu => (y.lv u hu).keep (fun o e => ?_) tk, ⟨vs, ot _ _ x.ne.symm h1, sg_keep tk (fun s hs o e => ?_) h2⟩, x.ne, x.nl, x.ns, x.kd⟩ fun b o n e => ot b o (fun z => n (by rw [z]; exact List.mem_singleton.mpr rfl)) (s1 _ _ e)
    · obtain ⟨ks, ek, _⟩ := y.lv u hu
      exact ot _ _ (ne_of ek m1' (by intro z; cases z)) e
    · obtain ⟨i, li, ei⟩ := List.getElem_of_mem hs
      obtain ⟨v, _, q, _, _, ks, ek, _⟩ := pw_get' h2 (i := i) (List.getElem?_eq_getElem li)
      rw [ei] at ek
      exact ot _ _ (ne_of ek m1' (by intro z; cases z)) e
theorem sawR {CD : Addr} {vs : List V} {H : Hp} {Q : VK} {E : XK} (R : Hp → Prop) (h1 : ∀ H', R H' → Q .non H') (h : (∀ H', R H' → Q .non H') → spSaw K CD vs H Q E) : spSaw K CD vs H Q E := h h1
theorem scPut : FnScope ["self", "table", "row", "key"] ["self", "table", "row"] (defScope s_Dealing_put) := ⟨rfl, rfl, rfl, by decide +kernel, rfl, by decide +kernel, by decide +kernel⟩
theorem ok_put {f CD CS CT CI CW f1 f2 f3 f4 : Addr} {fd fd1 fd2 fd3 fd4 : FuncData} (F : Fun K "put" "Dealing.put" s_Dealing_put f fd) (T : Txt mg) (TD : TxtD K CD) (B : ErrF K mg "Twice" CW) (Csw : CalM P w K mg base 5 CD "saw" ["self", "table", "bounds"] (spSaw K CD) f1 fd1) (Csh : CalM P w K mg base 5 CD "shapes" ["self"] (spDSh K CS CT CI CD) f2 fd2) (Cdr : CalM P w K mg base 5 CD "row" ["self", "table", "key"] (spDR K CS CT CI CD) f3 fd3) (Ckp : CalM P w K mg base 5 CD "_keep" ["self", "table", "key", "row"] (spKeep K CD) f4 fd4) : FnOk P w K mg base (L2.CX P w) 6 f fd ["self", "table", "row"] (spPut K CS CT CI CD CW) := by
  refine F.okX scPut (fun vs H Q E h => ?_) (fun cdv A outer s H vs Q E hr h => ?_)
  · obtain ⟨dl, p, z, k, ns, u, f0, fr, dc, sc, m, rfl, _⟩ := h
    rfl
  · obtain ⟨dl, p, z, k, ns, u, f0, fr, dc, sc, m, rfl, hp, x, sa, ok, srt, n0, n1, hu, rfl, hn, ef, fewS, nS, fewL, fewR, dj, kE, kQ⟩ := h
    have hr5 : Room 5 _ := hr
    refine ⟨_, (pss_cons (ps_set (i := 3) scPut.nd rfl (Or.inl rfl) (pe_ix (RK.ixT (K := K)) (pv 2) pe_int (fun _ _ => rfl)))
      (pss_cons (ps_expr (pe_meth (pv 0) TD.cl Csw.mt Csw.G hr5 Csw.b .nil pass0 (pa_cons (pv 1) (pa_cons (pe_disp (pps_cons (pe_ix (RK.ixT (K := K)) (pe_dget (hu_of hr) (pe_meth0 (pv 0) TD.cl Csh.mt Csh.G hr5 Csh.b .nil pass0) (pv 1) (fun _ _ => rfl)) pe_int (fun _ _ => rfl)) (pe_tup (pa_cons (pv 3) (pa_cons (pv 3) pa_nil))) pps_nil) (by rfl) (by rfl) (fun z => by cases z) (by decide)) pa_nil))))
      (pss_cons (ps_if (pt_cmpR op_notN (pe_meth (pv 0) TD.cl Cdr.mt Cdr.G hr5 Cdr.b .nil pass0 (pa_cons (pv 1) (pa_cons (pv 3) pa_nil))) pe_non (nomark _)) (pss_one (ps_raise rfl (takes_of rfl rfl rfl rfl) (TH.pmk_own0 PySem.F.excBase_ValueError B.x B.g B.k (raises_own B.b B.t) (by exact rfl)))) pss_nil)
      (pss_one (ps_expr (pe_meth (pv 0) TD.cl Ckp.mt Ckp.G hr5 Ckp.b .nil pass0 (pa_cons (pv 1) (pa_cons (pv 3) (pa_cons (pe_callTy (RK.tupQ (K := K)) (by rfl) T.tuple (by decide +kernel) (pa_cons (pv 2) pa_nil)) pa_nil))))))))), ?_⟩
    obtain ⟨dx, fs, ob, l⟩ := x.ob
    have lno : ∀ {dc : DC} {fs : List (Str × V)} (mm : Str), Dfl dc fs → mm ≠ "number" → mm ≠ "_store" → mm ≠ "_made" → mm ≠ "_laid" → mm ≠ "_sights" → mm ≠ "_over" → fs.lookup mm = none := fun mm l => l.no mm
    refine sa1 ⟨_, rfl, p, _, 0, _, rfl, rfl, SqT.of hp, at0, gn ?_⟩
    refine sq1 ⟨_, rfl, dl, dx, fs, rfl, ob, lno _ l (by decide +kernel) (by decide +kernel) (by decide +kernel) (by decide +kernel) (by decide +kernel) (by decide +kernel), _, rfl, fun d hd => ?_⟩
    have s1 := same_new (o := .dK []) hd
    have hd1 : (upd H d (.dK [])) d = some (.dK []) := upd_same
    have zn : H d = none := hd
    generalize upd H d (.dK []) = H1 at s1 hd1
    refine ⟨_, rfl, dl, dx, fs, rfl, s1 _ _ ob, lno _ l (by decide +kernel) (by decide +kernel) (by decide +kernel) (by decide +kernel) (by decide +kernel) (by decide +kernel), ?_⟩
    refine ⟨dl, dc, sc, rfl, x.same s1, sa.same s1, ok.few, n0, n1, fun q H2 hq s2 q2 => ?_⟩
    have nd := pw_inj sa.pd
    have s12 := s1.trans s2
    have tf := (sa.tv u hu).tf
    rw [ef] at tf
    refine ⟨_, rfl, q, .ref u.2.2.tf, rfl, valV_shK hu nd hn ▸ DGet.k (k := Sum.inr u.1) q2, ?_⟩
    refine ⟨_, _, 0, _, rfl, rfl, sqt_keep (TK.same s12) tf.sq, at0, _, rfl, _, rfl, by show 2 ≤ sizeLine; decide, fun q1 hq1 => ?_⟩
    have hd2 := s2 _ _ hd1
    have s3 := same_new (o := .tup [.int k, .int k]) hq1
    have h31 : (upd H2 q1 (.tup [.int k, .int k])) q1 = some (.tup [.int k, .int k]) := upd_same
    generalize upd H2 q1 (.tup [.int k, .int k]) = H3 at s3 h31
    refine ⟨s3 _ _ hd2, [(Sum.inr f0, .ref q1)], rfl, by show 1 ≤ 15; decide, ?_⟩
    have s4 : Same H (upd H3 d (.dK (mergeK [] [(Sum.inr f0, .ref q1)]))) := fun b o e => by
      rw [upd_ne (ne_of_none e zn)]
      exact s3 _ _ (s12 _ _ e)
    have bd : BdAt K (upd H3 d (.dK (mergeK [] [(Sum.inr f0, .ref q1)]))) d [(f0, (some k, some k))] := by
      refine ⟨[(Sum.inr f0, .ref q1)], upd_same, .cons ⟨rfl, q1, rfl, SqT.of ?_⟩ .nil⟩
      rw [upd_ne (ne_of h31 (s3 _ _ hd2) (by intro z; cases z))]
      exact h31
    generalize upd H3 d (.dK (mergeK [] [(Sum.inr f0, .ref q1)])) = H4 at s4 bd
    -- what follows the sight
    dsimp only [tNil, List.append_nil]
    refine sawR (fun H5 => ∃ ss : List Sgt, SawTo dc.sights ss u.1 [(f0, (some k, some k))] ∧ DAt K CD H5 dl { dc with sights := ss } ∧ KF [dc.sg] H H5 ∧ ∀ b ∈ dfp { dc with sights := ss } dl, b ∈ dfp dc dl ∨ H b = none) ?_ fun fin => ?_
    · rintro H5 ⟨ss, sw, y, kf, fp⟩
      have sgin : ∀ b ∈ [dc.sg], b ∈ dfp dc dl := fun b hb => by rw [List.mem_singleton.mp hb]; simp [dfp]
      have tk := KF.tkD x sgin kf
      have sa5 : SAt K CS CT CI H5 dc.st sc := sa.keep (fun b hb o e => kf b o (fun m => dj b (sgin b m) hb) e) tk
      obtain ⟨dx5, fs5, ob5, l5⟩ := y.ob
      refine sif ⟨_, rfl, dl, dx5, fs5, rfl, ob5, lno _ l5 (by decide +kernel) (by decide +kernel) (by decide +kernel) (by decide +kernel) (by decide +kernel) (by decide +kernel), _, rfl, _, rfl, dl, u.1, k, { dc with sights := ss }, sc, m, rfl, y, sa5, ok, srt, n0, n1, fun v H6 s6 rv6 => ?_⟩
      have ed : dealR { dc with sights := ss } sc.dat u.1 k = dealR dc sc.dat u.1 k := rfl
      rw [ed] at rv6
      cases er : dealR dc sc.dat u.1 k with
      | some r =>
        rw [er] at rv6
        obtain ⟨rp, rfl, _⟩ := rv6
        refine ⟨rfl, _, rfl, iteT (kE (by rw [er]; intro z; cases z) ss H6 sw (y.same s6) (kf.trans (KF.same s6)) fp)⟩
      | none =>
        rw [er] at rv6
        obtain rfl : v = V.non := rv6
        refine ⟨rfl, _, rfl, iteF ?_⟩
        dsimp only [tNext]
        have y6 := y.same s6
        obtain ⟨dx6, fs6, ob6, l6⟩ := y6.ob
        have hp6 := s6 _ _ (tk.tup hp)
        refine ⟨_, rfl, dl, dx6, fs6, rfl, ob6, lno _ l6 (by decide +kernel) (by decide +kernel) (by decide +kernel) (by decide +kernel) (by decide +kernel) (by decide +kernel), _, rfl, _, rfl, _, rfl, p, _, rfl, .inr ⟨SqT.of hp6, ?_⟩⟩
        refine ⟨dl, u.1, k, .ref p, some (k :: ns), { dc with sights := ss }, rfl, y6, ⟨p, rfl, hp6⟩, fewL, fewR, fun ls H7 y7 ez ll lj nm kf7 fp7 => ?_⟩
        refine kQ er ss ls H7 sw y7 ez ll lj nm (fun b o n e => kf7 b o (fun mm => n (List.mem_cons_of_mem _ mm)) (s6 _ _ (kf b o (fun mm => n (by rw [List.mem_singleton.mp mm]; exact List.mem_cons_self ..)) e))) fun b hb => ?_
        rcases fp7 b hb with h | h
        · exact fp b h
        · refine .inr ?_
          cases eb : H b with
          | none => rfl
          | some o =>
            have e5 : ∃ o, H5 b = some o := by
              by_cases c : b = dc.sg
              · obtain ⟨_, g1, _⟩ := y.sg
                exact ⟨_, c ▸ g1⟩
              · exact ⟨_, kf b o (fun mm => c (List.mem_singleton.mp mm)) eb⟩
            obtain ⟨o5, e5⟩ := e5
            rw [s6 _ _ e5] at h; cases h
    · have y4 := x.same s4
      refine .inr ⟨dl, d, u.1, dc, [(f0, (some k, some k))], rfl, y4, fewS, nS, bd, List.nodup_cons.mpr ⟨List.not_mem_nil, List.nodup_nil⟩, by show 1 ≤ 1000; decide, fun H5 s5 hh => fin H5 ⟨dc.sights, .inl ⟨rfl, hh⟩, y4.same s5, (KF.same s4).trans (KF.same s5), fun b hb => .inl hb⟩, fun d5 H5 nd5 y5 kf5 => fin H5 ⟨_, .inr ⟨d5, rfl⟩, y5, (KF.same s4).trans kf5, fun b hb => ?_⟩⟩
      simp only [dfp, List.mem_cons, List.mem_append, List.map_append, List.map_cons, List.map_nil, List.not_mem_nil, or_false] at hb ⊢
      rcases hb with h | h | h | h | (h | h) | h
      · exact .inl (.inl h)
      · exact .inl (.inr (.inl h))
      · exact .inl (.inr (.inr (.inl h)))
      · exact .inl (.inr (.inr (.inr (.inl h))))
      · exact .inl (.inr (.inr (.inr (.inr (.inl h)))))
      · exact .inr (by rw [h]; exact none_of_same s4 nd5)
      · exact .inl (.inr (.inr (.inr (.inr (.inr h)))))
end
end GS

set_option linter.all false
set_option maxHeartbeats 4000000
namespace GS
open PySem L2 HX LamX NdefX TH
/-! ### a dealing, and what the law keeps of it -/
structure LDl where
  dl : Addr
  dc : DC
  da : Addr
  p1 : Addr
  p2 : Addr
  ls : List (Addr × Lsg)
  n2 : Nat
def LsaAt (K : PySem.W.Frag) (H : Hp) (x : Addr × Lsg) (v : V) : Prop := ∃ p f, v = .ref p ∧ SqT K H p [.str x.2.1, .ref f, .ref x.1] ∧ SqT K H f (x.2.2.1.map V.str) ∧ BdAt K H x.1 x.2.2.2
def lfp (x : LDl) : List Addr := x.da :: x.p1 :: x.p2 :: x.ls.map fun l => l.1
def xfp (x : LDl) : List Addr := lfp x ++ dfp x.dc x.dl
structure LdA (K : PySem.W.Frag) (CD : Addr) (H : Hp) (x : LDl) : Prop where
  pd : DAt K CD H x.dl x.dc
  hd : H x.da = some (.lst [.int x.dc.number, .ref x.p1, .ref x.p2])
  h1 : ∃ vs, H x.p1 = some (.lst vs) ∧ Paired (LsaAt K H) x.ls vs
  h2 : ∃ vs, H x.p2 = some (.lst vs) ∧ vs.length = x.n2
  ne : x.da ≠ x.p1 ∧ x.da ≠ x.p2 ∧ x.p1 ≠ x.p2
  sp : ∀ b ∈ lfp x, b ∉ dfp x.dc x.dl
structure LdP (B : BC) (x : LDl) (j : Nat) : Prop where
  s1 : ∀ s ∈ x.dc.sights, ∃ l ∈ x.ls, l.2.1 = s.2.1 ∧ SameB l.2.2.2 s.2.2
  s2 : ∀ l ∈ x.ls, ∃ s ∈ x.dc.sights, l.2.1 = s.2.1 ∧ SameB l.2.2.2 s.2.2
  fl : ∀ l ∈ x.ls, ∃ t ∈ B.tabs, t.1 = l.2.1 ∧ t.2.2 = l.2.2.1
  nS : ∀ s ∈ x.dc.sights, (s.2.2.map (·.1)).Nodup
  f1 : x.dc.sights.length ≤ j
  f2 : x.ls.length ≤ j
  f3 : x.dc.laid.length ≤ j
  f4 : ∀ y ∈ x.dc.laid, y.2.2.length ≤ j
  f5 : x.dc.made.length ≤ j
  f6 : x.n2 ≤ j
theorem LdP.mono {B B' : BC} {x : LDl} {j j' : Nat} (h : LdP B x j) (hb : ∀ t ∈ B.tabs, t ∈ B'.tabs) (l : j ≤ j') : LdP B' x j' :=
  ⟨h.s1, h.s2, fun y hy => by obtain ⟨t, a, b⟩ := h.fl y hy; exact ⟨t, hb t a, b⟩, h.nS, Nat.le_trans h.f1 l, Nat.le_trans h.f2 l, Nat.le_trans h.f3 l, fun y hy => Nat.le_trans (h.f4 y hy) l, Nat.le_trans h.f5 l, Nat.le_trans h.f6 l⟩
theorem xfp_mem {x : LDl} {b : Addr} : b ∈ xfp x ↔ b ∈ lfp x ∨ b ∈ dfp x.dc x.dl := List.mem_append
theorem lsa_keep {K : PySem.W.Frag} {H H' : Hp} (t : TK H H') : ∀ {ls : List (Addr × Lsg)} {vs : List V}, (∀ l ∈ ls, ∀ o, H l.1 = some o → H' l.1 = some o) → Paired (LsaAt K H) ls vs → Paired (LsaAt K H') ls vs
  | _, _, _, .nil => .nil
  | _, _, k, .cons ⟨p, f, e, a, b, c⟩ r => .cons ⟨p, f, e, sqt_keep t a, sqt_keep t b, c.keep (k _ (List.mem_cons_self ..)) t⟩ (lsa_keep t (fun l m => k l (List.mem_cons_of_mem _ m)) r)
theorem LdA.keep {K : PySem.W.Frag} {CD : Addr} {H H' : Hp} {x : LDl} (h : LdA K CD H x) (k : ∀ b ∈ xfp x, ∀ o, H b = some o → H' b = some o) (t : TK H H') : LdA K CD H' x := by
  obtain ⟨vs, a1, a2⟩ := h.h1
  obtain ⟨ws, b1, b2⟩ := h.h2
  have kl : ∀ b ∈ lfp x, ∀ o, H b = some o → H' b = some o := fun b hb => k b (xfp_mem.mpr (.inl hb))
  exact ⟨h.pd.keep (fun b hb => k b (xfp_mem.mpr (.inr hb))) t, kl _ (by simp [lfp]) _ h.hd, ⟨vs, kl _ (by simp [lfp]) _ a1, lsa_keep t (fun l hl => kl l.1 (by
    simp only [lfp, List.mem_cons, List.mem_map]
    exact .inr (.inr (.inr ⟨l, hl, rfl⟩)))) a2⟩, ⟨ws, kl _ (by simp [lfp]) _ b1, b2⟩, h.ne, h.sp⟩
theorem LdA.same {K : PySem.W.Frag} {CD : Addr} {H H' : Hp} {x : LDl} (h : LdA K CD H x) (s : Same H H') : LdA K CD H' x := h.keep (fun b _ o e => s b o e) (TK.same s)
theorem DAt.notbl {K : PySem.W.Frag} {CD : Addr} {H : Hp} {dl : Addr} {dc : DC} (x : DAt K CD H dl dc) {b : Addr} (hb : b ∈ dfp dc dl) : ∃ o, H b = some o ∧ NTb o := by
  obtain ⟨dx, fs, ob, _⟩ := x.ob
  obtain ⟨vs, h1, h2⟩ := x.sg
  obtain ⟨ws, m1, _⟩ := x.ma
  simp only [dfp, List.mem_cons, List.mem_append, List.mem_map] at hb
  rcases hb with h | h | h | h | ⟨s, hs, h⟩ | ⟨y, hy, h⟩
  · exact ⟨_, h ▸ ob, by exact trivial⟩
  · exact ⟨_, h ▸ m1, by exact trivial⟩
  · exact ⟨_, h ▸ x.la, by exact trivial⟩
  · exact ⟨_, h ▸ h1, by exact trivial⟩
  · obtain ⟨i, li, ei⟩ := List.getElem_of_mem hs
    obtain ⟨v, _, q, _, _, ks, ek, _⟩ := pw_get' h2 (i := i) (List.getElem?_eq_getElem li)
    rw [ei] at ek
    exact ⟨_, h ▸ ek, by exact trivial⟩
  · obtain ⟨ks, ek, _⟩ := x.lv y hy
    exact ⟨_, h ▸ ek, by exact trivial⟩
theorem LdA.lk {K : PySem.W.Frag} {CD : Addr} {H : Hp} {x : LDl} (h : LdA K CD H x) {b : Addr} (hb : b ∈ lfp x) : (∃ vs, H b = some (.lst vs)) ∨ ∃ ks, H b = some (.dK ks) := by
  obtain ⟨vs, a1, a2⟩ := h.h1
  obtain ⟨ws, b1, b2⟩ := h.h2
  simp only [lfp, List.mem_cons, List.mem_map] at hb
  rcases hb with e | e | e | ⟨l, hl, e⟩
  · exact .inl ⟨_, e ▸ h.hd⟩
  · exact .inl ⟨_, e ▸ a1⟩
  · exact .inl ⟨_, e ▸ b1⟩
  · obtain ⟨i, li, ei⟩ := List.getElem_of_mem hl
    obtain ⟨v, _, p, f, _, _, _, ks, ek, _⟩ := pw_get' a2 (i := i) (List.getElem?_eq_getElem li)
    rw [ei] at ek
    exact .inr ⟨ks, e ▸ ek⟩
theorem LdA.notbl {K : PySem.W.Frag} {CD : Addr} {H : Hp} {x : LDl} (h : LdA K CD H x) {b : Addr} (hb : b ∈ xfp x) : ∃ o, H b = some o ∧ NTb o := by
  rcases xfp_mem.mp hb with q | q
  · rcases h.lk q with ⟨vs, e⟩ | ⟨ks, e⟩
    · exact ⟨_, e, by exact trivial⟩
    · exact ⟨_, e, by exact trivial⟩
  · exact h.pd.notbl q
theorem LdA.notup {K : PySem.W.Frag} {CD : Addr} {H : Hp} {x : LDl} (h : LdA K CD H x) {b : Addr} (hb : b ∈ xfp x) : ∃ o, H b = some o ∧ ¬ TupO o := by
  rcases xfp_mem.mp hb with q | q
  · rcases h.lk q with ⟨vs, e⟩ | ⟨ks, e⟩
    · exact ⟨_, e, by intro z; exact z⟩
    · exact ⟨_, e, by intro z; exact z⟩
  · exact h.pd.notup q
theorem LdA.ext {K : PySem.W.Frag} {CD : Addr} {H H' : Hp} {x : LDl} (h : LdA K CD H x) (e : ExtN H H') : LdA K CD H' x := h.keep (fun b hb o q => e b o q (by
  obtain ⟨o', h1, h2⟩ := h.notbl hb
  rw [q] at h1
  rw [Option.some.inj h1]; exact h2.nt)) (tk_ext e)
/-- the dealing alone goes on -/
theorem LdA.deal {K : PySem.W.Frag} {CD : Addr} {H H' : Hp} {x : LDl} {dc' : DC} (h : LdA K CD H x) (y : DAt K CD H' x.dl dc') (en : dc'.number = x.dc.number) (k : KF (dfp x.dc x.dl) H H') (fp : ∀ b ∈ dfp dc' x.dl, b ∈ dfp x.dc x.dl ∨ H b = none) : LdA K CD H' { x with dc := dc' } := by
  obtain ⟨vs, a1, a2⟩ := h.h1
  obtain ⟨ws, b1, b2⟩ := h.h2
  have t := KF.tkD h.pd (fun b hb => hb) k
  have kl : ∀ b ∈ lfp x, ∀ o, H b = some o → H' b = some o := fun b hb o e => k b o (h.sp b hb) e
  refine ⟨y, by show H' x.da = some (.lst [.int dc'.number, .ref x.p1, .ref x.p2]); rw [en]; exact kl _ (by simp [lfp]) _ h.hd, ⟨vs, kl _ (by simp [lfp]) _ a1, lsa_keep t (fun l hl => kl l.1 (by
    simp only [lfp, List.mem_cons, List.mem_map]
    exact .inr (.inr (.inr ⟨l, hl, rfl⟩)))) a2⟩, ⟨ws, kl _ (by simp [lfp]) _ b1, b2⟩, h.ne, fun b hb m => ?_⟩
  rcases fp b m with q | q
  · exact h.sp b hb q
  · rcases h.lk hb with ⟨vs, e⟩ | ⟨ks, e⟩ <;> rw [q] at e <;> cases e
/-- a sight noted -/
theorem LdA.note {K : PySem.W.Frag} {CD : Addr} {H : Hp} {x : LDl} {vs : List V} {l : Addr × Lsg} {v : V} (h : LdA K CD H x) (e1 : H x.p1 = some (.lst vs)) (e2 : Paired (LsaAt K H) x.ls vs) (hl : LsaAt K H l v) (nl : l.1 ∉ dfp x.dc x.dl) : LdA K CD (upd H x.p1 (.lst (vs ++ [v]))) { x with ls := x.ls ++ [l] } := by
  have tk : TK H (upd H x.p1 (.lst (vs ++ [v]))) := fun b u hu e => by rw [upd_ne (ne_of e e1 (by intro z; subst z; exact hu))]; exact e
  have ot : ∀ b o, b ≠ x.p1 → H b = some o → (upd H x.p1 (.lst (vs ++ [v]))) b = some o := fun b o n e => by rw [upd_ne n]; exact e
  obtain ⟨ws, b1, b2⟩ := h.h2
  have m1 : x.p1 ∈ lfp x := by simp [lfp]
  have kd : ∀ {b : Addr} {ks : List (Key × V)}, H b = some (.dK ks) → b ≠ x.p1 := fun e z => by rw [z, e1] at e; cases e
  refine ⟨h.pd.keep (fun b hb o e => ot b o (fun z => h.sp _ m1 (z ▸ hb)) e) tk, ot _ _ h.ne.1 h.hd, ⟨_, upd_same, pw_app (lsa_keep tk (fun y hy o e => ?_) e2) (.cons ?_ .nil)⟩, ⟨ws, ot _ _ h.ne.2.2.symm b1, b2⟩, h.ne, fun b hb => ?_⟩
  · rcases h.lk (b := y.1) (by simp only [lfp, List.mem_cons, List.mem_map]; exact .inr (.inr (.inr ⟨y, hy, rfl⟩))) with ⟨us, e3⟩ | ⟨ks, e3⟩
    · obtain ⟨i, li, ei⟩ := List.getElem_of_mem hy
      obtain ⟨v, _, p, f, _, _, _, ks, ek, _⟩ := pw_get' e2 (i := i) (List.getElem?_eq_getElem li)
      rw [ei, e3] at ek; cases ek
    · exact ot _ _ (kd e3) e
  · obtain ⟨p, f, e, a, b, ks, ek, pr⟩ := hl
    exact ⟨p, f, e, sqt_keep tk a, sqt_keep tk b, BdAt.keep ⟨ks, ek, pr⟩ (fun o e => ot _ _ (kd ek) e) tk⟩
  · simp only [lfp, List.map_append, List.mem_cons, List.mem_append, List.map_cons, List.map_nil, List.not_mem_nil, or_false] at hb
    rcases hb with q | q | q | q | q
    · exact h.sp b (by rw [q]; simp [lfp])
    · exact h.sp b (by rw [q]; simp [lfp])
    · exact h.sp b (by rw [q]; simp [lfp])
    · exact h.sp b (by simp only [lfp, List.mem_cons]; exact .inr (.inr (.inr q)))
    · rw [q]; exact nl
theorem LdA.note2 {K : PySem.W.Frag} {CD : Addr} {H : Hp} {x : LDl} {vs : List V} {v : V} (h : LdA K CD H x) (e1 : H x.p2 = some (.lst vs)) (l : vs.length = x.n2) : LdA K CD (upd H x.p2 (.lst (vs ++ [v]))) { x with n2 := x.n2 + 1 } := by
  have tk : TK H (upd H x.p2 (.lst (vs ++ [v]))) := fun b u hu e => by rw [upd_ne (ne_of e e1 (by intro z; subst z; exact hu))]; exact e
  have ot : ∀ b o, b ≠ x.p2 → H b = some o → (upd H x.p2 (.lst (vs ++ [v]))) b = some o := fun b o n e => by rw [upd_ne n]; exact e
  obtain ⟨ws, a1, a2⟩ := h.h1
  have m1 : x.p2 ∈ lfp x := by simp [lfp]
  refine ⟨h.pd.keep (fun b hb o e => ot b o (fun z => h.sp _ m1 (z ▸ hb)) e) tk, ot _ _ h.ne.2.1 h.hd, ⟨ws, ot _ _ h.ne.2.2 a1, lsa_keep tk (fun y hy o e => ?_) a2⟩, ⟨_, upd_same, by rw [List.length_append, l]; rfl⟩, h.ne, h.sp⟩
  obtain ⟨i, li, ei⟩ := List.getElem_of_mem hy
  obtain ⟨v, _, p, f, _, _, _, ks, ek, _⟩ := pw_get' a2 (i := i) (List.getElem?_eq_getElem li)
  rw [ei] at ek
  exact ot _ _ (fun z => by rw [z, e1] at ek; cases ek) e
theorem SameB.rfl' {bs : List (Str × Span)} : SameB bs bs := fun _ => rfl
theorem LdP.note {B : BC} {x : LDl} {j : Nat} {dc' : DC} {z : Str} {fs : List Str} {bs : List (Str × Span)} {s : Addr} (h : LdP B x j) (sw : SawTo x.dc.sights dc'.sights z bs) {t : Tin} (ht : t ∈ B.tabs) (e1 : t.1 = z) (e2 : t.2.2 = fs) (nb : (bs.map (·.1)).Nodup) (f3 : dc'.laid.length ≤ j + 1) (f4 : ∀ y ∈ dc'.laid, y.2.2.length ≤ j + 1) (f5 : dc'.made.length ≤ j + 1) : LdP B { x with dc := dc', ls := x.ls ++ [(s, z, fs, bs)] } (j + 1) := by
  have old : ∀ s' ∈ dc'.sights, s' ∈ x.dc.sights ∨ ∃ d, s' = (d, z, bs) := fun s' hs => by
    rcases sw with ⟨e, _⟩ | ⟨d, e⟩
    · rw [e] at hs; exact .inl hs
    · rw [e] at hs
      exact (List.mem_append.mp hs).imp id fun q => ⟨d, List.mem_singleton.mp q⟩
  have new : ∀ s' ∈ x.dc.sights, s' ∈ dc'.sights := fun s' hs => by
    rcases sw with ⟨e, _⟩ | ⟨d, e⟩
    · rw [e]; exact hs
    · rw [e]; exact List.mem_append_left _ hs
  refine ⟨fun s' hs => ?_, fun l hl => ?_, fun l hl => ?_, fun s' hs => ?_, ?_, ?_, f3, f4, f5, Nat.le_succ_of_le h.f6⟩
  · rcases old s' hs with q | ⟨d, q⟩
    · obtain ⟨l, hl, a, b⟩ := h.s1 s' q
      exact ⟨l, List.mem_append_left _ hl, a, b⟩
    · rw [q]
      exact ⟨_, List.mem_append_right _ (List.mem_singleton.mpr rfl), rfl, fun _ => rfl⟩
  · rcases List.mem_append.mp hl with q | q
    · obtain ⟨s', hs, a, b⟩ := h.s2 l q
      exact ⟨s', new s' hs, a, b⟩
    · rw [List.mem_singleton.mp q]
      rcases sw with ⟨e, s', hs, a, b⟩ | ⟨d, e⟩
      · exact ⟨s', new s' hs, a.symm, b.symm⟩
      · exact ⟨(d, z, bs), by show _ ∈ dc'.sights; rw [e]; exact List.mem_append_right _ (List.mem_singleton.mpr rfl), rfl, fun _ => rfl⟩
  · rcases List.mem_append.mp hl with q | q
    · exact h.fl l q
    · rw [List.mem_singleton.mp q]; exact ⟨t, ht, e1, e2⟩
  · rcases old s' hs with q | ⟨d, q⟩
    · exact h.nS s' q
    · rw [q]; exact nb
  · show dc'.sights.length ≤ j + 1
    have := h.f1
    rcases sw with ⟨e, _⟩ | ⟨d, e⟩
    · rw [e]; omega
    · rw [e, List.length_append]; exact Nat.succ_le_succ h.f1
  · show (x.ls ++ _).length ≤ j + 1
    rw [List.length_append]; exact Nat.succ_le_succ h.f2
/-- dealings apart from all else -/
structure LDs (K : PySem.W.Frag) (CD : Addr) (H : Hp) (wf : List Addr) (xs : List LDl) : Prop where
  at_ : ∀ x ∈ xs, LdA K CD H x
  wf : ∀ x ∈ xs, ∀ b ∈ xfp x, b ∉ wf
  sp : xs.Pairwise fun x y => ∀ b ∈ xfp x, b ∉ xfp y
theorem LDs.keep {K : PySem.W.Frag} {CD : Addr} {H H' : Hp} {wf wf' : List Addr} {xs : List LDl} (h : LDs K CD H wf xs) (k : KF wf H H') (t : TK H H') (f : ∀ y ∈ wf', y ∈ wf ∨ H y = none) : LDs K CD H' wf' xs :=
  ⟨fun x hx => (h.at_ x hx).keep (fun b hb o e => k b o (h.wf x hx b hb) e) t, fun x hx b hb m => (by
    rcases f b m with q | q
    · exact h.wf x hx b hb q
    · obtain ⟨o, e, _⟩ := (h.at_ x hx).notbl hb
      rw [q] at e; cases e), h.sp⟩
theorem LDs.same {K : PySem.W.Frag} {CD : Addr} {H H' : Hp} {wf : List Addr} {xs : List LDl} (h : LDs K CD H wf xs) (s : Same H H') : LDs K CD H' wf xs := h.keep (fun b o _ e => s b o e) (TK.same s) fun y m => .inl m
theorem LDs.ext {K : PySem.W.Frag} {CD : Addr} {H H' : Hp} {wf wf' : List Addr} {xs : List LDl} (h : LDs K CD H wf xs) (e : ExtN H H') (f : ∀ y ∈ wf', y ∈ wf) : LDs K CD H' wf' xs := ⟨fun x hx => (h.at_ x hx).ext e, fun x hx b hb m => h.wf x hx b hb (f b m), h.sp⟩
end GS

set_option linter.all false
set_option maxHeartbeats 4000000
namespace GS
open PySem L2 HX LamX NdefX TH
def Tb2 (PB : Addr) : List (Addr × Str) := [(PB, "_law_saw.<locals>.<lambda>")]
/-- all but some places and tables of code stays -/
def KFN (fp : List Addr) (H H' : Hp) : Prop := ∀ b o, b ∉ fp → NTb o → H b = some o → H' b = some o
theorem KFN.of {fp : List Addr} {H H' : Hp} (k : KF fp H H') : KFN fp H H' := fun b o n _ e => k b o n e
theorem KFN.ext {fp : List Addr} {H H' : Hp} (k : ExtN H H') : KFN fp H H' := fun b o _ t e => k b o e t.nt
theorem KFN.same {fp : List Addr} {H H' : Hp} (k : Same H H') : KFN fp H H' := fun b o _ _ e => k b o e
theorem KFN.trans {fp : List Addr} {H H1 H2 : Hp} (a : KFN fp H H1) (b : KFN fp H1 H2) : KFN fp H H2 := fun x o n t e => b x o n t (a x o n t e)
theorem KFN.mono {fp fp' : List Addr} {H H' : Hp} (k : KFN fp H H') (s : ∀ b ∈ fp, b ∈ fp') : KFN fp' H H' := fun b o n t e => k b o (fun m => n (s b m)) t e
theorem passN' {P : Program} {w : World} {K : PySem.W.Frag} {mg : Str → Option Value} {base : Heap} {N : List Str} {F : NF} {f : Addr} {A : Around} {outer : List Env} {s : Shared} {H : Hp} {E : XK} : Passes (L2.CX P w) (ncx (L2.CX P w) P w K mg base N F f A outer s H E) E :=
  passes_call (takes_of rfl rfl rfl rfl) fun _ _ _ _ h => h
theorem te_l0 {K : PySem.W.Frag} {CS c1 c2 c3 c4 c5 c6 c7 c8 c9 : Addr} {X : Cx} {k : Nat} {T : List (Addr × Str)} {N : List Str} {js : List Nat} {tb : XK → TE} {σ : L2.St} {H : Hp} {Q : VK} (hK : X.K = K) (hT : Tabs T H)
    (h : ∀ (f : Addr) H1, ExtN H H1 → (∀ b, H1 b = Option.none → H b = Option.none) → Tabs T H1 → ∀ (Q' : VK) (E' : XK), (∀ v H2, Q v H2 → Q' v H2) → (∀ cls d H2, ErrW K CS c1 c2 c3 c4 c5 c6 c7 c8 c9 Q cls d H2 → E' cls d H2) → tb E' (startF N [] (js.map (slotAt σ))) H1 Q') :
    tLam0 X k T N js tb σ H (fun x H1 => ∀ cs', Opened X σ H1 cs' → spTld X.prog X.w X.K X.mg X.base (k + 1) CS c1 c2 c3 c4 c5 c6 c7 c8 c9 [x] (addC cs' H1) (fun v H2 => CsIn cs' H2 → Q v (subC cs' H2)) E0) :=
  ⟨hT, fun f H1 e nn t f0 l cs' O => te_told1 O l (h f H1 e nn t) hK⟩
theorem Ws.keepW {K : PySem.W.Frag} {CS CT CI : Addr} {H H' : Hp} {a b st bk : Addr} {own : List Addr} {B : BC} {sc : SC} {m : Nat} (c : Ws K CS CT CI H a b st bk own B sc m) (k : ∀ x ∈ wfp a b st bk own B sc, ∀ o, H x = some o → H' x = some o) (t : TK H H') : Ws K CS CT CI H' a b st bk own B sc m := by
  obtain ⟨z, cs, h1, h2, h3⟩ := c.bx
  exact ⟨⟨z, cs, k a (wfp_mem.mpr (.inl rfl)) _ h1, k b (wfp_mem.mpr (.inr (.inl rfl))) _ h2, h3⟩, c.sa.keep (fun x hx o e => k x (wfp_mem.mpr (.inr (.inr (.inr hx)))) o e) t, c.ok, c.ba.keep (fun x hx o e => k x (wfp_mem.mpr (.inr (.inr (.inl hx)))) o e) t, c.r, c.ab, c.bs⟩
theorem ifsE {c : TT} {t e : TS} {D : Ends} {σ : L2.St} {H : Hp} (he : e D σ H) (h : e D σ H → c σ H fun b H1 => if b = true then t D σ H1 else e D σ H1) : tIfS c t e D σ H := h he
theorem sq1R {te : TE} {u : TS} {D : Ends} {σ : L2.St} {H : Hp} (R : Hp → Prop) (h1 : ∀ H', R H' → u D σ H') (h : (∀ H', R H' → u D σ H') → te σ H fun _ H1 => u D σ H1) : tSeq (tDrop te) u D σ H := h h1
theorem Rel.srt' {B : BC} {sc : SC} (R : Rel B sc.dat) : sc.Srt := fun t ht y hy => by
  have mt : (t.1, t.2.2.dat) ∈ sc.dat.tabs := List.mem_map.mpr ⟨t, ht, rfl⟩
  have my : (y.1, y.2.2) ∈ t.2.2.dat.cl := List.mem_map.mpr ⟨y, hy, rfl⟩
  have e := chn_has R.r0.nd mt (R.r0.kd _ mt) my
  have z := (R.sr t.1 y.1).1
  have e : chn sc.dat t.1 y.1 = y.2.2 := e
  rw [e] at z
  exact z
theorem Rel.tbn {B : BC} {sc : SC} (R : Rel B sc.dat) {t : Tin} (ht : t ∈ B.tabs) : ∃ u ∈ sc.tabs, u.1 = t.1 ∧ u.2.2.num = t.2.1 ∧ u.2.2.fields = t.2.2 := by
  rw [R.r0.tb] at ht
  obtain ⟨t0, h0, e⟩ := List.mem_map.mp ht
  obtain ⟨u, hu, e2⟩ := List.mem_map.mp (show t0 ∈ sc.tabs.map fun t => (t.1, t.2.2.dat) from h0)
  subst e2 e
  exact ⟨u, hu, rfl, rfl, rfl⟩
theorem wfp_sub {a b st bk : Addr} {own own' : List Addr} {B : BC} {sc : SC} (sub : ∀ y ∈ own', y ∈ own) : ∀ y ∈ wfp a b st bk own' B sc, y ∈ wfp a b st bk own B sc := fun y hy => by
  rcases wfp_mem.mp hy with h | h | h | h
  · exact wfp_mem.mpr (.inl h)
  · exact wfp_mem.mpr (.inr (.inl h))
  · refine wfp_mem.mpr (.inr (.inr (.inl ?_)))
    simp only [bfp, List.mem_cons] at h ⊢
    rcases h with h | h | h | h | h | h
    · exact .inl h
    · exact .inr (.inl h)
    · exact .inr (.inr (.inl h))
    · exact .inr (.inr (.inr (.inl h)))
    · exact .inr (.inr (.inr (.inr (.inl h))))
    · exact .inr (.inr (.inr (.inr (.inr (sub y h)))))
  · exact wfp_mem.mpr (.inr (.inr (.inr h)))
def spSawL (K : PySem.W.Frag) (CS CT CI CD PB : Addr) : Sp := fun vs H Q _ => ∃ (a b st bk tt : Addr) (own : List Addr) (B : BC) (sc : SC) (m : Nat) (x : LDl) (j : Nat) (us0 : List V) (ys : List Str), vs = [.ref a, .ref x.dl, .ref x.da, .ref tt] ∧ Ws K CS CT CI H a b st bk own B sc m ∧ x.dc.st = st ∧ 0 ≤ x.dc.number ∧ x.dc.number ≤ sc.newest ∧ LdA K CD H x ∧ LdP B x j ∧ j ≤ 50 ∧
  (∀ b' ∈ xfp x, b' ∉ wfp a b st bk own B sc) ∧ SqT K H tt us0 ∧ Paired (ZcAt K H B) ys us0 ∧ us0 ≠ [] ∧ us0.length ≤ 10 ∧ (∀ z ∈ ys, numOf B z ≤ x.dc.number) ∧ Tabs (Tb2 PB) H ∧
  ∀ own' x' H', Ws K CS CT CI H' a b st bk own' B sc m → (∀ y ∈ own', y ∈ own) → LdA K CD H' x' → LdP B x' (j + 1) → x'.dl = x.dl → x'.da = x.da → x'.dc.number = x.dc.number → x'.dc.st = x.dc.st → KFN (a :: b :: xfp x) H H' → (∀ b' ∈ xfp x', b' ∈ xfp x ∨ H b' = none) → Tabs (Tb2 PB) H' → Q .non H'
section
variable {P : Program} {w : World} {K : PySem.W.Frag} {mg : Str → Option Value} {base : Heap} {CT CI CS CD CW CE d1 d2 d3 d4 d5 d6 d7 d8 d9 cB PB : Addr}
theorem scSawL : FnScope ["_law_box", "_law_dealing", "_law_d", "_law_tables", "_law_table", "_law_fields", "_law_way", "_law_mark", "_law_write", "_law_spans"] ["_law_box", "_law_dealing", "_law_d", "_law_tables"] (defScope s_l_saw) := ⟨rfl, rfl, rfl, by decide +kernel, rfl, by decide +kernel, by decide +kernel⟩
theorem ok_sawL {f fk fr fo fb fp fm fs : Addr} {fdk fdr fdo fdb fdp fdm fds : FuncData} {kV doc pm ct oc : Value} {an od : Option Addr} {osl : Array (Option Value)}
    (lk : K.lookup f = some ⟨oc, od, .func (PySem.W.fnOf "_law_saw" "_law_saw" (defArgs s_l_saw) (defBody s_l_saw) (defScope s_l_saw) .none kV doc pm an (.ref cB) ct), osl⟩) (hcd : PySem.W.codeIn K (.ref cB) "_law_saw" = true) (TB : TabB base mg cB PB)
    (T : Txt mg) (TD : TxtD K CD) (eW : IsErr K CE d1 d2 d3 d4 d5 d6 d7 d8 d9 CW 7)
    (Ctk : Cal P w K mg base 8 "_law_take" ["_law_box", "_law_many"] (spTake K) fk fdk) (Crw : Cal P w K mg base 6 "_law_row" ["_law_box", "_law_mark", "_law_fields"] (spRow K) fr fdr) (Cto : Cal P w K mg base 8 "_law_told" ["_law_work"] (spTld P w K mg base 7 CE d1 d2 d3 d4 d5 d6 d7 d8 d9) fo fdo)
    (Cbo : Cal P w K mg base 8 "_law_bounds" ["_law_box", "_law_fields"] (spBounds K) fb fdb)
    (Mput : Meth K CD "put" fp) (Gput : FnOk P w K mg base (L2.CX P w) 6 fp fdp ["self", "table", "row"] (spPut K CS CT CI CD CW)) (bput : Binds K fdp ["self", "table", "row"] [])
    (Cmk : CalM P w K mg base 8 CD "make" ["self", "write"] (spMake K CD) fm fdm) (Csw : CalM P w K mg base 8 CD "saw" ["self", "table", "bounds"] (spSaw K CD) fs fds) :
    FnOk P w K mg base CX0 9 f (PySem.W.fnOf "_law_saw" "_law_saw" (defArgs s_l_saw) (defBody s_l_saw) (defScope s_l_saw) .none kV doc pm an (.ref cB) ct) ["_law_box", "_law_dealing", "_law_d", "_law_tables"] (spSawL K CS CT CI CD PB) := by
  refine fn_of lk hcd scSawL (fun vs H Q E h => ?_) (fun A outer s H vs Q E hr h => ?_)
  · obtain ⟨a, b, st, bk, tt, own, B, sc, m, x, j, us0, ys, rfl, _⟩ := h
    rfl
  · obtain ⟨a, b, st, bk, tt, own, B, sc, m, x, j, us0, ys, rfl, c, est, nn0, nn1, ld, lp, j50, sep, htt, pzc, ne0, l10, num, tabs, kk⟩ := h
    have hr8 : Room 8 _ := hr
    have big : (100000 : Nat) < sizeLine := by decide
    suffices hh : ∃ t, PSs (cxOf CX0 P w K mg base ["_law_box", "_law_dealing", "_law_d", "_law_tables", "_law_table", "_law_fields", "_law_way", "_law_mark", "_law_write", "_law_spans"] "_law_saw" (defScope s_l_saw) f (.ref cB) A outer s H E).nox (defBody s_l_saw) t ∧ t { nx := fun _ H' => Q .non H', rt := Q } (L2.start ["_law_box", "_law_dealing", "_law_d", "_law_tables", "_law_table", "_law_fields", "_law_way", "_law_mark", "_law_write", "_law_spans"] [V.ref a, V.ref x.dl, V.ref x.da, V.ref tt]) H by
      obtain ⟨t, h1, h2⟩ := hh
      exact ⟨t, h1.nox, h2⟩
    refine ⟨_, (pss_cons (ps_asg (pe_ix (RK.ixT (K := K)) (pv 3) (pe_call Ctk.G hr8 (by rfl) Ctk.g Ctk.kp Ctk.b .nil pass0 (pa_cons (pv 0) (pa_cons (pe_callB (RK.lenQ (K := K)) (by rfl) T.len PySem.boot_len (pa_cons (pv 3) pa_nil)) pa_nil))) (fun _ _ => rfl)) (RK.pgTup (K := K) (n := 2) rfl (pgs_cons (pg_name (i := 4) scSawL.nd rfl (Or.inr rfl)) (pgs_cons (pg_name (i := 5) scSawL.nd rfl (Or.inr rfl)) pgs_nil))))
      (pss_cons (ps_set (i := 6) scSawL.nd rfl (Or.inl rfl) (pe_call Ctk.G hr8 (by rfl) Ctk.g Ctk.kp Ctk.b .nil pass0 (pa_cons (pv 0) (pa_cons pe_int pa_nil))))
      (pss_one (ps_if (pt_cmpR op_eq (pv 6) pe_int (nomark _)) (pss_cons (ps_set (i := 7) scSawL.nd rfl (Or.inr rfl) (pe_call Ctk.G hr8 (by rfl) Ctk.g Ctk.kp Ctk.b .nil pass0 (pa_cons (pv 0) (pa_cons pe_int pa_nil))))
        (pss_cons (ps_expr (TH.pe_callC (E := E0) Cto.G hr8 (by rfl) Cto.g Cto.kp Cto.b .nil (fun _ => rfl) (pa_cons (TH.pe_lam0 (k := 6) (T := Tb2 PB) (c := cB) (P := PB) (N := ["_law_box", "_law_dealing", "_law_fields", "_law_mark", "_law_table"]) (js := [0, 1, 5, 7, 4]) TB rfl (List.mem_singleton.mpr rfl) (fun q m _ => by rw [List.mem_singleton.mp m]; rfl) (nscope_by (by decide +kernel)) (by show ndefB (defScope s_l_saw) _ _ = true; decide +kernel) rfl rfl (fun _ _ _ => rfl) (fun f9 c9 A9 o9 s9 H9 E9 r9 => (pe_meth (pe_var (i := 1) rfl (.inr (.inr rfl))) TD.cl Mput Gput (r9.mono (by decide)) bput .nil passN' (pa_cons (pe_var (i := 4) rfl (.inr (.inr rfl))) (pa_cons (pe_call Crw.G (r9.mono (by decide)) (by rfl) Crw.g Crw.kp Crw.b .nil pass0 (pa_cons (pe_var (i := 0) rfl (.inr (.inr rfl))) (pa_cons (pe_var (i := 3) rfl (.inr (.inr rfl))) (pa_cons (pe_var (i := 2) rfl (.inr (.inr rfl))) pa_nil)))) pa_nil))))) pa_nil)))
        (pss_one (ps_expr (RK.bm (K := K) PySem.F.plainAttrs_list PySem.F.slot_list_append PySem.F.type_list_append mt_append (pe_ix (RK.ixL (K := K)) (pv 2) pe_int (fun _ _ => rfl)) (pa_cons (pe_tup (pa_cons (pv 4) (pa_cons (pv 5) (pa_cons (pe_disp (pps_cons (pe_ix (RK.ixT (K := K)) (pv 5) pe_int (fun _ _ => rfl)) (pe_tup (pa_cons (pv 7) (pa_cons (pv 7) pa_nil))) pps_nil) (by rfl) (by rfl) (fun z => by cases z) (by decide)) pa_nil)))) pa_nil)))))) (pss_one (ps_if (PW.pt (pw_and (pt_cmpR op_eq (pv 6) pe_int (nomark _)) (pw_and1 (pt_cmpR op_gt (pe_callB (RK.lenQ (K := K)) (by rfl) T.len PySem.boot_len (pa_cons (pv 5) pa_nil)) pe_int (nomark _))))) (pss_cons (ps_set (i := 8) scSawL.nd rfl (Or.inl rfl) (pe_tup (pa_cons pe_str (pa_cons (pv 4) (pa_cons (pe_ix (RK.ixT (K := K)) (pv 5) pe_int (fun _ _ => rfl)) pa_nil)))))
          (pss_cons (ps_expr (pe_meth (pv 1) TD.cl Cmk.mt Cmk.G hr8 Cmk.b .nil pass0 (pa_cons (pv 8) pa_nil)))
          (pss_one (ps_expr (RK.bm (K := K) PySem.F.plainAttrs_list PySem.F.slot_list_append PySem.F.type_list_append mt_append (pe_ix (RK.ixL (K := K)) (pv 2) pe_int (fun _ _ => rfl)) (pa_cons (pv 8) pa_nil)))))) (pss_one (ps_if (pt_cmpR op_eq (pv 6) pe_int (nomark _)) (pss_one (ps_expr (pe_meth (pv 1) TD.cl Csw.mt Csw.G hr8 Csw.b .nil pass0 (pa_cons (pv 4) (pa_cons pe_non pa_nil))))) (pss_cons (ps_set (i := 9) scSawL.nd rfl (Or.inl rfl) (pe_call Cbo.G hr8 (by rfl) Cbo.g Cbo.kp Cbo.b .nil pass0 (pa_cons (pv 0) (pa_cons (pv 5) pa_nil))))
            (pss_cons (ps_expr (pe_meth (pv 1) TD.cl Csw.mt Csw.G hr8 Csw.b .nil pass0 (pa_cons (pv 4) (pa_cons (pv 9) pa_nil))))
            (pss_cons (ps_expr (RK.bm (K := K) PySem.F.plainAttrs_list PySem.F.slot_list_append PySem.F.type_list_append mt_append (pe_ix (RK.ixL (K := K)) (pv 2) pe_int (fun _ _ => rfl)) (pa_cons (pe_tup (pa_cons (pv 4) (pa_cons (pv 5) (pa_cons (pe_callTy call_dictD (by rfl) T.dict (by decide +kernel) (pa_cons (pv 9) pa_nil)) pa_nil)))) pa_nil)))
            (pss_one (ps_expr (pe_dclear (pv 9))))))))))))))), ?_⟩
    have KX : (cxOf CX0 P w K mg base ["_law_box", "_law_dealing", "_law_d", "_law_tables", "_law_table", "_law_fields", "_law_way", "_law_mark", "_law_write", "_law_spans"] "_law_saw" (defScope s_l_saw) f (.ref cB) A outer s H E).nox.K = K := rfl
    have na : a ∉ xfp x := fun h => sep a h (wfp_mem.mpr (.inl rfl))
    have nb : b ∉ xfp x := fun h => sep b h (wfp_mem.mpr (.inr (.inl rfl)))
    -- the box alone
    have draw : ∀ H1 H2, Keep a b H1 H2 → BoxAt H1 a b → BoxAt H2 a b → Ws K CS CT CI H1 a b st bk own B sc m → LdA K CD H1 x → Tabs (Tb2 PB) H1 → KFN (a :: b :: xfp x) H H1 → Ws K CS CT CI H2 a b st bk own B sc m ∧ LdA K CD H2 x ∧ Tabs (Tb2 PB) H2 ∧ KFN (a :: b :: xfp x) H H2 := fun H1 H2 k b1 b2 c1 l1 t1 k1 =>
      ⟨c1.take k b2, l1.keep (fun y hy o e => k y o (fun q => na (q ▸ hy)) (fun q => nb (q ▸ hy)) e) (Keep.tk b1 k), tabs_box t1 b1 k, k1.trans fun y o n _ e => k y o (fun q => n (q ▸ List.mem_cons_self ..)) (fun q => n (q ▸ List.mem_cons_of_mem _ (List.mem_cons_self ..))) e⟩
    have l0 : 0 < us0.length := List.length_pos_iff.mpr ne0
    refine sa1 ⟨_, rfl, _, rfl, _, rfl, tt, _, rfl, .inr htt, a, b, _, rfl, by omega, by omega, c.bx, fun r1 H1 r10 r11 B1 k1 => ?_⟩
    obtain ⟨i1, rfl⟩ : ∃ i : Nat, r1 = (i : Nat) := ⟨r1.toNat, by omega⟩
    have hi1 : i1 < us0.length := by omega
    have ei1 := List.getElem?_eq_getElem hi1
    generalize us0[i1] = y1 at ei1
    obtain ⟨z, ez, q0, f0, t0, rfl, ht0, rfl, hq0, hf0⟩ := pw_get pzc ei1
    have tk1 := Keep.tk c.bx k1
    obtain ⟨c1, ld1, tb1, kn1⟩ := draw H H1 k1 c.bx B1 c ld tabs (KFN.same (Same.refl H))
    have hf1 := hf0.keep tk1
    refine ⟨tt, _, _, _, rfl, rfl, sqt_keep tk1 htt, atI_nat ei1, q0, _, rfl, sqt_keep tk1 hq0, rfl, _, _, rfl, gn ⟨_, _, rfl, gn ⟨rfl, ?_⟩⟩⟩
    refine sa1 ⟨_, rfl, a, b, 6, rfl, by decide, by decide, B1, fun r2 H2 r20 r21 B2 k2 => gn ?_⟩
    have tk2 := Keep.tk B1 k2
    obtain ⟨c2, ld2, tb2, kn2⟩ := draw H1 H2 k2 B1 B2 c1 ld1 tb1 kn1
    have hf2 := hf1.keep tk2
    have k1' := k1
    clear hf1 hf0 tb1 ld1 c1 kn1 B1 k1 tk1
    have nz : t0.2.1 ≤ x.dc.number := by
      have h := num t0.1 (List.mem_of_getElem? ez)
      rw [numOf_of c.r.nd ht0] at h
      exact h
    obtain ⟨nf, l4, fnd, _⟩ := c.r.fl t0 ht0
    refine ifs ⟨_, rfl, rfl, _, rfl, ?_⟩
    by_cases cc0 : V.int r2 = V.int 0
    · rw [decide_eq_true cc0]
      refine iteT ?_
      have fr2 : ∀ y, H2 y = none → H y = none := fun y e => by
        cases eo : H y with
        | none => rfl
        | some o =>
          obtain ⟨z', cs, g1, g2, _⟩ := B2
          rw [k2 y o (fun q => by rw [q, g1] at e; cases e) (fun q => by rw [q, g2] at e; cases e) (k1' y o (fun q => by rw [q, g1] at e; cases e) (fun q => by rw [q, g2] at e; cases e) eo)] at e
          cases e
      have keepN : ∀ H1 H2, BoxAt H2 a b → Keep a b H1 H2 → ∀ y, H2 y = none → H1 y = none := fun H1 H2 bx k y e => by
        cases eo : H1 y with
        | none => rfl
        | some o =>
          obtain ⟨z', cs, g1, g2, _⟩ := bx
          rw [k y o (fun q => by rw [q, g1] at e; cases e) (fun q => by rw [q, g2] at e; cases e) eo] at e
          cases e
      refine sa1 ⟨_, rfl, a, b, 8, rfl, by decide, by decide, B2, fun k H3 k0 k8 B3 k3 => gn ?_⟩
      obtain ⟨c3, ld3, tb3, kn3⟩ := draw H2 H3 k3 B2 B3 c2 ld2 tb2 kn2
      have hf3 := hf2.keep (Keep.tk B2 k3)
      have fr3 : ∀ y, H3 y = none → H y = none := fun y e => fr2 y (keepN _ _ B3 k3 y e)
      obtain ⟨f00, frr, ef⟩ : ∃ f00 frr, t0.2.2 = f00 :: frr := by
        cases e : t0.2.2 with
        | nil => exact absurd e nf
        | cons u v => exact ⟨u, v, rfl⟩
      obtain ⟨u, hu, eu1, eu2, eu3⟩ := c.r.tbn ht0
      refine sq1R (fun H5 => ∃ own5 dc5, Ws K CS CT CI H5 a b st bk own5 B sc m ∧ (∀ y ∈ own5, y ∈ own) ∧ LdA K CD H5 { x with dc := dc5 } ∧ SawTo x.dc.sights dc5.sights t0.1 [(f00, (some k, some k))] ∧ dc5.number = x.dc.number ∧ dc5.st = x.dc.st ∧ dc5.made = x.dc.made ∧ dc5.laid.length ≤ j + 1 ∧ (∀ y ∈ dc5.laid, y.2.2.length ≤ j + 1) ∧ KFN (a :: b :: xfp x) H H5 ∧ SqT K H5 f0 (t0.2.2.map V.str) ∧ (∀ y ∈ dfp dc5 x.dl, y ∈ dfp x.dc x.dl ∨ H y = none) ∧ (∀ y, y ∉ xfp x → H5 y = none → H y = none) ∧ Tabs (Tb2 PB) H5) ?_ fun fin => ?_
      · rintro H5 ⟨own5, dc5, c5, sub5, ld5, sw5, en5, es5, em5, f35, f45, kn5, hf5, fp5, fr5, tb5⟩
        obtain ⟨vs, v1, v2⟩ := ld5.h1
        have lvs := pw_len v2
        have at00 : atI (t0.2.2.map V.str) 0 = some (.str f00) := by rw [ef]; exact at0
        refine ⟨_, rfl, x.da, _, 1, .ref x.p1, rfl, rfl, SqL.of ld5.hd, rfl, .inl ⟨rfl, _, SqL.of v1⟩, _, rfl, _, rfl, fun s hs => ?_⟩
        have s6 := same_new (o := .dK []) hs
        have hs6 : (upd H5 s (.dK [])) s = some (.dK []) := upd_same
        have zs := hs
        generalize upd H5 s (.dK []) = H6 at s6 hs6
        refine ⟨_, rfl, f0, _, 0, .str f00, rfl, rfl, sqt_keep (TK.same s6) hf5, at00, _, rfl, _, rfl, by show 2 ≤ sizeLine; decide, fun q1 hq1 => ?_⟩
        have s7 := same_new (o := .tup [.int k, .int k]) hq1
        have h71 : (upd H6 q1 (.tup [.int k, .int k])) q1 = some (.tup [.int k, .int k]) := upd_same
        generalize upd H6 q1 (.tup [.int k, .int k]) = H7 at s7 h71
        have hs7 := s7 _ _ hs6
        refine ⟨hs7, [(Sum.inr f00, .ref q1)], rfl, by show 1 ≤ 15; decide, ?_⟩
        have s58 : Same H5 (upd H7 s (.dK (mergeK [] [(Sum.inr f00, .ref q1)]))) := fun y o e => by
          rw [upd_ne (ne_of_none e zs)]
          exact s7 _ _ (s6 _ _ e)
        have bd8 : BdAt K (upd H7 s (.dK (mergeK [] [(Sum.inr f00, .ref q1)]))) s [(f00, (some k, some k))] := by
          refine ⟨[(Sum.inr f00, .ref q1)], upd_same, .cons ⟨rfl, q1, rfl, SqT.of ?_⟩ .nil⟩
          rw [upd_ne (ne_of h71 hs7 (by intro z; cases z))]
          exact h71
        generalize upd H7 s (.dK (mergeK [] [(Sum.inr f00, .ref q1)])) = H8 at s58 bd8
        refine ⟨by show 3 ≤ sizeLine; decide, fun q hq => ?_⟩
        have s9 := same_new (o := .tup [.str t0.1, .ref f0, .ref s]) hq
        have hq9 : (upd H8 q (.tup [.str t0.1, .ref f0, .ref s])) q = some (.tup [.str t0.1, .ref f0, .ref s]) := upd_same
        generalize upd H8 q (.tup [.str t0.1, .ref f0, .ref s]) = H9 at s9 hq9
        have s59 := s58.trans s9
        have ld9 := ld5.same s59
        have v19 := s59 _ _ v1
        have v29 := lsa_keep (TK.same s59) (fun l _ o e => s59 _ _ e) v2
        have hl : LsaAt K H9 (s, t0.1, t0.2.2, [(f00, (some k, some k))]) (.ref q) := ⟨q, f0, rfl, SqT.of hq9, sqt_keep (TK.same s59) hf5, bd8.same s9⟩
        have ld10 := ld9.note v19 v29 hl (fun h => by
          obtain ⟨o, e2, _⟩ := ld5.pd.notbl h
          rw [zs] at e2; cases e2)
        have xp1 : x.p1 ∈ xfp x := xfp_mem.mpr (.inl (by simp [lfp]))
        have kf10 : KF [x.p1] H9 (upd H9 x.p1 (.lst (vs ++ [.ref q]))) := KF.upd (.inl (List.mem_singleton.mpr rfl))
        have tk10 : TK H9 (upd H9 x.p1 (.lst (vs ++ [.ref q]))) := fun y u hu e => by rw [upd_ne (ne_of e v19 (by intro z; subst z; exact hu))]; exact e
        have sub6 : ∀ y ∈ wfp a b st bk own5 B sc, y ∈ wfp a b st bk own B sc := wfp_sub sub5
        refine ⟨x.p1, vs, _, rfl, rfl, v19, Nat.lt_of_le_of_lt (show vs.length ≤ 100000 by rw [← lvs]; have := lp.f2; show x.ls.length ≤ _; omega) big, ?_⟩
        refine kk own5 { x with dc := dc5, ls := x.ls ++ [(s, t0.1, t0.2.2, [(f00, (some k, some k))])] } _ ((c5.same s59).keepW (fun y hy o e => kf10 y o (fun mm => sep y (by rw [List.mem_singleton.mp mm]; exact xp1) (sub6 y hy)) e) tk10) sub5 ld10 (lp.note sw5 ht0 rfl rfl (List.nodup_cons.mpr ⟨List.not_mem_nil, List.nodup_nil⟩) f35 f45 (by rw [em5]; exact Nat.le_succ_of_le lp.f5)) rfl rfl en5 es5 (kn5.trans ((KFN.same s59).trans ((KFN.of kf10).mono fun y h => by rw [List.mem_singleton.mp h]; exact List.mem_cons_of_mem _ (List.mem_cons_of_mem _ xp1)))) (fun y hy => ?_) (tabs_kf (tb5.ext s59) (fun y h => ⟨HO.lst vs, (List.mem_singleton.mp h) ▸ v19, by exact trivial⟩) kf10)
        rcases xfp_mem.mp hy with h | h
        · simp only [lfp, List.map_append, List.mem_cons, List.mem_append, List.map_cons, List.map_nil, List.not_mem_nil, or_false] at h
          rcases h with h | h | h | h | h
          · exact .inl (xfp_mem.mpr (.inl (by rw [h]; simp [lfp])))
          · exact .inl (xfp_mem.mpr (.inl (by rw [h]; simp [lfp])))
          · exact .inl (xfp_mem.mpr (.inl (by rw [h]; simp [lfp])))
          · exact .inl (xfp_mem.mpr (.inl (by simp only [lfp, List.mem_cons]; exact .inr (.inr (.inr h)))))
          · by_cases hx : y ∈ xfp x
            · exact .inl hx
            · exact .inr (fr5 y hx (h ▸ zs))
        · exact (fp5 y h).imp (fun h => xfp_mem.mpr (.inr h)) id
      · refine te_l0 rfl tb3 fun fl H4 eN nn4 tb4 Q' E' hQ hE => ?_
        obtain ⟨own4, sub4, c4⟩ := c3.ext eN
        have ld4 := ld3.ext eN
        have hf4 := hf3.keep (tk_ext eN)
        have kn4 := kn3.trans (KFN.ext (fp := a :: b :: xfp x) eN)
        obtain ⟨dx, fs, ob, l⟩ := ld4.pd.ob
        refine ⟨_, rfl, x.dl, dx, fs, rfl, ob, l.no _ (by decide +kernel) (by decide +kernel) (by decide +kernel) (by decide +kernel) (by decide +kernel) (by decide +kernel), _, rfl, _, rfl, _, rfl, _, rfl, a, b, f0, k, t0.2.2, rfl, c4.bx, hf4.sq, nf, l4, by omega, fun p ns H5 k5 B5 hp len hdn vn => ?_⟩
        have c5 := c4.take k5 B5
        have ld5 : LdA K CD H5 x := ld4.keep (fun y hy o e => k5 y o (fun q => na (q ▸ hy)) (fun q => nb (q ▸ hy)) e) (Keep.tk c4.bx k5)
        have tb5 := tabs_box tb4 c4.bx k5
        have kn5 : KFN (a :: b :: xfp x) H H5 := kn4.trans fun y o n _ e => k5 y o (fun q => n (q ▸ List.mem_cons_self ..)) (fun q => n (q ▸ List.mem_cons_of_mem _ (List.mem_cons_self ..))) e
        have hf5 := hf4.keep (Keep.tk c4.bx k5)
        have fr5 : ∀ y, H5 y = none → H y = none := fun y e => fr3 y (nn4 y (keepN _ _ B5 k5 y e))
        obtain ⟨nr, rfl⟩ : ∃ nr, ns = k :: nr := by
          cases ns with
          | nil => cases hdn
          | cons q nr => exact ⟨nr, by rw [show q = k by simpa using hdn]⟩
        have sub6 : ∀ y ∈ wfp a b st bk own4 B sc, y ∈ wfp a b st bk own B sc := wfp_sub sub4
        have nw : ∀ y ∈ wfp a b st bk own4 B sc, y ∉ dfp x.dc x.dl := fun y hy h => sep y (xfp_mem.mpr (.inr h)) (sub6 y hy)
        have fin6 : ∀ dc6 H6 H7, DAt K CD H6 x.dl dc6 → SawTo x.dc.sights dc6.sights t0.1 [(f00, (some k, some k))] → dc6.number = x.dc.number → dc6.st = x.dc.st → dc6.made = x.dc.made → dc6.laid.length ≤ j + 1 → (∀ y ∈ dc6.laid, y.2.2.length ≤ j + 1) → KF (dfp x.dc x.dl) H5 H6 → (∀ y ∈ dfp dc6 x.dl, y ∈ dfp x.dc x.dl ∨ H5 y = none) → Same H6 H7 → _ := fun dc6 H6 H7 d6 sw6 en6 es6 em6 f36 f46 kf6 fp6 s7 =>
          fin H7 ⟨own4, dc6, (c5.keepW (fun y hy o e => kf6 y o (nw y hy) e) (KF.tkD ld5.pd (fun _ h => h) kf6)).same s7, sub4, (ld5.deal d6 en6 kf6 fp6).same s7, sw6, en6, es6, em6, f36, f46, kn5.trans (((KFN.of kf6).mono fun y h => List.mem_cons_of_mem _ (List.mem_cons_of_mem _ (xfp_mem.mpr (.inr h)))).trans (KFN.same s7)), sqt_keep (TK.same s7) (sqt_keep (KF.tkD ld5.pd (fun _ h => h) kf6) hf5.sq), fun y hy => (fp6 y hy).imp id (fr5 y), fun y n e => fr5 y (by
            cases eo : H5 y with
            | none => rfl
            | some o => rw [s7 _ _ (kf6 y o (fun h => n (xfp_mem.mpr (.inr h))) eo)] at e; cases e), (tabs_kf tb5 (fun y h => ld5.pd.notbl h) kf6).ext s7⟩
        refine ⟨x.dl, p, t0.1, k, nr, u, f00, frr, x.dc, sc, m, rfl, hp, ld5.pd, by rw [est]; exact c5.sa, c5.ok, c5.r.srt', by have z := c5.r.first; have z : sc.first = 0 := z; omega, nn1, hu, eu1, by omega, by rw [eu3, ef], by have := lp.f1; omega, lp.nS, by have := lp.f3; omega, fun y hy => by have := lp.f4 y hy; omega, fun y hy h => nw y (wfp_mem.mpr (.inr (.inr (.inr (by rw [← est]; exact h))))) hy, fun _ ss H6 sw6 d6 kf6 fp6 => ?_, fun _ ss ls6 H6 sw6 d6 ez6 ll6 lj6 nm6 kf6 fp6 => ?_⟩
        · refine hE _ _ _ ⟨CW, 7, "Twice", rfl, rfl, eW, rfl, fun p3 H7 s7 np hp3 => ?_⟩
          exact fin6 { x.dc with sights := ss } H6 H7 d6 sw6 rfl rfl rfl (Nat.le_succ_of_le lp.f3) (fun y hy => Nat.le_succ_of_le (lp.f4 y hy)) (fun y o n e => kf6 y o (fun mm => n (by rw [List.mem_singleton.mp mm]; simp [dfp])) e) fp6 s7
        · refine hQ _ _ ?_
          exact fin6 { x.dc with sights := ss, laid := ls6 } H6 H6 d6 sw6 rfl rfl rfl (Nat.le_trans ll6 (Nat.succ_le_succ lp.f3)) (lj6 j lp.f4) (fun y o n e => kf6 y o (fun mm => n (by
            simp only [dfp, List.mem_cons, List.mem_append] at mm ⊢
            rcases mm with h | h | h
            · exact .inr (.inr (.inr (.inl h)))
            · exact .inr (.inr (.inl h))
            · exact .inr (.inr (.inr (.inr (.inr h)))))) e) fp6 (Same.refl H6)
    rw [decide_eq_false cc0]
    refine iteF (ifsE ?_ fun els => ⟨_, rfl, rfl, _, rfl, ?_⟩)
    rotate_left
    by_cases cc1 : V.int r2 = V.int 1
    · rw [decide_eq_true cc1]
      refine iteT ⟨_, rfl, f0, _, rfl, .inr hf2.sq, _, _, rfl, rfl, _, rfl, ?_⟩
      have lfs : (t0.2.2.map V.str).length = t0.2.2.length := List.length_map ..
      by_cases c1 : (1 : Int) < ((t0.2.2.map V.str).length : Nat)
      · rw [decide_eq_true c1]
        refine iteT ?_
        have lt1 : 1 < t0.2.2.length := by omega
        have ef1 : atI (t0.2.2.map V.str) 1 = some (.str t0.2.2[1]) := atI_nat (j := 1) (by rw [List.getElem?_map, List.getElem?_eq_getElem lt1]; rfl)
        generalize t0.2.2[1] = g1 at ef1
        refine sa1 ⟨_, rfl, _, rfl, f0, _, 1, _, rfl, rfl, hf2.sq, ef1, by show 3 ≤ sizeLine; decide, fun q hq => gn ?_⟩
        have s3 := same_new (o := .tup [.str "index", .str t0.1, .str g1]) hq
        have q3 : (upd H2 q (.tup [.str "index", .str t0.1, .str g1])) q = some (.tup [.str "index", .str t0.1, .str g1]) := upd_same
        have c3 := c2.same s3
        have ld3 := ld2.same s3
        have tb3 := tb2.ext s3
        have kn3 := kn2.trans (KFN.same s3)
        generalize upd H2 q (.tup [.str "index", .str t0.1, .str g1]) = H3 at s3 q3 c3 ld3 tb3 kn3
        obtain ⟨dx, fs, ob, l⟩ := ld3.pd.ob
        refine sq1 ⟨_, rfl, x.dl, dx, fs, rfl, ob, l.no _ (by decide +kernel) (by decide +kernel) (by decide +kernel) (by decide +kernel) (by decide +kernel) (by decide +kernel), _, rfl, x.dl, q, t0.1, g1, x.dc, rfl, SqT.of q3, ld3.pd, by have := lp.f5; omega, fun H4 d4 kf4 => ?_⟩
        have kfd : KF (dfp x.dc x.dl) H3 H4 := fun y o n e => kf4 y o (fun mm => n (by rw [List.mem_singleton.mp mm]; simp [dfp])) e
        have ld4 : LdA K CD H4 { x with dc := { x.dc with made := x.dc.made ++ [(t0.1, g1)] } } := ld3.deal d4 rfl kfd fun y h => .inl h
        have kfw : KFN (a :: b :: xfp x) H3 H4 := (KFN.of kfd).mono fun y h => List.mem_cons_of_mem _ (List.mem_cons_of_mem _ (xfp_mem.mpr (.inr h)))
        have nw : ∀ y ∈ wfp a b st bk own B sc, y ∉ dfp x.dc x.dl := fun y hy h => sep y (xfp_mem.mpr (.inr h)) hy
        have tkd := KF.tkD ld3.pd (fun _ h => h) kfd
        have c4 : Ws K CS CT CI H4 a b st bk own B sc m := c3.keepW (fun y hy o e => kfd y o (nw y hy) e) tkd
        have tb4 := tabs_kf tb3 (fun y h => ld3.pd.notbl h) kfd
        obtain ⟨ws, w1, w2⟩ := ld4.h2
        refine ⟨_, rfl, x.da, _, 2, .ref x.p2, rfl, rfl, SqL.of ld4.hd, rfl, .inl ⟨rfl, _, SqL.of w1⟩, _, rfl, x.p2, ws, _, rfl, rfl, w1, Nat.lt_of_le_of_lt (show ws.length ≤ 100000 by rw [w2]; have := lp.f6; show x.n2 ≤ _; omega) big, ?_⟩
        have ld5 := ld4.note2 (v := .ref q) w1 w2
        have kf5 : KF [x.p2] H4 (upd H4 x.p2 (.lst (ws ++ [.ref q]))) := KF.upd (.inl (List.mem_singleton.mpr rfl))
        have xp2 : x.p2 ∈ xfp x := xfp_mem.mpr (.inl (by simp [lfp]))
        have tk5 : TK H4 (upd H4 x.p2 (.lst (ws ++ [.ref q]))) := fun y u hu e => by rw [upd_ne (ne_of e w1 (by intro z; subst z; exact hu))]; exact e
        refine kk own _ _ (c4.keepW (fun y hy o e => kf5 y o (fun mm => sep y (by rw [List.mem_singleton.mp mm]; exact xp2) hy) e) tk5) (fun _ h => h) ld5 ⟨lp.s1, lp.s2, lp.fl, lp.nS, Nat.le_succ_of_le lp.f1, Nat.le_succ_of_le lp.f2, Nat.le_succ_of_le lp.f3, fun y hy => Nat.le_succ_of_le (lp.f4 y hy), by show (x.dc.made ++ _).length ≤ _; rw [List.length_append]; exact Nat.succ_le_succ lp.f5, Nat.succ_le_succ lp.f6⟩ rfl rfl rfl rfl (kn3.trans (kfw.trans ((KFN.of kf5).mono fun y h => by rw [List.mem_singleton.mp h]; exact List.mem_cons_of_mem _ (List.mem_cons_of_mem _ xp2)))) (fun y h => .inl h) (tabs_kf tb4 (fun y h => ⟨HO.lst ws, (List.mem_singleton.mp h) ▸ w1, by exact trivial⟩) kf5)
      · rw [decide_eq_false c1]
        exact iteF els
    rw [decide_eq_false cc1]
    exact iteF (iteF els)
    refine ifs ⟨_, rfl, rfl, _, rfl, ?_⟩
    by_cases cc2 : V.int r2 = V.int 2
    · rw [decide_eq_true cc2]
      refine iteT ?_
      obtain ⟨dx, fs, ob, l⟩ := ld2.pd.ob
      refine ⟨_, rfl, x.dl, dx, fs, rfl, ob, l.no _ (by decide +kernel) (by decide +kernel) (by decide +kernel) (by decide +kernel) (by decide +kernel) (by decide +kernel), _, rfl, .inl ⟨x.dl, _, rfl, ?_⟩⟩
      exact kk own x H2 c2 (fun _ h => h) ld2 (lp.mono (fun _ h => h) (Nat.le_succ j)) rfl rfl rfl rfl kn2 (fun _ h => .inl h) tb2
    rw [decide_eq_false cc2]
    have fr2 : ∀ y, H2 y = none → H y = none := fun y e => by
      cases eo : H y with
      | none => rfl
      | some o =>
        obtain ⟨z', cs, g1, g2, _⟩ := B2
        rw [k2 y o (fun q => by rw [q, g1] at e; cases e) (fun q => by rw [q, g2] at e; cases e) (k1' y o (fun q => by rw [q, g1] at e; cases e) (fun q => by rw [q, g2] at e; cases e) eo)] at e
        cases e
    refine iteF (sa1 ⟨_, rfl, _, rfl, a, b, f0, t0.2.2, rfl, B2, hf2.sq, l4, fnd, fun s0 bs H3 k3 B3 zs bd3 ndb lb => gn ?_⟩)
    obtain ⟨c3, ld3, tb3, kn3⟩ := draw H2 H3 k3 B2 B3 c2 ld2 tb2 kn2
    have tk3 := Keep.tk B2 k3
    have hf3 := hf2.keep tk3
    have zs0 := fr2 _ zs
    have s0x : s0 ∉ xfp x := fun h => by
      obtain ⟨o, e, _⟩ := ld.notbl h
      rw [zs0] at e; cases e
    obtain ⟨dx, fs, ob, l⟩ := ld3.pd.ob
    refine sq1 ⟨_, rfl, x.dl, dx, fs, rfl, ob, l.no _ (by decide +kernel) (by decide +kernel) (by decide +kernel) (by decide +kernel) (by decide +kernel) (by decide +kernel), _, rfl, _, rfl, ?_⟩
    dsimp only [tNil, List.append_nil]
    refine sawR (fun H4 => ∃ dc4 : DC, LdA K CD H4 { x with dc := dc4 } ∧ SawTo x.dc.sights dc4.sights t0.1 bs ∧ dc4.number = x.dc.number ∧ dc4.st = x.dc.st ∧ dc4.laid = x.dc.laid ∧ dc4.made = x.dc.made ∧ KF (dfp x.dc x.dl) H3 H4 ∧ ∀ y ∈ dfp dc4 x.dl, y ∈ dfp x.dc x.dl ∨ H3 y = none) ?_ fun fin => ?_
    · rintro H4 ⟨dc4, ld4, sw, en4, es4, el4, em4, kf4, fp4⟩
      have nw : ∀ y ∈ wfp a b st bk own B sc, y ∉ dfp x.dc x.dl := fun y hy h => sep y (xfp_mem.mpr (.inr h)) hy
      have tkd := KF.tkD ld3.pd (fun _ h => h) kf4
      have c4 : Ws K CS CT CI H4 a b st bk own B sc m := c3.keepW (fun y hy o e => kf4 y o (nw y hy) e) tkd
      have tb4 := tabs_kf tb3 (fun y h => ld3.pd.notbl h) kf4
      have kn4 : KFN (a :: b :: xfp x) H H4 := kn3.trans ((KFN.of kf4).mono fun y h => List.mem_cons_of_mem _ (List.mem_cons_of_mem _ (xfp_mem.mpr (.inr h))))
      have fr3 : ∀ y, H3 y = none → H y = none := fun y e => fr2 y (by
        cases eo : H2 y with
        | none => rfl
        | some o =>
          obtain ⟨z', cs, g1, g2, _⟩ := B3
          rw [k3 y o (fun q => by rw [q, g1] at e; cases e) (fun q => by rw [q, g2] at e; cases e) eo] at e
          cases e)
      have fr4 : ∀ y, y ∉ xfp x → H4 y = none → H y = none := fun y n e => fr3 y (by
        cases eo : H3 y with
        | none => rfl
        | some o => rw [kf4 y o (fun h => n (xfp_mem.mpr (.inr h))) eo] at e; cases e)
      have bd4 : BdAt K H4 s0 bs := bd3.keep (fun o e => kf4 s0 o (fun h => s0x (xfp_mem.mpr (.inr h))) e) tkd
      obtain ⟨kvs, hk4, pr4⟩ := id bd4
      obtain ⟨vs, v1, v2⟩ := ld4.h1
      have lvs := pw_len v2
      refine sq1 ⟨_, rfl, x.da, _, 1, .ref x.p1, rfl, rfl, SqL.of ld4.hd, rfl, .inl ⟨rfl, _, SqL.of v1⟩, _, rfl, _, rfl, _, rfl, s0, kvs, rfl, .inl hk4, fun s hs => ?_⟩
      have s5 := same_new (o := .dK kvs) hs
      have hs5 : (upd H4 s (.dK kvs)) s = some (.dK kvs) := upd_same
      generalize upd H4 s (.dK kvs) = H5 at s5 hs5
      refine ⟨by show 3 ≤ sizeLine; decide, fun q hq => ?_⟩
      have s6 := same_new (o := .tup [.str t0.1, .ref f0, .ref s]) hq
      have hq6 : (upd H5 q (.tup [.str t0.1, .ref f0, .ref s])) q = some (.tup [.str t0.1, .ref f0, .ref s]) := upd_same
      generalize upd H5 q (.tup [.str t0.1, .ref f0, .ref s]) = H6 at s6 hq6
      have s46 := s5.trans s6
      have ld6 := ld4.same s46
      have v16 := s46 _ _ v1
      have v26 := lsa_keep (TK.same s46) (fun l _ o e => s46 _ _ e) v2
      have nsd : ∀ y, H4 y = none → y ∉ dfp dc4 x.dl := fun y e h => by
        obtain ⟨o, e2, _⟩ := ld4.pd.notbl h
        rw [e] at e2; cases e2
      have hl : LsaAt K H6 (s, t0.1, t0.2.2, bs) (.ref q) := ⟨q, f0, rfl, SqT.of hq6, sqt_keep (TK.same s46) (sqt_keep tkd hf3.sq), kvs, s6 _ _ hs5, pw_imp (fun _ _ ⟨a, q, b, c⟩ => ⟨a, q, b, sqt_keep (TK.same s46) c⟩) pr4⟩
      have ld7 := ld6.note v16 v26 hl (nsd s hs)
      have xp1 : x.p1 ∈ xfp x := xfp_mem.mpr (.inl (by simp [lfp]))
      have kf7 : KF [x.p1] H6 (upd H6 x.p1 (.lst (vs ++ [.ref q]))) := KF.upd (.inl (List.mem_singleton.mpr rfl))
      have tk7 : TK H6 (upd H6 x.p1 (.lst (vs ++ [.ref q]))) := fun y u hu e => by rw [upd_ne (ne_of e v16 (by intro z; subst z; exact hu))]; exact e
      have c7 := (c4.same s46).keepW (fun y hy o e => kf7 y o (fun mm => sep y (by rw [List.mem_singleton.mp mm]; exact xp1) hy) e) tk7
      have kn7 : KFN (a :: b :: xfp x) H (upd H6 x.p1 (.lst (vs ++ [.ref q]))) := kn4.trans ((KFN.same s46).trans ((KFN.of kf7).mono fun y h => by rw [List.mem_singleton.mp h]; exact List.mem_cons_of_mem _ (List.mem_cons_of_mem _ xp1)))
      have tb7 := tabs_kf (tb4.ext s46) (fun y h => ⟨HO.lst vs, (List.mem_singleton.mp h) ▸ v16, by exact trivial⟩) kf7
      have k07 := kf7 s0 _ (fun mm => s0x (by rw [List.mem_singleton.mp mm]; exact xp1)) (s46 _ _ hk4)
      refine ⟨x.p1, vs, _, rfl, rfl, v16, Nat.lt_of_le_of_lt (show vs.length ≤ 100000 by rw [← lvs]; have := lp.f2; show x.ls.length ≤ _; omega) big, ?_⟩
      generalize upd H6 x.p1 (.lst (vs ++ [.ref q])) = H7 at ld7 c7 kn7 tb7 k07
      refine ⟨_, rfl, .inr (.inr (.inl ⟨rfl, .inl ⟨_, k07⟩⟩)), s0, kvs, rfl, rfl, k07, ?_⟩
      have kf8 : KF [s0] H7 (upd H7 s0 (.dK [])) := KF.upd (.inl (List.mem_singleton.mpr rfl))
      have tk8 : TK H7 (upd H7 s0 (.dK [])) := fun y u hu e => by rw [upd_ne (ne_of e k07 (by intro z; subst z; exact hu))]; exact e
      have n8 : ∀ y, y ≠ s0 → ∀ o, H7 y = some o → (upd H7 s0 (.dK [])) y = some o := fun y n o e => by rw [upd_ne n]; exact e
      have sne : s ≠ s0 := fun q => by rw [q, hk4] at hs; cases hs
      have xin : ∀ y ∈ xfp { x with dc := dc4, ls := x.ls ++ [(s, t0.1, t0.2.2, bs)] }, y ∈ xfp x ∨ y = s ∨ H3 y = none := fun y hy => by
        rcases xfp_mem.mp hy with h | h
        · simp only [lfp, List.map_append, List.mem_cons, List.mem_append, List.map_cons, List.map_nil, List.not_mem_nil, or_false] at h
          rcases h with h | h | h | h | h
          · exact .inl (xfp_mem.mpr (.inl (by rw [h]; simp [lfp])))
          · exact .inl (xfp_mem.mpr (.inl (by rw [h]; simp [lfp])))
          · exact .inl (xfp_mem.mpr (.inl (by rw [h]; simp [lfp])))
          · exact .inl (xfp_mem.mpr (.inl (by simp only [lfp, List.mem_cons]; exact .inr (.inr (.inr h)))))
          · exact .inr (.inl h)
        · exact (fp4 y h).imp (fun h => xfp_mem.mpr (.inr h)) .inr
      have e30 : ∃ o, H3 s0 = some o := by
        obtain ⟨ks, e, _⟩ := bd3
        exact ⟨_, e⟩
      refine kk own { x with dc := dc4, ls := x.ls ++ [(s, t0.1, t0.2.2, bs)] } _ (c7.keepW (fun y hy o e => n8 y (fun q => ?_) o e) tk8) (fun _ h => h) (ld7.keep (fun y hy o e => n8 y (fun q => ?_) o e) tk8) (lp.note sw ht0 rfl rfl ndb ?_ ?_ ?_) rfl rfl en4 es4 (fun y o n t e => n8 y (fun q => by rw [q, zs0] at e; cases e) o (kn7 y o n t e)) (fun y hy => ?_) (tabs_kf tb7 (fun y h => ⟨HO.dK kvs, (List.mem_singleton.mp h) ▸ k07, by exact trivial⟩) kf8)
      · obtain ⟨o', e', _⟩ := c.ne hy
        rw [q, zs0] at e'; cases e'
      · rcases xin y hy with h | h | h
        · exact s0x (q ▸ h)
        · exact sne (h ▸ q)
        · obtain ⟨o', e'⟩ := e30
          rw [q, e'] at h; cases h
      · rw [el4]; exact Nat.le_succ_of_le lp.f3
      · intro y hy
        rw [el4] at hy
        exact Nat.le_succ_of_le (lp.f4 y hy)
      · rw [em4]; exact Nat.le_succ_of_le lp.f5
      · rcases xin y hy with h | h | h
        · exact .inl h
        · by_cases hx : y ∈ xfp x
          · exact .inl hx
          · exact .inr (fr4 y hx (h ▸ hs))
        · exact .inr (fr3 y h)
    · refine .inr ⟨x.dl, s0, t0.1, x.dc, bs, rfl, ld3.pd, by have := lp.f1; omega, lp.nS, bd3, ndb, by omega, fun H4 s4 hh => fin H4 ⟨x.dc, ld3.same s4, .inl ⟨rfl, hh⟩, rfl, rfl, rfl, rfl, KF.same s4, fun y h => .inl h⟩, fun d4 H4 nd4 y4 kf4 => ?_⟩
      have kfd : KF (dfp x.dc x.dl) H3 H4 := fun y o n e => kf4 y o (fun mm => n (by rw [List.mem_singleton.mp mm]; simp [dfp])) e
      have fpd : ∀ y ∈ dfp { x.dc with sights := x.dc.sights ++ [(d4, t0.1, bs)] } x.dl, y ∈ dfp x.dc x.dl ∨ H3 y = none := fun y hy => by
        simp only [dfp, List.mem_cons, List.mem_append, List.map_append, List.map_cons, List.map_nil, List.not_mem_nil, or_false] at hy ⊢
        rcases hy with h | h | h | h | (h | h) | h
        · exact .inl (.inl h)
        · exact .inl (.inr (.inl h))
        · exact .inl (.inr (.inr (.inl h)))
        · exact .inl (.inr (.inr (.inr (.inl h))))
        · exact .inl (.inr (.inr (.inr (.inr (.inl h)))))
        · exact .inr (by rw [h]; exact nd4)
        · exact .inl (.inr (.inr (.inr (.inr (.inr h)))))
      exact fin H4 ⟨_, ld3.deal y4 rfl kfd fpd, .inr ⟨d4, rfl⟩, rfl, rfl, rfl, rfl, kfd, fpd⟩
end
end GS

set_option linter.all false
set_option maxHeartbeats 4000000
namespace GS
open PySem L2 HX LamX NdefX TH
theorem par31 {i j l : Nat} {ta tb tc : TE} {u : TS} {D : Ends} {σ : L2.St} {H : Hp} (h : ta σ H fun x H1 => tb σ H1 fun y H2 => tc σ H2 fun z H3 => ∃ a b c, [x, y, z] = [a, b, c] ∧ u D (((σ.set i (some a)).set j (some b)).set l (some c)) H3) : tSeq (tPar3 i j l (tCons ta (tCons tb (tCons tc tNil)))) u D σ H := h
theorem LdA.keepN {K : PySem.W.Frag} {CD : Addr} {H H' : Hp} {x : LDl} {fp : List Addr} (h : LdA K CD H x) (k : KFN fp H H') (t : TK H H') (s : ∀ b ∈ xfp x, b ∉ fp) : LdA K CD H' x := h.keep (fun b hb o e => k b o (s b hb) (by
  obtain ⟨o', h1, h2⟩ := h.notbl hb
  rw [e] at h1
  rw [Option.some.inj h1]; exact h2) e) t
theorem LDs.keepN {K : PySem.W.Frag} {CD : Addr} {H H' : Hp} {wf wf' fp : List Addr} {xs : List LDl} (h : LDs K CD H wf xs) (k : KFN fp H H') (t : TK H H') (s : ∀ x ∈ xs, ∀ b ∈ xfp x, b ∉ fp) (f : ∀ y ∈ wf', y ∈ wf) : LDs K CD H' wf' xs := ⟨fun x hx => (h.at_ x hx).keepN k t (s x hx), fun x hx b hb m => h.wf x hx b hb (f b m), h.sp⟩
/-- the least of a set, told by both -/
theorem least_eq {S S' : Int → Prop} {o o' : Option Int} {n u : Int} (e : ∀ x, S x ↔ n < x ∧ S' x) (le : ∀ x, S' x → x ≤ u) (h1 : o = none → ∀ x, ¬ S x) (h2 : ∀ i, o = some i → S i ∧ ∀ x, S x → i ≤ x) (g1 : o' = none → ∀ x, n < x → x ≤ u → ¬ S' x) (g2 : ∀ i, o' = some i → n < i ∧ i ≤ u ∧ S' i ∧ ∀ x, n < x → x < i → ¬ S' x) : o = o' := by
  cases o with
  | none =>
    cases o' with
    | none => rfl
    | some i =>
      obtain ⟨a, b, c, _⟩ := g2 i rfl
      exact absurd ((e i).mpr ⟨a, c⟩) (h1 rfl i)
  | some i =>
    obtain ⟨a, b⟩ := h2 i rfl
    obtain ⟨c, d⟩ := (e i).mp a
    cases o' with
    | none => exact absurd d (g1 rfl i c (le i d))
    | some j =>
      obtain ⟨a2, b2, c2, d2⟩ := g2 j rfl
      have l1 := b j ((e j).mpr ⟨a2, c2⟩)
      have l2 : ¬ i < j := fun q => d2 i c q d
      rw [show i = j by omega]
theorem made_nd {sc : SC} {m : Nat} (ok : sc.Ok m) : ∀ t ∈ sc.dat.tabs, (t.2.made.map fun m => m.1).Nodup := fun t ht => by
  obtain ⟨u, hu, rfl⟩ := List.mem_map.mp (show t ∈ sc.tabs.map fun t => (t.1, t.2.2.dat) from ht)
  show (u.2.2.dat.made.map fun m => m.1).Nodup
  rw [(ok.td u hu).mi]
  have e : u.2.2.dat.il.map (fun x => x.1) = u.2.2.il.map fun x => x.1 := by
    show (u.2.2.il.map fun i => (i.1, i.2.2)).map (fun x => x.1) = _
    rw [List.map_map]; rfl
  rw [e]
  exact (ok.ok u hu).ind
theorem chn_wid {sc : SC} {m : Nat} (ok : sc.Ok m) {B : BC} (R : Rel B sc.dat) {z : Str} {k : Int} {v : Ver} (hv : v ∈ chn sc.dat z k) {t : Tin} (ht : t ∈ B.tabs) (et : t.1 = z) : ∀ ns, v.2 = some ns → ns.length = t.2.2.length := fun ns e => by
  obtain ⟨t0, ht0, e0, y, hy, ey⟩ := chn_mem hv
  have hc := chn_has R.r0.nd ht0 (R.r0.kd t0 ht0) hy
  rw [e0, ey] at hc
  rw [hc] at hv
  obtain ⟨u, hu, rfl⟩ := List.mem_map.mp (show t0 ∈ sc.tabs.map fun t => (t.1, t.2.2.dat) from ht0)
  have w := (ok.td u hu).wd y hy v hv ns e
  have mb : (u.1, u.2.2.dat.num, u.2.2.dat.fields) ∈ B.tabs := by rw [R.r0.tb]; exact List.mem_map.mpr ⟨_, ht0, rfl⟩
  have q := nodup_inj (f := fun t : Tin => t.1) R.nd mb ht (by show u.1 = t.1; rw [et]; exact e0)
  rw [← q]
  exact w
theorem wid_due {sc : SC} {m : Nat} (ok : sc.Ok m) {B : BC} (R : Rel B sc.dat) {ls : List Lsg} (fl : ∀ l ∈ ls, ∃ t ∈ B.tabs, t.1 = l.1 ∧ t.2.2 = l.2.1) : ∀ y ∈ B.kept, ∀ l ∈ ls, l.1 = y.1 → (∀ ns, y.2.2.2 = some ns → ns.length = l.2.1.length) ∧ ∀ x ns, befB B x y.1 y.2.1 = some ns → ns.length = l.2.1.length := fun y hy l hl e => by
  obtain ⟨t, ht, e1, e2⟩ := fl l hl
  rw [← e2]
  refine ⟨fun ns en => chn_wid ok R ((kept_chn R).mpr hy) ht (e1.trans e) ns en, fun x ns en => ?_⟩
  unfold befB at en
  cases es : B.states[(x - 1).toNat]? with
  | none => rw [es] at en; cases en
  | some s =>
    rw [es] at en
    have en : lookS s y.1 y.2.1 = some ns := en
    rw [R.lk _ s es] at en
    unfold verD at en
    cases eg : ((chn sc.dat y.1 y.2.1).filter fun v => decide (v.1 ≤ (((x - 1).toNat : Nat) : Int))).getLast? with
    | none => rw [eg] at en; cases en
    | some v =>
      rw [eg] at en
      have mv := (List.mem_filter.mp (List.mem_of_getLast? eg)).1
      obtain ⟨vm, vr⟩ := v
      cases vr with
      | none => cases en
      | some rr =>
        have en : some rr = some ns := en
        exact chn_wid ok R mv ht (e1.trans e) ns en
theorem Ws.open_ {K : PySem.W.Frag} {CS CT CI : Addr} {H H' : Hp} {a b st bk : Addr} {own : List Addr} {B : BC} {sc : SC} {m : Nat} {ms : List (Int × Int)} (c : Ws K CS CT CI H a b st bk own B sc m) (s : SAt K CS CT CI H' st { sc with moms := ms }) (k : KF [sc.mo] H H') : Ws K CS CT CI H' a b st bk own B { sc with moms := ms } m := by
  have mo : sc.mo ∈ sfp sc st := sfp_mem.mpr (.inr (.inr (.inl rfl)))
  have ne : ∀ y, y ∉ sfp sc st → y ∉ [sc.mo] := fun y n h => n (by rw [List.mem_singleton.mp h]; exact mo)
  have t : TK H H' := fun y u hu e => k y u (fun h => by
    rw [List.mem_singleton.mp h, c.sa.mo] at e
    cases e; exact hu) e
  obtain ⟨z, cs, h1, h2, h3⟩ := c.bx
  have R := c.r
  exact ⟨⟨z, cs, k _ _ (ne _ c.ab.2.2.1) h1, k _ _ (ne _ c.ab.2.2.2) h2, h3⟩, s, ⟨c.ok.few, c.ok.ok, c.ok.td⟩, c.ba.keep (fun x hx o e => k x o (ne _ (c.bs x hx)) e) t,
    { r0 := ⟨R.r0.tb, R.r0.nd, R.r0.md, R.r0.kp, R.r0.sm, R.r0.kd⟩, first := R.first, ln := R.ln, st := R.st, sn := R.sn, zs := R.zs, fl := R.fl, ml := R.ml, kl := R.kl, nn := R.nn, ns := R.ns, mi := R.mi, rw_ := R.rw_, sr := R.sr, lk := R.lk, mn := R.mn, su := R.su, mw := R.mw, t1 := R.t1 }, c.ab, c.bs⟩
theorem nB {te : TE} {σ : L2.St} {H : Hp} {Q : Bool → Hp → Prop} (h : te σ H fun x H1 => ∃ k, x = .bl k ∧ Q (!k) H1) : tNot (tB te) σ H Q := h
def PrAt (H : Hp) (x : LDl) (v : V) : Prop := ∃ q, v = .ref q ∧ H q = some (.tup [.ref x.dl, .ref x.da])
theorem pr_keep {H H' : Hp} (t : TK H H') {xs : List LDl} {vs : List V} (h : Paired (PrAt H) xs vs) : Paired (PrAt H') xs vs := pw_imp (fun _ _ ⟨q, e, a⟩ => ⟨q, e, t.tup a⟩) h
theorem KFN.tk {H H' : Hp} {fp : List Addr} (k : KFN fp H H') (h : ∀ b ∈ fp, ∃ o, H b = some o ∧ ¬ TupO o) : TK H H' := fun y u hu e => k y u (fun m => by
  obtain ⟨o, e2, n⟩ := h y m
  rw [e] at e2
  exact n (Option.some.inj e2 ▸ hu)) (by cases u <;> first | exact trivial | exact (show False from hu).elim) e
/-- all that the law has at hand -/
structure Big (K : PySem.W.Frag) (CS CT CI CD PB : Addr) (H : Hp) (a b st bk so : Addr) (own : List Addr) (B : BC) (sc : SC) (m : Nat) (ys xs : List LDl) (j : Nat) : Prop where
  c : Ws K CS CT CI H a b st bk own B sc m
  ds : LDs K CD H (wfp a b st bk own B sc) xs
  lp : ∀ x ∈ xs, LdP B x j
  nm : ∀ x ∈ xs, x.dc.st = st ∧ 0 ≤ x.dc.number ∧ x.dc.number ≤ sc.newest
  s1 : ∃ vs, H so = some (.lst vs) ∧ Paired (PrAt H) ys vs
  s2 : so ∉ wfp a b st bk own B sc ∧ ∀ x ∈ xs, so ∉ xfp x
  tb : Tabs (Tb2 PB) H
section
variable {K : PySem.W.Frag} {CS CT CI CD PB : Addr} {H H' : Hp} {a b st bk so : Addr} {own own' : List Addr} {B B' : BC} {sc sc' : SC} {m m' : Nat} {ys xs : List LDl} {j : Nat}
theorem Big.same (g : Big K CS CT CI CD PB H a b st bk so own B sc m ys xs j) (s : Same H H') : Big K CS CT CI CD PB H' a b st bk so own B sc m ys xs j := by
  obtain ⟨vs, h1, h2⟩ := g.s1
  exact ⟨g.c.same s, g.ds.same s, g.lp, g.nm, ⟨vs, s _ _ h1, pr_keep (TK.same s) h2⟩, g.s2, g.tb.ext s⟩
theorem Big.up (g : Big K CS CT CI CD PB H a b st bk so own B sc m ys xs j) (l : m ≤ m') : Big K CS CT CI CD PB H a b st bk so own B sc m' ys xs j := ⟨⟨g.c.bx, g.c.sa, g.c.ok.le l, g.c.ba, g.c.r, g.c.ab, g.c.bs⟩, g.ds, g.lp, g.nm, g.s1, g.s2, g.tb⟩
theorem Big.take (g : Big K CS CT CI CD PB H a b st bk so own B sc m ys xs j) (k : Keep a b H H') (bx : BoxAt H' a b) : Big K CS CT CI CD PB H' a b st bk so own B sc m ys xs j := by
  obtain ⟨vs, h1, h2⟩ := g.s1
  have t := Keep.tk g.c.bx k
  have ma : a ∈ wfp a b st bk own B sc := wfp_mem.mpr (.inl rfl)
  have mb : b ∈ wfp a b st bk own B sc := wfp_mem.mpr (.inr (.inl rfl))
  exact ⟨g.c.take k bx, g.ds.keep (fun y o n e => k y o (fun q => n (q ▸ ma)) (fun q => n (q ▸ mb)) e) t fun y h => .inl h, g.lp, g.nm, ⟨vs, k _ _ (fun q => g.s2.1 (q ▸ ma)) (fun q => g.s2.1 (q ▸ mb)) h1, pr_keep t h2⟩, g.s2, tabs_box g.tb g.c.bx k⟩
theorem Big.trim (g : Big K CS CT CI CD PB H a b st bk so own B sc m ys xs j) : ∃ own', Big K CS CT CI CD PB H a b st bk so own' B sc m ys xs j ∧ ∀ x ∈ wfp a b st bk own' B sc, ∃ o, H x = some o ∧ NTb o := by
  obtain ⟨own', sub, c, nt⟩ := g.c.trim
  have sb := wfp_sub (a := a) (b := b) (st := st) (bk := bk) (B := B) (sc := sc) sub
  exact ⟨own', ⟨c, ⟨g.ds.at_, fun x hx b hb mm => g.ds.wf x hx b hb (sb b mm), g.ds.sp⟩, g.lp, g.nm, g.s1, ⟨fun h => g.s2.1 (sb _ h), g.s2.2⟩, g.tb⟩, nt⟩
theorem Big.told (g : Big K CS CT CI CD PB H a b st bk so own B sc m ys xs j) (nt : ∀ x ∈ wfp a b st bk own B sc, ∃ o, H x = some o ∧ NTb o) (c' : Ws K CS CT CI H' a b st bk own' B' sc' m') (l : sc.newest ≤ sc'.newest) (tb : ∀ t ∈ B.tabs, t ∈ B'.tabs) (kf : KF (wfp a b st bk own B sc) H H') (fp : ∀ x ∈ wfp a b st bk own' B' sc', x ∈ wfp a b st bk own B sc ∨ H x = none) : Big K CS CT CI CD PB H' a b st bk so own' B' sc' m' ys xs j := by
  obtain ⟨vs, h1, h2⟩ := g.s1
  have t := KF.tkW g.c kf
  refine ⟨c', g.ds.keep kf t fp, fun x hx => (g.lp x hx).mono tb (Nat.le_refl j), fun x hx => ?_, ⟨vs, kf _ _ g.s2.1 h1, pr_keep t h2⟩, ⟨fun h => ?_, g.s2.2⟩, tabs_kf g.tb nt kf⟩
  · obtain ⟨e1, e2, e3⟩ := g.nm x hx
    exact ⟨e1, e2, by omega⟩
  · rcases fp so h with q | q
    · exact g.s2.1 q
    · rw [h1] at q; cases q
theorem Big.note {x : LDl} {vs : List V} {v : V} (g : Big K CS CT CI CD PB H a b st bk so own B sc m ys xs j) (h1 : H so = some (.lst vs)) (h2 : Paired (PrAt H) ys vs) (hx : PrAt H x v) : Big K CS CT CI CD PB (upd H so (.lst (vs ++ [v]))) a b st bk so own B sc m (ys ++ [x]) xs j := by
  have kf : KF [so] H (upd H so (.lst (vs ++ [v]))) := KF.upd (.inl (List.mem_singleton.mpr rfl))
  have t : TK H (upd H so (.lst (vs ++ [v]))) := fun y u hu e => by rw [upd_ne (ne_of e h1 (by intro z; subst z; exact hu))]; exact e
  have nso : ∀ y, y ≠ so → ∀ o, H y = some o → (upd H so (.lst (vs ++ [v]))) y = some o := fun y n o e => by rw [upd_ne n]; exact e
  exact ⟨g.c.keepW (fun y hy o e => nso y (fun q => g.s2.1 (q ▸ hy)) o e) t, ⟨fun y hy => (g.ds.at_ y hy).keep (fun b' hb' o e => nso b' (fun q => g.s2.2 y hy (q ▸ hb')) o e) t, g.ds.wf, g.ds.sp⟩, g.lp, g.nm, ⟨_, upd_same, pw_app (pr_keep t h2) (.cons (by obtain ⟨q, e, a⟩ := hx; exact ⟨q, e, t.tup a⟩) .nil)⟩, g.s2, tabs_kf g.tb (fun y h => ⟨HO.lst vs, (List.mem_singleton.mp h) ▸ h1, by exact trivial⟩) kf⟩
theorem Big.add (g : Big K CS CT CI CD PB H a b st bk so own B sc m ys xs j) {H1 : Hp} {ms : List (Int × Int)} (sB : SAt K CS CT CI H1 st { sc with moms := ms }) (kf : KF [sc.mo] H H1) {dl : Addr} {dc : DC} (da : DAt K CD H1 dl dc) (est : dc.st = st) (n0 : 0 ≤ dc.number) (n1 : dc.number ≤ sc.newest) (e : dc.sights = [] ∧ dc.made = [] ∧ dc.laid = []) (fp : ∀ b ∈ dfp dc dl, H b = none) {p1 p2 q : Addr} (z1 : H1 p1 = none) (z2 : (upd H1 p1 (.lst [])) p2 = none) (z3 : (upd (upd H1 p1 (.lst [])) p2 (.lst [])) q = none) :
    Big K CS CT CI CD PB (upd (upd (upd H1 p1 (.lst [])) p2 (.lst [])) q (.lst [.int dc.number, .ref p1, .ref p2])) a b st bk so own B { sc with moms := ms } m ys (xs ++ [⟨dl, dc, q, p1, p2, [], 0⟩]) j := by
  have s1 := same_new (o := .lst []) z1
  have a1 : (upd H1 p1 (.lst [])) p1 = some (.lst []) := upd_same
  have n12 : p1 ≠ p2 := ne_of_none a1 z2
  have w2 : H1 p2 = none := none_of_same s1 z2
  generalize upd H1 p1 (.lst []) = H2 at s1 a1 z2 z3
  have s2 := same_new (o := .lst []) z2
  have a2 : (upd H2 p2 (.lst [])) p2 = some (.lst []) := upd_same
  have b1 := s2 _ _ a1
  have n1q : p1 ≠ q := ne_of_none b1 z3
  have n2q : p2 ≠ q := ne_of_none a2 z3
  have w3 : H1 q = none := none_of_same (s1.trans s2) z3
  generalize upd H2 p2 (.lst []) = H3 at s2 a2 b1 z3
  have s3 := same_new (o := .lst [.int dc.number, .ref p1, .ref p2]) z3
  have a3 : (upd H3 q (.lst [.int dc.number, .ref p1, .ref p2])) q = some (.lst [.int dc.number, .ref p1, .ref p2]) := upd_same
  have c1 := s3 _ _ b1
  have c2 := s3 _ _ a2
  have s14 : Same H1 (upd H3 q (.lst [.int dc.number, .ref p1, .ref p2])) := (s1.trans s2).trans s3
  generalize upd H3 q (.lst [.int dc.number, .ref p1, .ref p2]) = H4 at s3 a3 c1 c2 s14
  have mo : sc.mo ∈ wfp a b st bk own B sc := wfp_mem.mpr (.inr (.inr (.inr (sfp_mem.mpr (.inr (.inr (.inl rfl)))))))
  have tk1 : TK H H1 := fun y u hu e => kf y u (fun h => by
    rw [List.mem_singleton.mp h, g.c.sa.mo] at e
    cases e; exact hu) e
  have kw : KF (wfp a b st bk own B sc) H H1 := fun y o n e => kf y o (fun h => n (by rw [List.mem_singleton.mp h]; exact mo)) e
  have d1 := (g.ds.keep kw tk1 fun y h => .inl h).same s14
  have pres : ∀ y o, H y = some o → ∃ o', H1 y = some o' := fun y o e => by
    by_cases c : y = sc.mo
    · exact ⟨_, c ▸ sB.mo⟩
    · exact ⟨o, kf y o (fun h => c (List.mem_singleton.mp h)) e⟩
  have new : ∀ y ∈ xfp (⟨dl, dc, q, p1, p2, [], 0⟩ : LDl), H y = none := fun y hy => by
    have nn : ∀ z, H1 z = none → H z = none := fun z e => by
      cases eo : H z with
      | none => rfl
      | some o =>
        obtain ⟨o', e'⟩ := pres z o eo
        rw [e] at e'; cases e'
    rcases xfp_mem.mp hy with h | h
    · simp only [lfp, List.map_nil, List.mem_cons, List.not_mem_nil, or_false] at h
      rcases h with h | h | h
      · rw [h]; exact nn _ w3
      · rw [h]; exact nn _ z1
      · rw [h]; exact nn _ w2
    · exact fp y h
  have dapr : ∀ y ∈ dfp dc dl, ∃ o, H1 y = some o := fun y hy => by
    obtain ⟨o, h, _⟩ := da.notbl hy
    exact ⟨o, h⟩
  have ldn : LdA K CD H4 (⟨dl, dc, q, p1, p2, [], 0⟩ : LDl) := ⟨da.same s14, a3, ⟨[], c1, .nil⟩, ⟨[], c2, rfl⟩, ⟨n1q.symm, n2q.symm, n12⟩, fun y hy h => by
    obtain ⟨o, eo⟩ := dapr y h
    simp only [lfp, List.map_nil, List.mem_cons, List.not_mem_nil, or_false] at hy
    rcases hy with q | q | q
    · rw [q, w3] at eo; cases eo
    · rw [q, z1] at eo; cases eo
    · rw [q, w2] at eo; cases eo⟩
  obtain ⟨vs, h1, h2⟩ := g.s1
  have soH : ∃ o, H so = some o := ⟨_, h1⟩
  refine ⟨(g.c.open_ sB kf).same s14, ⟨fun x hx => ?_, fun x hx y hy hm => ?_, ?_⟩, fun x hx => ?_, fun x hx => ?_, ⟨vs, s14 _ _ (kw _ _ g.s2.1 h1), pr_keep (TK.same s14) (pr_keep tk1 h2)⟩, ⟨g.s2.1, fun x hx h => ?_⟩, (tabs_kf g.tb (fun y h => ⟨HO.dK (mokv sc.moms), (List.mem_singleton.mp h) ▸ g.c.sa.mo, by exact trivial⟩) kf).ext s14⟩
  · rcases List.mem_append.mp hx with h | h
    · exact d1.at_ x h
    · rw [List.mem_singleton.mp h]; exact ldn
  · rcases List.mem_append.mp hx with h | h
    · exact g.ds.wf x h y hy hm
    · rw [List.mem_singleton.mp h] at hy
      obtain ⟨o, eo, _⟩ := g.c.ne hm
      rw [new y hy] at eo; cases eo
  · refine List.pairwise_append.mpr ⟨g.ds.sp, List.pairwise_singleton .., fun x hx x' hx' y hy hy' => ?_⟩
    rw [List.mem_singleton.mp hx'] at hy'
    obtain ⟨o, eo, _⟩ := (g.ds.at_ x hx).notbl hy
    rw [new y hy'] at eo; cases eo
  · rcases List.mem_append.mp hx with h | h
    · exact g.lp x h
    · rw [List.mem_singleton.mp h]
      refine ⟨fun s hs => ?_, fun l hl => (by cases hl), fun l hl => (by cases hl), fun s hs => ?_, ?_, Nat.zero_le _, ?_, fun y hy => ?_, ?_, Nat.zero_le _⟩
      · have hs : s ∈ dc.sights := hs
        rw [e.1] at hs; cases hs
      · have hs : s ∈ dc.sights := hs
        rw [e.1] at hs; cases hs
      · show dc.sights.length ≤ j
        rw [e.1]; exact Nat.zero_le _
      · show dc.laid.length ≤ j
        rw [e.2.2]; exact Nat.zero_le _
      · have hy : y ∈ dc.laid := hy
        rw [e.2.2] at hy; cases hy
      · show dc.made.length ≤ j
        rw [e.2.1]; exact Nat.zero_le _
  · rcases List.mem_append.mp hx with h | h
    · exact g.nm x h
    · rw [List.mem_singleton.mp h]; exact ⟨est, n0, n1⟩
  · rcases List.mem_append.mp hx with q | q
    · exact g.s2.2 x q h
    · rw [List.mem_singleton.mp q] at h
      obtain ⟨o, eo⟩ := soH
      rw [new so h] at eo; cases eo
theorem Big.sawn {x x' : LDl} (g : Big K CS CT CI CD PB H a b st bk so own B sc m ys (xs ++ [x]) j) (c' : Ws K CS CT CI H' a b st bk own' B sc m) (sub : ∀ y ∈ own', y ∈ own) (ld' : LdA K CD H' x') (lp' : LdP B x' j) (en : x'.dc.number = x.dc.number) (es : x'.dc.st = x.dc.st) (kn : KFN (a :: b :: xfp x) H H') (fr : ∀ y ∈ xfp x', y ∈ xfp x ∨ H y = none) (tb' : Tabs (Tb2 PB) H') : Big K CS CT CI CD PB H' a b st bk so own' B sc m ys (xs ++ [x']) j := by
  have mx : x ∈ xs ++ [x] := List.mem_append_right _ (List.mem_singleton.mpr rfl)
  have ma : a ∈ wfp a b st bk own B sc := wfp_mem.mpr (.inl rfl)
  have mb : b ∈ wfp a b st bk own B sc := wfp_mem.mpr (.inr (.inl rfl))
  have t : TK H H' := kn.tk fun y hy => by
    rcases List.mem_cons.mp hy with h | h
    · exact g.c.ne (h ▸ ma)
    · rcases List.mem_cons.mp h with h | h
      · exact g.c.ne (h ▸ mb)
      · exact (g.ds.at_ x mx).notup h
  obtain ⟨sp1, _, sp3⟩ := List.pairwise_append.mp g.ds.sp
  have oth : ∀ y ∈ xs, ∀ b' ∈ xfp y, b' ∉ a :: b :: xfp x := fun y hy b' hb' h => by
    rcases List.mem_cons.mp h with h | h
    · exact g.ds.wf y (List.mem_append_left _ hy) b' hb' (h ▸ ma)
    · rcases List.mem_cons.mp h with h | h
      · exact g.ds.wf y (List.mem_append_left _ hy) b' hb' (h ▸ mb)
      · exact sp3 y hy x (List.mem_singleton.mpr rfl) b' hb' h
  have sb := wfp_sub (a := a) (b := b) (st := st) (bk := bk) (B := B) (sc := sc) sub
  obtain ⟨vs, h1, h2⟩ := g.s1
  refine ⟨c', ⟨fun y hy => ?_, fun y hy b' hb' hm => ?_, ?_⟩, fun y hy => ?_, fun y hy => ?_, ⟨vs, kn _ _ (fun h => ?_) (by exact trivial) h1, pr_keep t h2⟩, ⟨fun h => g.s2.1 (sb _ h), fun y hy h => ?_⟩, tb'⟩
  · rcases List.mem_append.mp hy with h | h
    · exact (g.ds.at_ y (List.mem_append_left _ h)).keepN kn t (oth y h)
    · rw [List.mem_singleton.mp h]; exact ld'
  · rcases List.mem_append.mp hy with h | h
    · exact g.ds.wf y (List.mem_append_left _ h) b' hb' (sb _ hm)
    · rw [List.mem_singleton.mp h] at hb'
      rcases fr b' hb' with q | q
      · exact g.ds.wf x mx b' q (sb _ hm)
      · obtain ⟨o, eo, _⟩ := g.c.ne (sb _ hm)
        rw [q] at eo; cases eo
  · refine List.pairwise_append.mpr ⟨sp1, List.pairwise_singleton .., fun y hy y' hy' b' hb' hb2 => ?_⟩
    rw [List.mem_singleton.mp hy'] at hb2
    rcases fr b' hb2 with q | q
    · exact sp3 y hy x (List.mem_singleton.mpr rfl) b' hb' q
    · obtain ⟨o, eo, _⟩ := (g.ds.at_ y (List.mem_append_left _ hy)).notbl hb'
      rw [q] at eo; cases eo
  · rcases List.mem_append.mp hy with h | h
    · exact g.lp y (List.mem_append_left _ h)
    · rw [List.mem_singleton.mp h]; exact lp'
  · rcases List.mem_append.mp hy with h | h
    · exact g.nm y (List.mem_append_left _ h)
    · rw [List.mem_singleton.mp h]
      obtain ⟨q1, q2, q3⟩ := g.nm x mx
      exact ⟨es.trans q1, by rw [en]; exact q2, by rw [en]; exact q3⟩
  · rcases List.mem_cons.mp h with h | h
    · exact g.s2.1 (h ▸ ma)
    · rcases List.mem_cons.mp h with h | h
      · exact g.s2.1 (h ▸ mb)
      · exact g.s2.2 x mx h
  · rcases List.mem_append.mp hy with q | q
    · exact g.s2.2 y (List.mem_append_left _ q) h
    · rw [List.mem_singleton.mp q] at h
      rcases fr so h with z | z
      · exact g.s2.2 x mx z
      · rw [h1] at z; cases z
end
def spLaw (K : PySem.W.Frag) (PB : Addr) : Sp := fun vs H Q _ => ∃ (a : Addr) (ns : List Int), vs = [.ref a] ∧ SqL K H a (ns.map V.int) ∧ ns.length ≤ 63 ∧ Tabs (Tb2 PB) H ∧ ∀ H', Q (.bl true) H'
structure CalCd (P : Program) (w : World) (K : PySem.W.Frag) (mg : Str → Option Value) (base : Heap) (k : Nat) (x : Str) (C : Addr) (ps : List Str) (sp : Sp) (f : Addr) (fd : FuncData) (dvs : List V) (ds : List Value) : Prop where
  M : Mk K C f
  g : mg x = some (.ref C)
  b : Binds K fd ps ds
  v : Vals dvs ds
  G : FnOk P w K mg base CX0 k f fd ps sp
section
variable {P : Program} {w : World} {K : PySem.W.Frag} {mg : Str → Option Value} {base : Heap} {CT CI CS CD PB : Addr}
theorem scLw : FnScope ["_law_script", "_law_box", "_law_store", "_law_b", "_law_some", "_law_turn", "_law_moment", "_law_dealing", "_law_d", "_law_again", "_law_due_here"] ["_law_script"] (defScope s_law) := ⟨rfl, rfl, rfl, by decide +kernel, rfl, by decide +kernel, by decide +kernel⟩
theorem ok_law {f fS fo fc fb fk fB fr fC fw fd1 fA : Addr} {fd fdS fdo fdc fdb fdk fdB fdr fdC fdw fdd fdA : FuncData} {dsS : List Value} {g : List Value → List Value → List Value} (F : Fun K "law" "law" s_law f fd)
    (T : Txt mg) (TS : TxtS K CS) (MS : CalCd P w K mg base 1 "Store" CS ["self", "first"] (spSI K CS CT CI) fS fdS [.int 0] dsS)
    (Mop : Meth K CS "opened" fo) (Gop : FnOk P w K mg base CX0 3 fo fdo ["self", "number"] (spOp K CS CT CI CD)) (bop : KBn K fdo ["self", "number"] 1 ["number"] g (fun vs zs => vs ++ ([] ++ zs)))
    (Ccl : CalM P w K mg base 9 CS "clash" ["self", "dealing"] (spCl K CS CT CI CD) fc fdc)
    (Cbg : Cal P w K mg base 9 "_law_begun" ["_law_script"] (spBegun K) fb fdb) (Ctk : Cal P w K mg base 9 "_law_take" ["_law_box", "_law_many"] (spTake K) fk fdk) (Cbk : Cal P w K mg base 9 "_law_book" [] (spBook K) fB fdB)
    (Ctr : Cal P w K mg base 9 "_law_told_record" ["_law_box", "_law_store", "_law_b"] (spTold K CS CT CI) fr fdr) (Cct : Cal P w K mg base 9 "_law_content" ["_law_b", "_law_moment"] (spCont K) fC fdC)
    (Csw : Cal P w K mg base 9 "_law_saw" ["_law_box", "_law_dealing", "_law_d", "_law_tables"] (spSawL K CS CT CI CD PB) fw fdw) (Cdu : Cal P w K mg base 9 "_law_due" ["_law_b", "_law_d", "_law_upto"] (spDue K) fd1 fdd)
    (Cal2 : Cal P w K mg base 9 "_law_alike" ["_law_found", "_law_due_here"] (spAlk K 2) fA fdA) :
    FnOk P w K mg base CX0 10 f fd ["_law_script"] (spLaw K PB) := by
  refine F.ok scLw (fun vs H Q E h => ?_) (fun cdv A outer s H vs Q E hr h => ?_)
  · obtain ⟨a, ns, rfl, _⟩ := h
    rfl
  · obtain ⟨l0, ns, rfl, hS, hlen, hT, kk⟩ := h
    have hr9 : Room 9 _ := hr
    have hr3 := hr9.mono (j := 3) (by decide)
    have hr2 := hr9.mono (j := 2) (by decide)
    have big : (100000 : Nat) < sizeLine := by decide
    refine ⟨_, (pss_cons (ps_set (i := 1) scLw.nd rfl (Or.inl rfl) (pe_call Cbg.G hr9 rfl Cbg.g Cbg.kp Cbg.b .nil pass0 (pa_cons (pv 0) pa_nil)))
      (pss_cons (ps_par3 (i := 2) (j := 3) (l := 4) (by rfl) scLw.nd rfl rfl rfl (by decide) (by decide) (by decide) rfl rfl rfl (pa_cons (pe_make0 MS.M MS.G hr2 rfl MS.g MS.b MS.v pass0) (pa_cons (pe_call0 Cbk.G hr9 rfl Cbk.g Cbk.kp Cbk.b .nil pass0) (pa_cons (pe_lst pa_nil) pa_nil))) (by rfl))
      (pss_cons (ps_for PassesOwn.never rfl (pi_range1 rfl T.range (pa_cons (pe_op op_add pe_int (pe_call Ctk.G hr9 rfl Ctk.g Ctk.kp Ctk.b .nil pass0 (pa_cons (pv 1) (pa_cons pe_int pa_nil)))) pa_nil)) (pg_name (i := 5) scLw.nd rfl (Or.inl rfl))
        (pss_one (ps_expr (pe_call Ctr.G hr9 rfl Ctr.g Ctr.kp Ctr.b .nil pass0 (pa_cons (pv 1) (pa_cons (pv 2) (pa_cons (pv 3) pa_nil)))))))
      (pss_cons (ps_for PassesOwn.never rfl (pi_range1 rfl T.range (pa_cons (pe_op op_add pe_int (pe_call Ctk.G hr9 rfl Ctk.g Ctk.kp Ctk.b .nil pass0 (pa_cons (pv 1) (pa_cons pe_int pa_nil)))) pa_nil)) (pg_name (i := 5) scLw.nd rfl (Or.inl rfl))
        (pss_cons (ps_set (i := 6) scLw.nd rfl (Or.inl rfl) (pe_op op_add pe_int (pe_call Ctk.G hr9 rfl Ctk.g Ctk.kp Ctk.b .nil pass0 (pa_cons (pv 1) (pa_cons (pe_op op_sub (pe_callB (RK.lenQ (K := K)) (by rfl) T.len PySem.boot_len (pa_cons (pe_dget (hu_of hr) (pv 3) pe_str (fun _ _ => rfl)) pa_nil)) pe_int) pa_nil)))))
        (pss_cons (ps_par (i := 7) (j := 8) (by rfl) scLw.nd rfl rfl (by decide) rfl rfl (pa_cons (pe_methK0 (pv 2) TS.cl Mop Gop hr3 bop pass0 (pk_cons (pv 6) pk_nil)) (pa_cons (pe_lst (pa_cons (pv 6) (pa_cons (pe_lst pa_nil) (pa_cons (pe_lst pa_nil) pa_nil)))) pa_nil)) (by rfl))
        (pss_cons (ps_for PassesOwn.never rfl (pi_range1 rfl T.range (pa_cons (pe_call Ctk.G hr9 rfl Ctk.g Ctk.kp Ctk.b .nil pass0 (pa_cons (pv 1) (pa_cons pe_int pa_nil))) pa_nil)) (pg_name (i := 9) scLw.nd rfl (Or.inl rfl))
          (pss_one (ps_expr (pe_call Csw.G hr9 rfl Csw.g Csw.kp Csw.b .nil pass0 (pa_cons (pv 1) (pa_cons (pv 7) (pa_cons (pv 8) (pa_cons (pe_ix (RK.ixT (K := K)) (pe_call Cct.G hr9 rfl Cct.g Cct.kp Cct.b .nil pass0 (pa_cons (pv 3) (pa_cons (pv 6) pa_nil))) pe_int (fun _ _ => rfl)) pa_nil))))))))
        (pss_one (ps_expr (pe_bm PySem.F.plainAttrs_list PySem.F.slot_list_append PySem.F.type_list_append mt_append (pv 4) (pa_cons (pe_tup (pa_cons (pv 7) (pa_cons (pv 8) pa_nil))) pa_nil))))))))
      (pss_cons (ps_for PassesOwn.never rfl (pi_range1 rfl T.range (pa_cons (pe_call Ctk.G hr9 rfl Ctk.g Ctk.kp Ctk.b .nil pass0 (pa_cons (pv 1) (pa_cons pe_int pa_nil))) pa_nil)) (pg_name (i := 5) scLw.nd rfl (Or.inl rfl))
        (pss_cons (ps_expr (pe_call Ctr.G hr9 rfl Ctr.g Ctr.kp Ctr.b .nil pass0 (pa_cons (pv 1) (pa_cons (pv 2) (pa_cons (pv 3) pa_nil)))))
        (pss_one (ps_for PassesOwn.never rfl (RK.piL (K := K) (pv 4)) (RK.pgTup (K := K) (n := 2) rfl (pgs_cons (pg_name (i := 7) scLw.nd rfl (Or.inl rfl)) (pgs_cons (pg_name (i := 8) scLw.nd rfl (Or.inl rfl)) pgs_nil)))
          (pss_cons (ps_set (i := 10) scLw.nd rfl (Or.inl rfl) (pe_call Cdu.G hr9 rfl Cdu.g Cdu.kp Cdu.b .nil pass0 (pa_cons (pv 3) (pa_cons (pv 8) (pa_cons (pe_fld (pv 2) rfl) pa_nil)))))
          (pss_one (ps_if (pt_not (pt_val (pe_call Cal2.G hr9 rfl Cal2.g Cal2.kp Cal2.b .nil pass0 (pa_cons (pe_lst (pa_cons (pe_meth (pv 2) TS.cl Ccl.mt Ccl.G hr9 Ccl.b .nil pass0 (pa_cons (pv 7) pa_nil)) (pa_cons (pe_meth (pv 2) TS.cl Ccl.mt Ccl.G hr9 Ccl.b .nil pass0 (pa_cons (pv 7) pa_nil)) pa_nil))) (pa_cons (pe_lst (pa_cons (pv 10) (pa_cons (pv 10) pa_nil))) pa_nil))))) (pss_one (ps_ret pe_bl)) pss_nil)))))))
      (pss_one (ps_ret pe_bl))))))), ?_⟩
    refine sa1 ⟨_, rfl, l0, ns, rfl, hS, hlen, fun a b H1 ha hb nb0 s1 => gn ?_⟩
    have t1 := hT.ext s1
    clear hS hlen
    refine par31 (fun st dx hst hdx ndx => ⟨st, dx, 0, rfl, upd_same, fun sc H2 sa ed fp kf => ⟨rfl, rfl, fun own bk B H3 ba t0 m0 k0 st0 nb s23 => ⟨by show 0 ≤ sizeLine; decide, fun so hso => ⟨_, _, _, rfl, ?_⟩⟩⟩⟩)
    have s12 : Same H1 H2 := fun x o e => kf x o (fun m => by rw [List.mem_singleton.mp m, hst] at e; cases e) (by rw [upd_ne (ne_of_none e hst), upd_ne (ne_of_none e hdx)]; exact e)
    have nsf : ∀ x ∈ sfp sc st, H1 x = none := fun x hx => by
      rcases fp x hx with h | h
      · rw [h]; exact hst
      · cases e : H1 x with
        | none => rfl
        | some o => rw [upd_ne (ne_of_none e hst), upd_ne (ne_of_none e hdx), e] at h; cases h
    have s4 := same_new (o := .lst []) hso
    have q4 : (upd H3 so (.lst [])) so = some (.lst []) := upd_same
    have hso3 : H3 so = none := hso
    generalize upd H3 so (.lst []) = H4 at s4 q4
    obtain ⟨R0, ok0⟩ := rel_start t0 m0 k0 st0 ed
    have c3 : Ws K CS CT CI H3 a b st bk own B sc 0 := by
      obtain ⟨z, cs, x1, x2, x3⟩ := nb0
      have y1 := s12 _ _ x1
      have y2 := s12 _ _ x2
      refine ⟨⟨z, cs, s23 _ _ y1, s23 _ _ y2, x3⟩, sa.same s23, ok0, ba, R0, ⟨fun m => ?_, fun m => ?_, fun m => ?_, fun m => ?_⟩, fun x hx m => ?_⟩
      · have h := nb _ m; rw [y1] at h; cases h
      · have h := nb _ m; rw [y2] at h; cases h
      · have h := nsf _ m; rw [x1] at h; cases h
      · have h := nsf _ m; rw [x2] at h; cases h
      · obtain ⟨o, e, _⟩ := sa.notup m
        rw [nb x hx] at e; cases e
    have ls0 : B.states.length = 1 := by rw [st0]; rfl
    have g0 : Big K CS CT CI CD PB H4 a b st bk so own B sc 0 [] [] 6 := ⟨c3.same s4, ⟨fun x h => (by cases h), fun x h => (by cases h), .nil⟩, fun x h => (by cases h), fun x h => (by cases h), ⟨[], q4, .nil⟩, ⟨fun h => (by
      obtain ⟨o, e, _⟩ := c3.ne h
      rw [hso3] at e; cases e), fun x h => (by cases h)⟩, ((t1.ext s12).ext s23).ext s4⟩
    have mo0 : sc.moms = [] := by
      have e : sc.dat.moms = [] := by rw [ed]
      exact e
    clear s12 nsf s4 q4 hso hso3 kf fp sa ed nb s23 ba hst hdx ndx nb0 t0 m0 k0 st0 R0 ok0 t1 c3
    -- the first records
    refine rg1 ⟨_, rfl, a, b, 20, rfl, by decide, by decide, g0.c.bx, fun r H5 r0 r1 B5 k5 => ⟨1, r, rfl, rfl, 1 + r, rfl, by omega, by omega, ?_⟩⟩
    have g5 := g0.take k5 B5
    refine for_it walk_range (fun i σ H' => ∃ v5 v6 v7 v8 v9 v10 own B sc, σ = [some (.ref l0), some (.ref a), some (.ref st), some (.ref bk), some (.ref so), v5, v6, v7, v8, v9, v10] ∧ Big K CS CT CI CD PB H' a b st bk so own B sc (40 * i) [] [] 6 ∧ B.states.length = 1 + i ∧ sc.moms = [])
      ⟨none, none, none, none, none, none, own, B, sc, rfl, g5, ls0, mo0⟩ (fun i σ H' _ _ => trivial) ?_ ?_
    · clear g0 g5 k5 B5 ls0 mo0
      rintro i y σ H6 H7 hi ⟨v5, v6, v7, v8, v9, v10, own, B, sc, rfl, g, ls, mo⟩ ⟨rfl, rfl⟩
      have hi21 : i < 21 := by omega
      obtain ⟨own2, g2, nt⟩ := g.trim
      refine gn ⟨_, rfl, _, rfl, _, rfl, a, b, st, bk, own2, B, sc, 40 * i, rfl, g2.c, by omega, by omega, fun own' B' sc' H' c' ls' tb' mo' kf' in' => ?_⟩
      have e40 : 40 * (i + 1) = 40 * i + 40 := by omega
      have n1 := g.c.r.ln
      have n2 := c'.r.ln
      have n1 : (B.states.length : Int) = sc.newest + 1 := n1
      have n2 : (B'.states.length : Int) = sc'.newest + 1 := n2
      exact ⟨_, _, _, _, _, _, own', B', sc', rfl, by rw [e40]; exact g2.told nt c' (by omega) tb' kf' in', by omega, mo'.trans mo⟩
    · clear g0 g5 k5 B5 ls0 mo0
      rintro σ H6 ⟨v5, v6, v7, v8, v9, v10, own, B, sc, rfl, g, ls, mo⟩
      have ls2 : 2 ≤ B.states.length := by omega
      have ls21 : B.states.length ≤ 21 := by omega
      obtain ⟨M0, hM0, eM0⟩ : ∃ M0 : Nat, M0 ≤ 1000 ∧ 40 * (1 + r).toNat ≤ M0 := ⟨40 * (1 + r).toNat, by omega, Nat.le_refl _⟩
      have g := g.up eM0
      clear ls
      -- the dealings
      dsimp only
      refine rg1 ⟨_, rfl, a, b, 4, rfl, by decide, by decide, g.c.bx, fun r2 H7 r20 r21 B7 k7 => ⟨1, r2, rfl, rfl, 1 + r2, rfl, by omega, by omega, ?_⟩⟩
      have g7 := g.take k7 B7
      refine for_it walk_range (fun i σ H' => ∃ v5 v6 v7 v8 v9 v10 own sc xs, σ = [some (.ref l0), some (.ref a), some (.ref st), some (.ref bk), some (.ref so), v5, v6, v7, v8, v9, v10] ∧ Big K CS CT CI CD PB H' a b st bk so own B sc M0 xs xs 6 ∧ xs.length = i ∧ sc.moms.length ≤ i)
        ⟨_, _, _, _, _, _, own, sc, [], rfl, g7, rfl, by rw [mo]; exact Nat.le_refl _⟩ (fun i σ H' _ _ => trivial) ?_ ?_
      · clear g g7 k7 B7 mo
        rintro i y σ H8 H9 hi ⟨v5, v6, v7, v8, v9, v10, own, sc, xs, rfl, g, lx, lmo⟩ ⟨rfl, rfl⟩
        have hi5 : i < 5 := by omega
        refine gn ?_
        obtain ⟨us, u1, pus⟩ := id g.c.ba.st
        have lus := pw_len pus
        have ln : (B.states.length : Int) = sc.newest + 1 := g.c.r.ln
        have f0 : sc.first = 0 := g.c.r.first
        refine sa1 ?_
        refine ⟨_, rfl, _, rfl, bk, .ref B.st, rfl, g.c.ba.g3, B.st, us, rfl, .inl (SqL.of u1), _, 1, rfl, rfl, a, b, _, rfl, by omega, by omega, g.c.bx, fun r3 HA r30 r31 BA kA => ⟨1, r3, rfl, rfl, gn ?_⟩⟩
        have gA := g.take kA BA
        obtain ⟨mN, emN⟩ : ∃ mN : Nat, ((mN : Nat) : Int) = 1 + r3 := ⟨(1 + r3).toNat, by omega⟩
        obtain ⟨dx, fs, ob, l⟩ := gA.c.sa.ob
        refine par1 ⟨_, rfl, st, dx, fs, rfl, ob, l.no _ (by decide +kernel) (by decide +kernel) (by decide +kernel) (by decide +kernel), _, rfl, rfl, st, sc, .int (1 + r3), 1 + r3, rfl, .inl rfl, gA.c.sa, by omega, by omega, by omega, fun dl dc HB da en est e3 fp sB kf => ⟨_, rfl, by show 0 ≤ sizeLine; decide, fun p1 hp1 => ⟨by show 0 ≤ sizeLine; decide, fun p2 hp2 => ⟨by show 3 ≤ sizeLine; decide, fun q hq => ⟨_, _, rfl, ?_⟩⟩⟩⟩⟩
        have gE := gA.add sB kf da est (by omega) (by omega) e3 fp hp1 hp2 hq
        rw [en] at gE
        show tSeq _ _ _ _ (upd (upd (upd HB p1 (.lst [])) p2 (.lst [])) q (.lst [.int (1 + r3), .ref p1, .ref p2]))
        have lmo2 : (momP sc.moms (1 + r3)).length ≤ i + 1 := by
          unfold momP
          split
          · rw [List.length_map]; omega
          · rw [List.length_append]; exact Nat.succ_le_succ lmo
        generalize upd (upd (upd HB p1 (.lst [])) p2 (.lst [])) q (.lst [.int (1 + r3), .ref p1, .ref p2]) = HE at gE ⊢
        have nw : ({ sc with moms := momP sc.moms (1 + r3) } : SC).newest = sc.newest := rfl
        have lmo3 : ({ sc with moms := momP sc.moms (1 + r3) } : SC).moms.length ≤ i + 1 := lmo2
        have g1 : ∃ x : LDl, Big K CS CT CI CD PB HE a b st bk so own B { sc with moms := momP sc.moms (1 + r3) } M0 xs (xs ++ [x]) 6 ∧ LdP B x 0 ∧ x.dl = dl ∧ x.da = q ∧ x.dc.number = 1 + r3 ∧ x.dc.st = st := by
          refine ⟨_, gE, ⟨fun s hs => ?_, fun l hl => (by cases hl), fun l hl => (by cases hl), fun s hs => ?_, ?_, Nat.zero_le _, ?_, fun y hy => ?_, ?_, Nat.zero_le _⟩, rfl, rfl, en, est⟩
          · have hs : s ∈ dc.sights := hs
            rw [e3.1] at hs; cases hs
          · have hs : s ∈ dc.sights := hs
            rw [e3.1] at hs; cases hs
          · show dc.sights.length ≤ 0
            rw [e3.1]; exact Nat.le_refl _
          · show dc.laid.length ≤ 0
            rw [e3.2.2]; exact Nat.le_refl _
          · have hy : y ∈ dc.laid := hy
            rw [e3.2.2] at hy; cases hy
          · show dc.made.length ≤ 0
            rw [e3.2.1]; exact Nat.le_refl _
        generalize ({ sc with moms := momP sc.moms (1 + r3) } : SC) = sc1 at g1 nw lmo3
        clear gE gA g hp1 hp2 hq fp sB kf da e3
        obtain ⟨x0, gx, lp0, ed0, ea0, en0, es0⟩ := g1
        refine rg1 ⟨_, rfl, a, b, 5, rfl, by decide, by decide, gx.c.bx, fun r4 HF r40 r41 BF kF => ⟨r4, rfl, by omega, by omega, ?_⟩⟩
        have gF := gx.take kF BF
        refine for_it walk_range (fun i2 σ H' => ∃ v5 v9 v10 own x, σ = [some (.ref l0), some (.ref a), some (.ref st), some (.ref bk), some (.ref so), v5, some (.int (1 + r3)), some (.ref dl), some (.ref q), v9, v10] ∧ Big K CS CT CI CD PB H' a b st bk so own B sc1 M0 xs (xs ++ [x]) 6 ∧ LdP B x i2 ∧ x.dl = dl ∧ x.da = q ∧ x.dc.number = 1 + r3 ∧ x.dc.st = st)
          ⟨_, _, _, own, x0, rfl, gF, lp0, ed0, ea0, en0, es0⟩ (fun i σ H' _ _ => trivial) ?_ ?_
        · clear gx gF kF BF lp0 ed0 ea0 en0 es0
          rintro i2 y σ HG HI hi2 ⟨w5, w9, w10, own, x, rfl, g, lp, ed, ea, en2, es⟩ ⟨rfl, rfl⟩
          have hi25 : i2 < 5 := by omega
          have mx : x ∈ xs ++ [x] := List.mem_append_right _ (List.mem_singleton.mpr rfl)
          have ml := g.c.r.ml
          have lt : mN < B.states.length := by omega
          have esn := List.getElem?_eq_getElem lt
          generalize B.states[mN] = s0 at esn
          have l4 := g.c.r.l4
          refine gn ⟨_, rfl, _, rfl, _, rfl, _, rfl, _, rfl, bk, own, B, mN, s0, by show [V.ref bk, V.int (1 + r3)] = _; rw [emN], g.c.ba, esn, g.c.r.sn s0 (List.mem_of_getElem? esn), g.c.r.nd, by omega, by omega, fun p p0 p1' p2' ys0 us0 L bs zs us2 HJ sJ hp perm so0 hp0 pz _ _ _ _ _ _ _ _ l10 => ⟨p, _, 0, _, rfl, rfl, SqT.of hp, at0, ?_⟩⟩
          have gJ := g.same sJ
          have ne0 : us0 ≠ [] := fun e => by
            have l := pw_len pz
            rw [e] at l
            rcases g.c.r.t1 with q | ⟨t, ht, q⟩
            · have := g.c.r.ns q
              have ln2 : (B.states.length : Int) = sc1.newest + 1 := g.c.r.ln
              have this : sc1.newest = 0 := this
              omega
            · have m0 : t.1 ∈ ys0 := perm.mem_iff.mpr (List.mem_map.mpr ⟨t, ht, rfl⟩)
              have m1 : t.1 ∈ ys0.filter fun z => decide (numOf B z ≤ (mN : Int)) := List.mem_filter.mpr ⟨m0, decide_eq_true (by rw [numOf_of g.c.r.nd ht]; omega)⟩
              rw [List.eq_nil_of_length_eq_zero l] at m1
              cases m1
          obtain ⟨q1, q2, q3⟩ := gJ.nm x mx
          refine ⟨a, b, st, bk, p0, own, B, sc1, M0, x, i2, us0, _, by rw [ed, ea]; rfl, gJ.c, q1, q2, q3, gJ.ds.at_ x mx, lp, by omega, gJ.ds.wf x mx, SqT.of hp0, pz, ne0, l10, fun z hz => ?_, gJ.tb, fun own' x' HK c' sub' ld' lp' e1 e2 e3' e4 kn fr tb' => ⟨_, _, _, own', x', rfl, gJ.sawn c' sub' ld' (lp'.mono (fun _ h => h) (by omega)) e3' e4 kn fr tb', lp', e1.trans ed, e2.trans ea, e3'.trans en2, e4.trans es⟩⟩
          have h := of_decide_eq_true (List.mem_filter.mp hz).2
          rw [en2, ← emN]
          exact h
        · clear gx gF kF BF lp0 ed0 ea0 en0 es0
          rintro σ HG ⟨w5, w9, w10, own, x, rfl, g, lp, ed, ea, en2, es⟩
          obtain ⟨vs, v1, v2⟩ := g.s1
          have lvs := pw_len v2
          refine ⟨_, rfl, .inl ⟨rfl, _, SqL.of v1⟩, _, rfl, _, rfl, by show 2 ≤ sizeLine; decide, fun q2 hq2 => ?_⟩
          have sH := same_new (o := .tup [.ref dl, .ref q]) hq2
          have h2 : (upd HG q2 (.tup [.ref dl, .ref q])) q2 = some (.tup [.ref dl, .ref q]) := upd_same
          have gH := g.same sH
          generalize upd HG q2 (.tup [.ref dl, .ref q]) = HH at sH h2 gH
          refine ⟨so, vs, _, rfl, rfl, sH _ _ v1, Nat.lt_of_le_of_lt (show vs.length ≤ 100000 by omega) big, ?_⟩
          exact ⟨_, _, _, _, _, _, own, sc1, xs ++ [x], rfl, gH.note (sH _ _ v1) (pr_keep (TK.same sH) v2) ⟨q2, rfl, by rw [ed, ea]; exact h2⟩, by rw [List.length_append, lx]; rfl, lmo3⟩
      · clear g g7 k7 B7 mo
        rintro σ H8 ⟨v5, v6, v7, v8, v9, v10, own, sc, xs, rfl, g, lx, lmo⟩
        -- more records, and what clashes by them
        dsimp only
        refine rg1 ⟨_, rfl, a, b, 13, rfl, by decide, by decide, g.c.bx, fun r5 H9 r50 r51 B9 k9 => ⟨r5, rfl, by omega, by omega, ?_⟩⟩
        have g9 := g.take k9 B9
        refine for_it walk_range (fun i σ H' => ∃ v5 v6 v7 v8 v9 v10 own B sc, σ = [some (.ref l0), some (.ref a), some (.ref st), some (.ref bk), some (.ref so), v5, v6, v7, v8, v9, v10] ∧ Big K CS CT CI CD PB H' a b st bk so own B sc (M0 + 40 * i) xs xs 6 ∧ B.states.length ≤ 21 + i)
          ⟨_, _, _, _, _, _, own, B, sc, rfl, g9, ls21⟩ (fun i σ H' _ _ => trivial) ?_ (fun σ H' _ => kk H')
        clear g g9 k9 B9 lmo ls2 ls21
        rintro i y σ HA HB hi ⟨v5, v6, v7, v8, v9, v10, own, B, sc, rfl, g, ls⟩ ⟨rfl, rfl⟩
        have hi13 : i < 13 := by omega
        obtain ⟨own2, g2, nt⟩ := g.trim
        refine gn ?_
        refine sq1 ⟨_, rfl, _, rfl, _, rfl, a, b, st, bk, own2, B, sc, M0 + 40 * i, rfl, g2.c, by omega, by omega, fun own' B' sc' HC c' ls' tb' mo' kf' in' => ?_⟩
        have n1 : (B.states.length : Int) = sc.newest + 1 := g.c.r.ln
        have n2 : (B'.states.length : Int) = sc'.newest + 1 := c'.r.ln
        have gC := g2.told nt c' (by omega) tb' kf' in'
        have e40 : M0 + 40 * (i + 1) = M0 + 40 * i + 40 := by omega
        rw [e40]
        have m100 : M0 + 40 * i + 40 ≤ 100000 := by omega
        generalize M0 + 40 * i + 40 = mm at gC m100 ⊢
        have ls40 : B'.states.length ≤ 40 := by omega
        have lsi : B'.states.length ≤ 21 + (i + 1) := by omega
        clear g g2 nt c' kf' in' tb' mo'
        obtain ⟨vs, h1, h2⟩ := id gC.s1
        refine ⟨_, rfl, so, rfl, ⟨_, SqL.of h1⟩, ?_⟩
        refine for_it (walk_list (xs := vs)) (fun i2 σ H' => ∃ v5 v6 v7 v8 v9 v10, σ = [some (.ref l0), some (.ref a), some (.ref st), some (.ref bk), some (.ref so), v5, v6, v7, v8, v9, v10] ∧ Same HC H')
          ⟨_, _, _, _, _, _, rfl, Same.refl HC⟩ (fun i2 σ H' _ q => by obtain ⟨_, _, _, _, _, _, _, sm⟩ := q; exact SqL.of (sm _ _ h1)) ?_ (fun σ H' ⟨v5, v6, v7, v8, v9, v10, e, sm⟩ => ⟨v5, v6, v7, v8, v9, v10, own', B', sc', e, gC.same sm, lsi⟩)
        rintro i2 y σ HD HE hi2 ⟨w5, w6, w7, w8, w9, w10, rfl, sm⟩ ⟨rfl, ey⟩
        obtain ⟨x, ex, q, rfl, hq⟩ := pw_get h2 ey
        have mx := List.mem_of_getElem? ex
        have gE := gC.same sm
        refine ⟨q, _, rfl, SqT.of (sm _ _ hq), rfl, _, _, rfl, gn ⟨_, _, rfl, gn ⟨rfl, ?_⟩⟩⟩
        obtain ⟨dx, fs, ob, l⟩ := gE.c.sa.ob
        have ld := gE.ds.at_ x mx
        have lp := gE.lp x mx
        obtain ⟨q1, q2, q3⟩ := gE.nm x mx
        obtain ⟨us1, u1, u2⟩ := ld.h1
        have R := gE.c.r
        have ml := R.ml
        have l4 := R.l4
        have f0 : sc'.first = 0 := R.first
        have fl' : ∀ l' ∈ x.ls.map (fun l => l.2), ∃ t ∈ B'.tabs, t.1 = l'.1 ∧ t.2.2 = l'.2.1 := fun l' hl => by
          obtain ⟨l0', hl0, rfl⟩ := List.mem_map.mp hl
          exact lp.fl l0' hl0
        have pls : Paired (LsgAt K HE) (x.ls.map fun l => l.2) us1 := by
          clear fl' u1
          generalize x.ls = xl at u2
          induction u2 with
          | nil => exact .nil
          | cons h _ ih =>
            obtain ⟨p, f', e, a1, a2, a3⟩ := h
            exact .cons ⟨p, f', _, e, a1, a2, a3⟩ ih
        refine sa1 ⟨_, rfl, _, rfl, _, rfl, st, CS, dx, fs, _, rfl, ob, TS.cl, TS.n2, l.l2, bk, x.da, x.p1, x.p2, own', B', x.dc.number, sc'.newest, x.ls.map (fun l => l.2), us1, rfl, gE.c.ba, R.sn, R.nd, R.mn, by omega, by omega, ld.hd, u1, pls, fun l' hl => ?_, wid_due gE.c.ok R fl', q2, by omega, by omega, by omega, by omega, fun o HF sF on os => gn ?_⟩
        · obtain ⟨t, ht, _, e2⟩ := fl' l' hl
          rw [← e2]; exact (R.fl t ht).2.1
        have gF := gE.same sF
        have ldF := ld.same sF
        refine ifs ?_
        show tNot (tB _) _ _ _
        refine nB ?_
        obtain ⟨dx2, fs2, ob2, l2⟩ := gF.c.sa.ob
        have s1' : ∀ s ∈ x.dc.sights.map (fun s => s.2), ∃ l ∈ x.ls.map (fun l => l.2), l.1 = s.1 ∧ SameB l.2.2 s.2 := fun s hs => by
          obtain ⟨s0, hs0, rfl⟩ := List.mem_map.mp hs
          obtain ⟨l', hl', e1, e2⟩ := lp.s1 s0 hs0
          exact ⟨l'.2, List.mem_map.mpr ⟨l', hl', rfl⟩, e1, e2⟩
        have s2' : ∀ l ∈ x.ls.map (fun l => l.2), ∃ s ∈ x.dc.sights.map (fun s => s.2), l.1 = s.1 ∧ SameB l.2.2 s.2 := fun l' hl => by
          obtain ⟨l0', hl0, rfl⟩ := List.mem_map.mp hl
          obtain ⟨s0, hs0, e1, e2⟩ := lp.s2 l0' hl0
          exact ⟨s0.2, List.mem_map.mpr ⟨s0, hs0, rfl⟩, e1, e2⟩
        have late := fun z => late_iff R (made_nd gE.c.ok) q2 s1' s2' fl' (x := z)
        have same : ∀ o1 : Option Int, (o1 = none → ∀ z, ¬ Late sc'.dat x.dc.number (x.dc.sights.map fun s => s.2) z) → (∀ i, o1 = some i → Late sc'.dat x.dc.number (x.dc.sights.map fun s => s.2) i ∧ ∀ z, Late sc'.dat x.dc.number (x.dc.sights.map fun s => s.2) z → i ≤ z) → o1 = o := fun o1 a1 a2 => least_eq late (fun z h => late_le R h) a1 a2 on os
        have lf1 := lp.f1
        have fst0 : sc'.first ≤ x.dc.number := by omega
        have few10 : x.dc.sights.length ≤ 10 := by omega
        refine ⟨_, rfl, st, dx2, fs2, rfl, ob2, l2.no _ (by decide +kernel) (by decide +kernel) (by decide +kernel) (by decide +kernel), _, rfl, st, x.dl, sc', x.dc, mm, rfl, gF.c.sa, gF.c.ok, m100, (gF.ds.at_ x mx).pd, fst0, q3, few10, lp.nS, fun o1 HG sG a1 a2 => ?_⟩
        rw [same o1 a1 a2]
        have gG := gF.same sG
        obtain ⟨dx3, fs3, ob3, l3⟩ := gG.c.sa.ob
        refine ⟨_, rfl, st, dx3, fs3, rfl, ob3, l3.no _ (by decide +kernel) (by decide +kernel) (by decide +kernel) (by decide +kernel), _, rfl, st, x.dl, sc', x.dc, mm, rfl, gG.c.sa, gG.c.ok, m100, (gG.ds.at_ x mx).pd, fst0, q3, few10, lp.nS, fun o2 HH sH b1 b2 => ?_⟩
        rw [same o2 b1 b2]
        refine ⟨by show 2 ≤ sizeLine; decide, fun L1 hL1 => ⟨_, rfl, _, rfl, by show 2 ≤ sizeLine; decide, fun L2 hL2 => ?_⟩⟩
        have sI := same_new (o := .lst [oV o, oV o]) hL1
        have pI : (upd HH L1 (.lst [oV o, oV o])) L1 = some (.lst [oV o, oV o]) := upd_same
        generalize upd HH L1 (.lst [oV o, oV o]) = HI at sI pI hL2
        have sJ := same_new (o := .lst [oV o, oV o]) hL2
        have pJ : (upd HI L2 (.lst [oV o, oV o])) L2 = some (.lst [oV o, oV o]) := upd_same
        generalize upd HI L2 (.lst [oV o, oV o]) = HJ at sJ pJ
        have lfo : leaf (oV o) = true := by cases o <;> rfl
        exact ⟨.ref L1, .ref L2, rfl, .inr ⟨L1, L2, [oV o, oV o], [oV o, oV o], rfl, rfl, .inr ⟨SqL.of (sJ _ _ pI), SqL.of pJ⟩, by show 2 ≤ 1000; decide, .cons (.inl ⟨rfl, lfo⟩) (.cons (.inl ⟨rfl, lfo⟩) .nil)⟩, _, rfl, iteF ⟨_, _, _, _, _, _, rfl, sm.trans (sF.trans (sG.trans (sH.trans (sI.trans sJ))))⟩⟩
end
end GS


set_option Elab.async false
set_option maxRecDepth 100000
set_option maxHeartbeats 4000000
namespace GS
open PySem L2 HX
theorem all_mk {l : PySem.W.OpenLaw} {w : World} {K : PySem.W.Frag} {h : Heap} {mg : Str → Option Value} {fa f1 f2 f3 f4 f5 f6 f7 f8 f9 f10 f11 f12 f13 f14 f15 f16 f17 f18 f19 : Addr} (X : K.In h) (G : h.Ns mainGlobals mg) (hfa : mg "law" = some (.ref fa))
    {od1 an1 od2 an2 od3 an3 od4 an4 od5 an5 od6 an6 od7 an7 od8 an8 od9 an9 od10 an10 od11 an11 od12 an12 od13 an13 od14 an14 od15 an15 od16 an16 od17 an17 od18 an18 od19 an19 : Option Addr} {CI hI1 hI2 CT hT1 hT2 hT3 hT4 hT5 hT6 hT7 CS hS1 kdS1 hS2 hS3 hS4 hS5 kdS5 hS6 hS7 hS8 hS9 CD hD1 hD2 hD3 hD4 hD5 hD6 hD7 hD8 hD9 CE cB PB z1 z2 z3 z4 z5 z6 z7 z8 z9 : Addr} {oeI1 amI1 oeI2 amI2 oeT1 amT1 oeT2 amT2 oeT3 amT3 oeT4 amT4 oeT5 amT5 oeT6 amT6 oeT7 amT7 oeS1 amS1 oeS2 amS2 oeS3 amS3 oeS4 amS4 oeS5 amS5 oeS6 amS6 oeS7 amS7 oeS8 amS8 oeS9 amS9 oeD1 amD1 oeD2 amD2 oeD3 amD3 oeD4 amD4 oeD5 amD5 oeD6 amD6 oeD7 amD7 oeD8 amD8 oeD9 amD9 : Option Addr} {tkS : Tok} {smI1 smI2 smT1 smT2 smT3 smT4 smT5 smT6 smT7 smS1 smS2 smS3 smS4 smS5 smS6 smS7 smS8 smS9 smD1 smD2 smD3 smD4 smD5 smD6 smD7 smD8 smD9 : Array (Option Value)} {oqI1 kWI1 ddI1 pnI1 ceI1 cuI1 oqI2 kWI2 ddI2 pnI2 ceI2 cuI2 oqT1 kWT1 ddT1 pnT1 ceT1 cuT1 oqT2 kWT2 ddT2 pnT2 ceT2 cuT2 oqT3 kWT3 ddT3 pnT3 ceT3 cuT3 oqT4 kWT4 ddT4 pnT4 ceT4 cuT4 oqT5 kWT5 ddT5 pnT5 ceT5 cuT5 oqT6 kWT6 ddT6 pnT6 ceT6 cuT6 oqT7 kWT7 ddT7 pnT7 ceT7 cuT7 oqS1 ddS1 pnS1 ceS1 cuS1 oqS2 kWS2 ddS2 pnS2 ceS2 cuS2 oqS3 kWS3 ddS3 pnS3 ceS3 cuS3 oqS4 kWS4 ddS4 pnS4 ceS4 cuS4 oqS5 ddS5 pnS5 ceS5 cuS5 oqS6 kWS6 ddS6 pnS6 ceS6 cuS6 oqS7 kWS7 ddS7 pnS7 ceS7 cuS7 oqS8 kWS8 ddS8 pnS8 ceS8 cuS8 oqS9 kWS9 ddS9 pnS9 ceS9 cuS9 oqD1 kWD1 ddD1 pnD1 ceD1 cuD1 oqD2 kWD2 ddD2 pnD2 ceD2 cuD2 oqD3 kWD3 ddD3 pnD3 ceD3 cuD3 oqD4 kWD4 ddD4 pnD4 ceD4 cuD4 oqD5 kWD5 ddD5 pnD5 ceD5 cuD5 oqD6 kWD6 ddD6 pnD6 ceD6 cuD6 oqD7 kWD7 ddD7 pnD7 ceD7 cuD7 oqD8 kWD8 ddD8 pnD8 ceD8 cuD8 oqD9 kWD9 ddD9 pnD9 ceD9 cuD9 : Value} {sl1 sl2 sl3 sl4 sl5 sl6 sl7 sl8 sl9 sl10 sl11 sl12 sl13 sl14 sl15 sl16 sl17 sl18 sl19 : Array (Option Value)} {oc1 kV1 dc1 pm1 cd1 ct1 oc2 kV2 dc2 pm2 cd2 ct2 oc3 kV3 dc3 pm3 cd3 ct3 oc4 kV4 dc4 pm4 cd4 ct4 oc5 kV5 dc5 pm5 cd5 ct5 oc6 kV6 dc6 pm6 cd6 ct6 oc7 kV7 dc7 pm7 cd7 ct7 oc8 kV8 dc8 pm8 cd8 ct8 oc9 kV9 dc9 pm9 cd9 ct9 oc10 kV10 dc10 pm10 cd10 ct10 oc11 kV11 dc11 pm11 cd11 ct11 oc12 kV12 dc12 pm12 cd12 ct12 oc13 kV13 dc13 pm13 cd13 ct13 oc14 kV14 dc14 pm14 cd14 ct14 oc15 kV15 dc15 pm15 cd15 ct15 oc16 kV16 dc16 pm16 cd16 ct16 oc17 kV17 dc17 pm17 cd17 ct17 oc18 kV18 dc18 pm18 ct18 oc19 kV19 dc19 pm19 cd19 ct19 : Value}
    (a1 : PySem.W.nsIn K mainGlobals "is_between" = some (some (.ref f1))) (l1 : K.lookup f1 = some ⟨oc1, od1, .func (PySem.W.fnOf "is_between" "is_between" (defArgs s_is_between) (defBody s_is_between) (defScope s_is_between) .none kV1 dc1 pm1 an1 cd1 ct1), sl1⟩) (c1 : PySem.W.codeIn K cd1 "is_between" = true) (k1 : PySem.W.keepIn K (.ref f1) = true)
    (a2 : PySem.W.nsIn K mainGlobals "is_in" = some (some (.ref f2))) (l2 : K.lookup f2 = some ⟨oc2, od2, .func (PySem.W.fnOf "is_in" "is_in" (defArgs s_is_in) (defBody s_is_in) (defScope s_is_in) .none kV2 dc2 pm2 an2 cd2 ct2), sl2⟩) (c2 : PySem.W.codeIn K cd2 "is_in" = true) (k2 : PySem.W.keepIn K (.ref f2) = true)
    (a3 : PySem.W.nsIn K mainGlobals "place_in" = some (some (.ref f3))) (l3 : K.lookup f3 = some ⟨oc3, od3, .func (PySem.W.fnOf "place_in" "place_in" (defArgs s_place_in) (defBody s_place_in) (defScope s_place_in) .none kV3 dc3 pm3 an3 cd3 ct3), sl3⟩) (c3 : PySem.W.codeIn K cd3 "place_in" = true) (k3 : PySem.W.keepIn K (.ref f3) = true)
    (a4 : PySem.W.nsIn K mainGlobals "_law_begun" = some (some (.ref f4))) (l4 : K.lookup f4 = some ⟨oc4, od4, .func (PySem.W.fnOf "_law_begun" "_law_begun" (defArgs s_l_begun) (defBody s_l_begun) (defScope s_l_begun) .none kV4 dc4 pm4 an4 cd4 ct4), sl4⟩) (c4 : PySem.W.codeIn K cd4 "_law_begun" = true) (k4 : PySem.W.keepIn K (.ref f4) = true)
    (a5 : PySem.W.nsIn K mainGlobals "_law_take" = some (some (.ref f5))) (l5 : K.lookup f5 = some ⟨oc5, od5, .func (PySem.W.fnOf "_law_take" "_law_take" (defArgs s_l_take) (defBody s_l_take) (defScope s_l_take) .none kV5 dc5 pm5 an5 cd5 ct5), sl5⟩) (c5 : PySem.W.codeIn K cd5 "_law_take" = true) (k5 : PySem.W.keepIn K (.ref f5) = true)
    (a6 : PySem.W.nsIn K mainGlobals "_law_alike" = some (some (.ref f6))) (l6 : K.lookup f6 = some ⟨oc6, od6, .func (PySem.W.fnOf "_law_alike" "_law_alike" (defArgs s_l_alike) (defBody s_l_alike) (defScope s_l_alike) .none kV6 dc6 pm6 an6 cd6 ct6), sl6⟩) (c6 : PySem.W.codeIn K cd6 "_law_alike" = true) (k6 : PySem.W.keepIn K (.ref f6) = true)
    (a7 : PySem.W.nsIn K mainGlobals "_law_told" = some (some (.ref f7))) (l7 : K.lookup f7 = some ⟨oc7, od7, .func (PySem.W.fnOf "_law_told" "_law_told" (defArgs s_l_told) (defBody s_l_told) (defScope s_l_told) .none kV7 dc7 pm7 an7 cd7 ct7), sl7⟩) (c7 : PySem.W.codeIn K cd7 "_law_told" = true) (k7 : PySem.W.keepIn K (.ref f7) = true)
    (a8 : PySem.W.nsIn K mainGlobals "_law_book" = some (some (.ref f8))) (l8 : K.lookup f8 = some ⟨oc8, od8, .func (PySem.W.fnOf "_law_book" "_law_book" (defArgs s_l_book) (defBody s_l_book) (defScope s_l_book) .none kV8 dc8 pm8 an8 cd8 ct8), sl8⟩) (c8 : PySem.W.codeIn K cd8 "_law_book" = true) (k8 : PySem.W.keepIn K (.ref f8) = true)
    (a9 : PySem.W.nsIn K mainGlobals "_law_row" = some (some (.ref f9))) (l9 : K.lookup f9 = some ⟨oc9, od9, .func (PySem.W.fnOf "_law_row" "_law_row" (defArgs s_l_row) (defBody s_l_row) (defScope s_l_row) .none kV9 dc9 pm9 an9 cd9 ct9), sl9⟩) (c9 : PySem.W.codeIn K cd9 "_law_row" = true) (k9 : PySem.W.keepIn K (.ref f9) = true)
    (a10 : PySem.W.nsIn K mainGlobals "_law_writes" = some (some (.ref f10))) (l10 : K.lookup f10 = some ⟨oc10, od10, .func (PySem.W.fnOf "_law_writes" "_law_writes" (defArgs s_l_writes) (defBody s_l_writes) (defScope s_l_writes) .none kV10 dc10 pm10 an10 cd10 ct10), sl10⟩) (c10 : PySem.W.codeIn K cd10 "_law_writes" = true) (k10 : PySem.W.keepIn K (.ref f10) = true)
    (a11 : PySem.W.nsIn K mainGlobals "_law_noted" = some (some (.ref f11))) (l11 : K.lookup f11 = some ⟨oc11, od11, .func (PySem.W.fnOf "_law_noted" "_law_noted" (defArgs s_l_noted) (defBody s_l_noted) (defScope s_l_noted) .none kV11 dc11 pm11 an11 cd11 ct11), sl11⟩) (c11 : PySem.W.codeIn K cd11 "_law_noted" = true) (k11 : PySem.W.keepIn K (.ref f11) = true)
    (a12 : PySem.W.nsIn K mainGlobals "_law_told_record" = some (some (.ref f12))) (l12 : K.lookup f12 = some ⟨oc12, od12, .func (PySem.W.fnOf "_law_told_record" "_law_told_record" (defArgs s_l_told_record) (defBody s_l_told_record) (defScope s_l_told_record) .none kV12 dc12 pm12 an12 cd12 ct12), sl12⟩) (c12 : PySem.W.codeIn K cd12 "_law_told_record" = true) (k12 : PySem.W.keepIn K (.ref f12) = true)
    (a13 : PySem.W.nsIn K mainGlobals "_law_rows" = some (some (.ref f13))) (l13 : K.lookup f13 = some ⟨oc13, od13, .func (PySem.W.fnOf "_law_rows" "_law_rows" (defArgs s_l_rows) (defBody s_l_rows) (defScope s_l_rows) .none kV13 dc13 pm13 an13 cd13 ct13), sl13⟩) (c13 : PySem.W.codeIn K cd13 "_law_rows" = true) (k13 : PySem.W.keepIn K (.ref f13) = true)
    (a14 : PySem.W.nsIn K mainGlobals "_law_content" = some (some (.ref f14))) (l14 : K.lookup f14 = some ⟨oc14, od14, .func (PySem.W.fnOf "_law_content" "_law_content" (defArgs s_l_content) (defBody s_l_content) (defScope s_l_content) .none kV14 dc14 pm14 an14 cd14 ct14), sl14⟩) (c14 : PySem.W.codeIn K cd14 "_law_content" = true) (k14 : PySem.W.keepIn K (.ref f14) = true)
    (a15 : PySem.W.nsIn K mainGlobals "_law_bounds" = some (some (.ref f15))) (l15 : K.lookup f15 = some ⟨oc15, od15, .func (PySem.W.fnOf "_law_bounds" "_law_bounds" (defArgs s_l_bounds) (defBody s_l_bounds) (defScope s_l_bounds) .none kV15 dc15 pm15 an15 cd15 ct15), sl15⟩) (c15 : PySem.W.codeIn K cd15 "_law_bounds" = true) (k15 : PySem.W.keepIn K (.ref f15) = true)
    (a16 : PySem.W.nsIn K mainGlobals "_law_in" = some (some (.ref f16))) (l16 : K.lookup f16 = some ⟨oc16, od16, .func (PySem.W.fnOf "_law_in" "_law_in" (defArgs s_l_in) (defBody s_l_in) (defScope s_l_in) .none kV16 dc16 pm16 an16 cd16 ct16), sl16⟩) (c16 : PySem.W.codeIn K cd16 "_law_in" = true) (k16 : PySem.W.keepIn K (.ref f16) = true)
    (a17 : PySem.W.nsIn K mainGlobals "_law_due" = some (some (.ref f17))) (l17 : K.lookup f17 = some ⟨oc17, od17, .func (PySem.W.fnOf "_law_due" "_law_due" (defArgs s_l_due) (defBody s_l_due) (defScope s_l_due) .none kV17 dc17 pm17 an17 cd17 ct17), sl17⟩) (c17 : PySem.W.codeIn K cd17 "_law_due" = true) (k17 : PySem.W.keepIn K (.ref f17) = true)
    (a18 : PySem.W.nsIn K mainGlobals "_law_saw" = some (some (.ref f18))) (l18 : K.lookup f18 = some ⟨oc18, od18, .func (PySem.W.fnOf "_law_saw" "_law_saw" (defArgs s_l_saw) (defBody s_l_saw) (defScope s_l_saw) .none kV18 dc18 pm18 an18 (.ref cB) ct18), sl18⟩) (c18 : PySem.W.codeIn K (.ref cB) "_law_saw" = true) (k18 : PySem.W.keepIn K (.ref f18) = true)
    (a19 : PySem.W.nsIn K mainGlobals "law" = some (some (.ref f19))) (l19 : K.lookup f19 = some ⟨oc19, od19, .func (PySem.W.fnOf "law" "law" (defArgs s_law) (defBody s_law) (defScope s_law) .none kV19 dc19 pm19 an19 cd19 ct19), sl19⟩) (c19 : PySem.W.codeIn K cd19 "law" = true) (k19 : PySem.W.keepIn K (.ref f19) = true)
    (z_len : PySem.W.nsIn K mainGlobals "len" = some none) (z_range : PySem.W.nsIn K mainGlobals "range" = some none) (z_list : PySem.W.nsIn K mainGlobals "list" = some none) (z_tuple : PySem.W.nsIn K mainGlobals "tuple" = some none) (z_int : PySem.W.nsIn K mainGlobals "int" = some none) (z_isinstance : PySem.W.nsIn K mainGlobals "isinstance" = some none) (z_dict : PySem.W.nsIn K mainGlobals "dict" = some none) (z_bool : PySem.W.nsIn K mainGlobals "bool" = some none) (z_str : PySem.W.nsIn K mainGlobals "str" = some none) (z_min : PySem.W.nsIn K mainGlobals "min" = some none) (z_max : PySem.W.nsIn K mainGlobals "max" = some none) (z_sorted : PySem.W.nsIn K mainGlobals "sorted" = some none) (z_all : PySem.W.nsIn K mainGlobals "all" = some none) (z_any : PySem.W.nsIn K mainGlobals "any" = some none) (z_enumerate : PySem.W.nsIn K mainGlobals "enumerate" = some none) (z_ValueError : PySem.W.nsIn K mainGlobals "ValueError" = some none)
    (aCI : PySem.W.nsIn K mainGlobals "Index" = some (some (.ref CI)))
    (xI1 : PySem.W.findIn K (.ref CI) "__init__" = some (some (.ref hI1)))
    (yI1 : PySem.W.isFn K (.ref hI1) = true)
    (vI1 : K.lookup hI1 = some ⟨oqI1, oeI1, .func (PySem.W.fnOf "__init__" "Index.__init__" (defArgs s_Index___init__) (defBody s_Index___init__) (defScope s_Index___init__) .none kWI1 ddI1 pnI1 amI1 ceI1 cuI1), smI1⟩)
    (wI1 : PySem.W.codeIn K ceI1 "Index.__init__" = true)
    (uI1 : PySem.W.keepIn K (.ref hI1) = true)
    (xI2 : PySem.W.findIn K (.ref CI) "add" = some (some (.ref hI2)))
    (yI2 : PySem.W.isFn K (.ref hI2) = true)
    (vI2 : K.lookup hI2 = some ⟨oqI2, oeI2, .func (PySem.W.fnOf "add" "Index.add" (defArgs s_Index_add) (defBody s_Index_add) (defScope s_Index_add) .none kWI2 ddI2 pnI2 amI2 ceI2 cuI2), smI2⟩)
    (wI2 : PySem.W.codeIn K ceI2 "Index.add" = true)
    (uI2 : PySem.W.keepIn K (.ref hI2) = true)
    (pgI : PySem.W.plainGet K CI Str.empty = true)
    (hdI : PySem.W.hasDictIn K CI = true)
    (poI : PySem.W.plainOver K CI = true)
    (saI : PySem.W.findIn K (.ref CI) "__setattr__" = some (some (.builtin "object.__setattr__")))
    (mkI : PySem.W.makesIn K CI = true)
    (kcI : PySem.W.keepIn K (.ref CI) = true)
    (nfI0 : PySem.W.findIn K (.ref CI) "many" = some none)
    (nfI1 : PySem.W.findIn K (.ref CI) "rising" = some none)
    (aCT : PySem.W.nsIn K mainGlobals "Table" = some (some (.ref CT)))
    (xT1 : PySem.W.findIn K (.ref CT) "__init__" = some (some (.ref hT1)))
    (yT1 : PySem.W.isFn K (.ref hT1) = true)
    (vT1 : K.lookup hT1 = some ⟨oqT1, oeT1, .func (PySem.W.fnOf "__init__" "Table.__init__" (defArgs s_Table___init__) (defBody s_Table___init__) (defScope s_Table___init__) .none kWT1 ddT1 pnT1 amT1 ceT1 cuT1), smT1⟩)
    (wT1 : PySem.W.codeIn K ceT1 "Table.__init__" = true)
    (uT1 : PySem.W.keepIn K (.ref hT1) = true)
    (xT2 : PySem.W.findIn K (.ref CT) "lay" = some (some (.ref hT2)))
    (yT2 : PySem.W.isFn K (.ref hT2) = true)
    (vT2 : K.lookup hT2 = some ⟨oqT2, oeT2, .func (PySem.W.fnOf "lay" "Table.lay" (defArgs s_Table_lay) (defBody s_Table_lay) (defScope s_Table_lay) .none kWT2 ddT2 pnT2 amT2 ceT2 cuT2), smT2⟩)
    (wT2 : PySem.W.codeIn K ceT2 "Table.lay" = true)
    (uT2 : PySem.W.keepIn K (.ref hT2) = true)
    (xT3 : PySem.W.findIn K (.ref CT) "make_index" = some (some (.ref hT3)))
    (yT3 : PySem.W.isFn K (.ref hT3) = true)
    (vT3 : K.lookup hT3 = some ⟨oqT3, oeT3, .func (PySem.W.fnOf "make_index" "Table.make_index" (defArgs s_Table_make_index) (defBody s_Table_make_index) (defScope s_Table_make_index) .none kWT3 ddT3 pnT3 amT3 ceT3 cuT3), smT3⟩)
    (wT3 : PySem.W.codeIn K ceT3 "Table.make_index" = true)
    (uT3 : PySem.W.keepIn K (.ref hT3) = true)
    (xT4 : PySem.W.findIn K (.ref CT) "version" = some (some (.ref hT4)))
    (yT4 : PySem.W.isFn K (.ref hT4) = true)
    (vT4 : K.lookup hT4 = some ⟨oqT4, oeT4, .func (PySem.W.fnOf "version" "Table.version" (defArgs s_Table_version) (defBody s_Table_version) (defScope s_Table_version) .none kWT4 ddT4 pnT4 amT4 ceT4 cuT4), smT4⟩)
    (wT4 : PySem.W.codeIn K ceT4 "Table.version" = true)
    (uT4 : PySem.W.keepIn K (.ref hT4) = true)
    (xT5 : PySem.W.findIn K (.ref CT) "_keys_between" = some (some (.ref hT5)))
    (yT5 : PySem.W.isFn K (.ref hT5) = true)
    (vT5 : K.lookup hT5 = some ⟨oqT5, oeT5, .func (PySem.W.fnOf "_keys_between" "Table._keys_between" (defArgs s_Table__keys_between) (defBody s_Table__keys_between) (defScope s_Table__keys_between) .none kWT5 ddT5 pnT5 amT5 ceT5 cuT5), smT5⟩)
    (wT5 : PySem.W.codeIn K ceT5 "Table._keys_between" = true)
    (uT5 : PySem.W.keepIn K (.ref hT5) = true)
    (xT6 : PySem.W.findIn K (.ref CT) "made_behind" = some (some (.ref hT6)))
    (yT6 : PySem.W.isFn K (.ref hT6) = true)
    (vT6 : K.lookup hT6 = some ⟨oqT6, oeT6, .func (PySem.W.fnOf "made_behind" "Table.made_behind" (defArgs s_Table_made_behind) (defBody s_Table_made_behind) (defScope s_Table_made_behind) .none kWT6 ddT6 pnT6 amT6 ceT6 cuT6), smT6⟩)
    (wT6 : PySem.W.codeIn K ceT6 "Table.made_behind" = true)
    (uT6 : PySem.W.keepIn K (.ref hT6) = true)
    (xT7 : PySem.W.findIn K (.ref CT) "written_behind" = some (some (.ref hT7)))
    (yT7 : PySem.W.isFn K (.ref hT7) = true)
    (vT7 : K.lookup hT7 = some ⟨oqT7, oeT7, .func (PySem.W.fnOf "written_behind" "Table.written_behind" (defArgs s_Table_written_behind) (defBody s_Table_written_behind) (defScope s_Table_written_behind) .none kWT7 ddT7 pnT7 amT7 ceT7 cuT7), smT7⟩)
    (wT7 : PySem.W.codeIn K ceT7 "Table.written_behind" = true)
    (uT7 : PySem.W.keepIn K (.ref hT7) = true)
    (pgT : PySem.W.plainGet K CT Str.empty = true)
    (hdT : PySem.W.hasDictIn K CT = true)
    (poT : PySem.W.plainOver K CT = true)
    (saT : PySem.W.findIn K (.ref CT) "__setattr__" = some (some (.builtin "object.__setattr__")))
    (mkT : PySem.W.makesIn K CT = true)
    (kcT : PySem.W.keepIn K (.ref CT) = true)
    (nfT0 : PySem.W.findIn K (.ref CT) "number" = some none)
    (nfT1 : PySem.W.findIn K (.ref CT) "fields" = some none)
    (nfT2 : PySem.W.findIn K (.ref CT) "chains" = some none)
    (nfT3 : PySem.W.findIn K (.ref CT) "rising" = some none)
    (nfT4 : PySem.W.findIn K (.ref CT) "indexes" = some none)
    (nfT5 : PySem.W.findIn K (.ref CT) "made" = some none)
    (aCS : PySem.W.nsIn K mainGlobals "Store" = some (some (.ref CS)))
    (xS1 : PySem.W.findIn K (.ref CS) "__init__" = some (some (.ref hS1)))
    (yS1 : PySem.W.isFn K (.ref hS1) = true)
    (vS1 : K.lookup hS1 = some ⟨oqS1, oeS1, .func (PySem.W.fnOf "__init__" "Store.__init__" (defArgs s_Store___init__) (defBody s_Store___init__) (defScope s_Store___init__) .none (.ref kdS1) ddS1 pnS1 amS1 ceS1 cuS1), smS1⟩)
    (wS1 : PySem.W.codeIn K ceS1 "Store.__init__" = true)
    (uS1 : PySem.W.keepIn K (.ref hS1) = true)
    (kkS1 : PySem.W.nsIn K kdS1 "first" = some (some (.int 0 tkS)))
    (xS2 : PySem.W.findIn K (.ref CS) "take" = some (some (.ref hS2)))
    (yS2 : PySem.W.isFn K (.ref hS2) = true)
    (vS2 : K.lookup hS2 = some ⟨oqS2, oeS2, .func (PySem.W.fnOf "take" "Store.take" (defArgs s_Store_take) (defBody s_Store_take) (defScope s_Store_take) .none kWS2 ddS2 pnS2 amS2 ceS2 cuS2), smS2⟩)
    (wS2 : PySem.W.codeIn K ceS2 "Store.take" = true)
    (uS2 : PySem.W.keepIn K (.ref hS2) = true)
    (xS3 : PySem.W.findIn K (.ref CS) "_take_one" = some (some (.ref hS3)))
    (yS3 : PySem.W.isFn K (.ref hS3) = true)
    (vS3 : K.lookup hS3 = some ⟨oqS3, oeS3, .func (PySem.W.fnOf "_take_one" "Store._take_one" (defArgs s_Store__take_one) (defBody s_Store__take_one) (defScope s_Store__take_one) .none kWS3 ddS3 pnS3 amS3 ceS3 cuS3), smS3⟩)
    (wS3 : PySem.W.codeIn K ceS3 "Store._take_one" = true)
    (uS3 : PySem.W.keepIn K (.ref hS3) = true)
    (xS4 : PySem.W.findIn K (.ref CS) "_check" = some (some (.ref hS4)))
    (yS4 : PySem.W.isFn K (.ref hS4) = true)
    (vS4 : K.lookup hS4 = some ⟨oqS4, oeS4, .func (PySem.W.fnOf "_check" "Store._check" (defArgs s_Store__check) (defBody s_Store__check) (defScope s_Store__check) .none kWS4 ddS4 pnS4 amS4 ceS4 cuS4), smS4⟩)
    (wS4 : PySem.W.codeIn K ceS4 "Store._check" = true)
    (uS4 : PySem.W.keepIn K (.ref hS4) = true)
    (xS5 : PySem.W.findIn K (.ref CS) "opened" = some (some (.ref hS5)))
    (yS5 : PySem.W.isFn K (.ref hS5) = true)
    (vS5 : K.lookup hS5 = some ⟨oqS5, oeS5, .func (PySem.W.fnOf "opened" "Store.opened" (defArgs s_Store_opened) (defBody s_Store_opened) (defScope s_Store_opened) .none (.ref kdS5) ddS5 pnS5 amS5 ceS5 cuS5), smS5⟩)
    (wS5 : PySem.W.codeIn K ceS5 "Store.opened" = true)
    (uS5 : PySem.W.keepIn K (.ref hS5) = true)
    (kkS5 : PySem.W.nsIn K kdS5 "number" = some (some (.none)))
    (xS6 : PySem.W.findIn K (.ref CS) "version" = some (some (.ref hS6)))
    (yS6 : PySem.W.isFn K (.ref hS6) = true)
    (vS6 : K.lookup hS6 = some ⟨oqS6, oeS6, .func (PySem.W.fnOf "version" "Store.version" (defArgs s_Store_version) (defBody s_Store_version) (defScope s_Store_version) .none kWS6 ddS6 pnS6 amS6 ceS6 cuS6), smS6⟩)
    (wS6 : PySem.W.codeIn K ceS6 "Store.version" = true)
    (uS6 : PySem.W.keepIn K (.ref hS6) = true)
    (xS7 : PySem.W.findIn K (.ref CS) "row" = some (some (.ref hS7)))
    (yS7 : PySem.W.isFn K (.ref hS7) = true)
    (vS7 : K.lookup hS7 = some ⟨oqS7, oeS7, .func (PySem.W.fnOf "row" "Store.row" (defArgs s_Store_row) (defBody s_Store_row) (defScope s_Store_row) .none kWS7 ddS7 pnS7 amS7 ceS7 cuS7), smS7⟩)
    (wS7 : PySem.W.codeIn K ceS7 "Store.row" = true)
    (uS7 : PySem.W.keepIn K (.ref hS7) = true)
    (xS8 : PySem.W.findIn K (.ref CS) "shapes" = some (some (.ref hS8)))
    (yS8 : PySem.W.isFn K (.ref hS8) = true)
    (vS8 : K.lookup hS8 = some ⟨oqS8, oeS8, .func (PySem.W.fnOf "shapes" "Store.shapes" (defArgs s_Store_shapes) (defBody s_Store_shapes) (defScope s_Store_shapes) .none kWS8 ddS8 pnS8 amS8 ceS8 cuS8), smS8⟩)
    (wS8 : PySem.W.codeIn K ceS8 "Store.shapes" = true)
    (uS8 : PySem.W.keepIn K (.ref hS8) = true)
    (xS9 : PySem.W.findIn K (.ref CS) "clash" = some (some (.ref hS9)))
    (yS9 : PySem.W.isFn K (.ref hS9) = true)
    (vS9 : K.lookup hS9 = some ⟨oqS9, oeS9, .func (PySem.W.fnOf "clash" "Store.clash" (defArgs s_Store_clash) (defBody s_Store_clash) (defScope s_Store_clash) .none kWS9 ddS9 pnS9 amS9 ceS9 cuS9), smS9⟩)
    (wS9 : PySem.W.codeIn K ceS9 "Store.clash" = true)
    (uS9 : PySem.W.keepIn K (.ref hS9) = true)
    (pgS : PySem.W.plainGet K CS Str.empty = true)
    (hdS : PySem.W.hasDictIn K CS = true)
    (poS : PySem.W.plainOver K CS = true)
    (saS : PySem.W.findIn K (.ref CS) "__setattr__" = some (some (.builtin "object.__setattr__")))
    (mkS : PySem.W.makesIn K CS = true)
    (kcS : PySem.W.keepIn K (.ref CS) = true)
    (nfS0 : PySem.W.findIn K (.ref CS) "first" = some none)
    (nfS1 : PySem.W.findIn K (.ref CS) "newest" = some none)
    (nfS2 : PySem.W.findIn K (.ref CS) "_tables" = some none)
    (nfS3 : PySem.W.findIn K (.ref CS) "_moments" = some none)
    (aCD : PySem.W.nsIn K mainGlobals "Dealing" = some (some (.ref CD)))
    (xD1 : PySem.W.findIn K (.ref CD) "__init__" = some (some (.ref hD1)))
    (yD1 : PySem.W.isFn K (.ref hD1) = true)
    (vD1 : K.lookup hD1 = some ⟨oqD1, oeD1, .func (PySem.W.fnOf "__init__" "Dealing.__init__" (defArgs s_Dealing___init__) (defBody s_Dealing___init__) (defScope s_Dealing___init__) .none kWD1 ddD1 pnD1 amD1 ceD1 cuD1), smD1⟩)
    (wD1 : PySem.W.codeIn K ceD1 "Dealing.__init__" = true)
    (uD1 : PySem.W.keepIn K (.ref hD1) = true)
    (xD2 : PySem.W.findIn K (.ref CD) "_laid_in" = some (some (.ref hD2)))
    (yD2 : PySem.W.isFn K (.ref hD2) = true)
    (vD2 : K.lookup hD2 = some ⟨oqD2, oeD2, .func (PySem.W.fnOf "_laid_in" "Dealing._laid_in" (defArgs s_Dealing__laid_in) (defBody s_Dealing__laid_in) (defScope s_Dealing__laid_in) .none kWD2 ddD2 pnD2 amD2 ceD2 cuD2), smD2⟩)
    (wD2 : PySem.W.codeIn K ceD2 "Dealing._laid_in" = true)
    (uD2 : PySem.W.keepIn K (.ref hD2) = true)
    (xD3 : PySem.W.findIn K (.ref CD) "row" = some (some (.ref hD3)))
    (yD3 : PySem.W.isFn K (.ref hD3) = true)
    (vD3 : K.lookup hD3 = some ⟨oqD3, oeD3, .func (PySem.W.fnOf "row" "Dealing.row" (defArgs s_Dealing_row) (defBody s_Dealing_row) (defScope s_Dealing_row) .none kWD3 ddD3 pnD3 amD3 ceD3 cuD3), smD3⟩)
    (wD3 : PySem.W.codeIn K ceD3 "Dealing.row" = true)
    (uD3 : PySem.W.keepIn K (.ref hD3) = true)
    (xD4 : PySem.W.findIn K (.ref CD) "shapes" = some (some (.ref hD4)))
    (yD4 : PySem.W.isFn K (.ref hD4) = true)
    (vD4 : K.lookup hD4 = some ⟨oqD4, oeD4, .func (PySem.W.fnOf "shapes" "Dealing.shapes" (defArgs s_Dealing_shapes) (defBody s_Dealing_shapes) (defScope s_Dealing_shapes) .none kWD4 ddD4 pnD4 amD4 ceD4 cuD4), smD4⟩)
    (wD4 : PySem.W.codeIn K ceD4 "Dealing.shapes" = true)
    (uD4 : PySem.W.keepIn K (.ref hD4) = true)
    (xD5 : PySem.W.findIn K (.ref CD) "_keep" = some (some (.ref hD5)))
    (yD5 : PySem.W.isFn K (.ref hD5) = true)
    (vD5 : K.lookup hD5 = some ⟨oqD5, oeD5, .func (PySem.W.fnOf "_keep" "Dealing._keep" (defArgs s_Dealing__keep) (defBody s_Dealing__keep) (defScope s_Dealing__keep) .none kWD5 ddD5 pnD5 amD5 ceD5 cuD5), smD5⟩)
    (wD5 : PySem.W.codeIn K ceD5 "Dealing._keep" = true)
    (uD5 : PySem.W.keepIn K (.ref hD5) = true)
    (xD6 : PySem.W.findIn K (.ref CD) "make" = some (some (.ref hD6)))
    (yD6 : PySem.W.isFn K (.ref hD6) = true)
    (vD6 : K.lookup hD6 = some ⟨oqD6, oeD6, .func (PySem.W.fnOf "make" "Dealing.make" (defArgs s_Dealing_make) (defBody s_Dealing_make) (defScope s_Dealing_make) .none kWD6 ddD6 pnD6 amD6 ceD6 cuD6), smD6⟩)
    (wD6 : PySem.W.codeIn K ceD6 "Dealing.make" = true)
    (uD6 : PySem.W.keepIn K (.ref hD6) = true)
    (xD7 : PySem.W.findIn K (.ref CD) "saw" = some (some (.ref hD7)))
    (yD7 : PySem.W.isFn K (.ref hD7) = true)
    (vD7 : K.lookup hD7 = some ⟨oqD7, oeD7, .func (PySem.W.fnOf "saw" "Dealing.saw" (defArgs s_Dealing_saw) (defBody s_Dealing_saw) (defScope s_Dealing_saw) .none kWD7 ddD7 pnD7 amD7 ceD7 cuD7), smD7⟩)
    (wD7 : PySem.W.codeIn K ceD7 "Dealing.saw" = true)
    (uD7 : PySem.W.keepIn K (.ref hD7) = true)
    (xD8 : PySem.W.findIn K (.ref CD) "seen" = some (some (.ref hD8)))
    (yD8 : PySem.W.isFn K (.ref hD8) = true)
    (vD8 : K.lookup hD8 = some ⟨oqD8, oeD8, .func (PySem.W.fnOf "seen" "Dealing.seen" (defArgs s_Dealing_seen) (defBody s_Dealing_seen) (defScope s_Dealing_seen) .none kWD8 ddD8 pnD8 amD8 ceD8 cuD8), smD8⟩)
    (wD8 : PySem.W.codeIn K ceD8 "Dealing.seen" = true)
    (uD8 : PySem.W.keepIn K (.ref hD8) = true)
    (xD9 : PySem.W.findIn K (.ref CD) "put" = some (some (.ref hD9)))
    (yD9 : PySem.W.isFn K (.ref hD9) = true)
    (vD9 : K.lookup hD9 = some ⟨oqD9, oeD9, .func (PySem.W.fnOf "put" "Dealing.put" (defArgs s_Dealing_put) (defBody s_Dealing_put) (defScope s_Dealing_put) .none kWD9 ddD9 pnD9 amD9 ceD9 cuD9), smD9⟩)
    (wD9 : PySem.W.codeIn K ceD9 "Dealing.put" = true)
    (uD9 : PySem.W.keepIn K (.ref hD9) = true)
    (pgD : PySem.W.plainGet K CD Str.empty = true)
    (hdD : PySem.W.hasDictIn K CD = true)
    (poD : PySem.W.plainOver K CD = true)
    (saD : PySem.W.findIn K (.ref CD) "__setattr__" = some (some (.builtin "object.__setattr__")))
    (mkD : PySem.W.makesIn K CD = true)
    (kcD : PySem.W.keepIn K (.ref CD) = true)
    (nfD0 : PySem.W.findIn K (.ref CD) "number" = some none)
    (nfD1 : PySem.W.findIn K (.ref CD) "_store" = some none)
    (nfD2 : PySem.W.findIn K (.ref CD) "_made" = some none)
    (nfD3 : PySem.W.findIn K (.ref CD) "_laid" = some none)
    (nfD4 : PySem.W.findIn K (.ref CD) "_sights" = some none)
    (nfD5 : PySem.W.findIn K (.ref CD) "_over" = some none)
    (q1 : PySem.W.nsIn K mainGlobals "BadName" = some (some (.ref z1)))
    (q2 : PySem.W.nsIn K mainGlobals "BadNumber" = some (some (.ref z2)))
    (q3 : PySem.W.nsIn K mainGlobals "BadPlan" = some (some (.ref z3)))
    (q4 : PySem.W.nsIn K mainGlobals "BadRow" = some (some (.ref z4)))
    (q5 : PySem.W.nsIn K mainGlobals "BadText" = some (some (.ref z5)))
    (q6 : PySem.W.nsIn K mainGlobals "Gone" = some (some (.ref z6)))
    (q7 : PySem.W.nsIn K mainGlobals "TooGreat" = some (some (.ref z7)))
    (q8 : PySem.W.nsIn K mainGlobals "Twice" = some (some (.ref z8)))
    (q9 : PySem.W.nsIn K mainGlobals "Within" = some (some (.ref z9)))
    (qS : PySem.W.nsIn K mainGlobals "StoreError" = some (some (.ref CE)))
    (rBx : PySem.W.excIn K z8 [.type "ValueError", .type "Exception", .type "BaseException", .type "object"] "ValueError.__new__" = true)
    (rBk : PySem.W.keepIn K (.ref z8) = true)
    (rBb : PySem.W.subIn K (.ref z8) (.type "BaseException") = some true)
    (rBt : PySem.W.typeIn K (.ref z8) = some (.type "type"))
    (eB1 : PySem.W.findIn K (.ref z8) "__getattribute__" = some (some (.builtin "BaseException.__getattribute__")))
    (eB2 : PySem.W.findIn K (.ref z8) "__getattr__" = some none)
    (eB4 : PySem.W.hasDictIn K z8 = true)
    (eB5 : PySem.W.findIn K (.ref z8) "__class__" = some (some (.builtin "object.__class__")))
    (eB8 : PySem.W.mroIn K z8 (.type "object") = some true)
    (eBs : PySem.W.exmOne K (.ref z8) (.ref CE) = some true)
    (eBv : PySem.W.kitOne K (.ref z8) (.type "ValueError") = some true)
    (kB1 : PySem.W.kitOne K (.ref z8) (.ref z1) = some false)
    (kB2 : PySem.W.kitOne K (.ref z8) (.ref z2) = some false)
    (kB3 : PySem.W.kitOne K (.ref z8) (.ref z3) = some false)
    (kB4 : PySem.W.kitOne K (.ref z8) (.ref z4) = some false)
    (kB5 : PySem.W.kitOne K (.ref z8) (.ref z5) = some false)
    (kB6 : PySem.W.kitOne K (.ref z8) (.ref z6) = some false)
    (kB7 : PySem.W.kitOne K (.ref z8) (.ref z7) = some false)
    (kB8 : PySem.W.kitOne K (.ref z8) (.ref z8) = some true)
    (kB9 : PySem.W.kitOne K (.ref z8) (.ref z9) = some false)
    (sp6 : PySem.W.specialIn K (.builtin "object.__class__") "__get__" = some (some (.builtin "getset_descriptor.__get__")))
    (sp7 : PySem.W.takesIn K (.builtin "object.__class__") = some true)
    (tI : PySem.W.tabIn K "_law_saw" = some (cB, PB))
    (nP : K.lookup PB = none)
    (hTab : ∀ c P, PySem.W.tabIn K "_law_saw" = some (c, P) → PySem.W.CodeHd h c P ∧ h.get? P = some { cls := .none, data := .fields #[] }) :
    LamX.LawAtS l w K CX0 10 63 "_law_script" mg fa h := by
  have e := hfa.symm.trans (PySem.W.mg_of X G a19)
  cases e
  have m_len : mg "len" = none := PySem.W.mg_none_of X G z_len
  have m_range : mg "range" = none := PySem.W.mg_none_of X G z_range
  have m_list : mg "list" = none := PySem.W.mg_none_of X G z_list
  have m_tuple : mg "tuple" = none := PySem.W.mg_none_of X G z_tuple
  have m_int : mg "int" = none := PySem.W.mg_none_of X G z_int
  have m_isinstance : mg "isinstance" = none := PySem.W.mg_none_of X G z_isinstance
  have m_dict : mg "dict" = none := PySem.W.mg_none_of X G z_dict
  have m_bool : mg "bool" = none := PySem.W.mg_none_of X G z_bool
  have m_str : mg "str" = none := PySem.W.mg_none_of X G z_str
  have m_min : mg "min" = none := PySem.W.mg_none_of X G z_min
  have m_max : mg "max" = none := PySem.W.mg_none_of X G z_max
  have m_sorted : mg "sorted" = none := PySem.W.mg_none_of X G z_sorted
  have m_all : mg "all" = none := PySem.W.mg_none_of X G z_all
  have m_any : mg "any" = none := PySem.W.mg_none_of X G z_any
  have m_enumerate : mg "enumerate" = none := PySem.W.mg_none_of X G z_enumerate
  have m_ValueError : mg "ValueError" = none := PySem.W.mg_none_of X G z_ValueError
  have F1 := fun_mk (st := s_is_between) l1 c1 k1
  have g1 : mg "is_between" = some (.ref f1) := PySem.W.mg_of X G a1
  have b1 := F1.binds (ps := ["number", "low", "high"]) fun _ _ _ _ _ _ us hl => match us, hl with | [_, _, _], _ => rfl
  have F2 := fun_mk (st := s_is_in) l2 c2 k2
  have g2 : mg "is_in" = some (.ref f2) := PySem.W.mg_of X G a2
  have b2 := F2.binds (ps := ["row", "fields", "bounds"]) fun _ _ _ _ _ _ us hl => match us, hl with | [_, _, _], _ => rfl
  have F3 := fun_mk (st := s_place_in) l3 c3 k3
  have g3 : mg "place_in" = some (.ref f3) := PySem.W.mg_of X G a3
  have b3 := F3.binds (ps := ["items", "item"]) fun _ _ _ _ _ _ us hl => match us, hl with | [_, _], _ => rfl
  have F4 := fun_mk (st := s_l_begun) l4 c4 k4
  have g4 : mg "_law_begun" = some (.ref f4) := PySem.W.mg_of X G a4
  have b4 := F4.binds (ps := ["_law_script"]) fun _ _ _ _ _ _ us hl => match us, hl with | [_], _ => rfl
  have F5 := fun_mk (st := s_l_take) l5 c5 k5
  have g5 : mg "_law_take" = some (.ref f5) := PySem.W.mg_of X G a5
  have b5 := F5.binds (ps := ["_law_box", "_law_many"]) fun _ _ _ _ _ _ us hl => match us, hl with | [_, _], _ => rfl
  have F6 := fun_mk (st := s_l_alike) l6 c6 k6
  have g6 : mg "_law_alike" = some (.ref f6) := PySem.W.mg_of X G a6
  have b6 := F6.binds (ps := ["_law_found", "_law_due_here"]) fun _ _ _ _ _ _ us hl => match us, hl with | [_, _], _ => rfl
  have F7 := fun_mk (st := s_l_told) l7 c7 k7
  have g7 : mg "_law_told" = some (.ref f7) := PySem.W.mg_of X G a7
  have b7 := F7.binds (ps := ["_law_work"]) fun _ _ _ _ _ _ us hl => match us, hl with | [_], _ => rfl
  have F8 := fun_mk (st := s_l_book) l8 c8 k8
  have g8 : mg "_law_book" = some (.ref f8) := PySem.W.mg_of X G a8
  have b8 := F8.binds (ps := []) fun _ _ _ _ _ _ us hl => match us, hl with | [], _ => rfl
  have F9 := fun_mk (st := s_l_row) l9 c9 k9
  have g9 : mg "_law_row" = some (.ref f9) := PySem.W.mg_of X G a9
  have b9 := F9.binds (ps := ["_law_box", "_law_mark", "_law_fields"]) fun _ _ _ _ _ _ us hl => match us, hl with | [_, _, _], _ => rfl
  have F10 := fun_mk (st := s_l_writes) l10 c10 k10
  have g10 : mg "_law_writes" = some (.ref f10) := PySem.W.mg_of X G a10
  have b10 := F10.binds (ps := ["_law_box", "_law_b"]) fun _ _ _ _ _ _ us hl => match us, hl with | [_, _], _ => rfl
  have F11 := fun_mk (st := s_l_noted) l11 c11 k11
  have g11 : mg "_law_noted" = some (.ref f11) := PySem.W.mg_of X G a11
  have b11 := F11.binds (ps := ["_law_b", "_law_writes_here"]) fun _ _ _ _ _ _ us hl => match us, hl with | [_, _], _ => rfl
  have F12 := fun_mk (st := s_l_told_record) l12 c12 k12
  have g12 : mg "_law_told_record" = some (.ref f12) := PySem.W.mg_of X G a12
  have b12 := F12.binds (ps := ["_law_box", "_law_store", "_law_b"]) fun _ _ _ _ _ _ us hl => match us, hl with | [_, _, _], _ => rfl
  have F13 := fun_mk (st := s_l_rows) l13 c13 k13
  have g13 : mg "_law_rows" = some (.ref f13) := PySem.W.mg_of X G a13
  have b13 := F13.binds (ps := ["_law_b", "_law_table", "_law_moment"]) fun _ _ _ _ _ _ us hl => match us, hl with | [_, _, _], _ => rfl
  have F14 := fun_mk (st := s_l_content) l14 c14 k14
  have g14 : mg "_law_content" = some (.ref f14) := PySem.W.mg_of X G a14
  have b14 := F14.binds (ps := ["_law_b", "_law_moment"]) fun _ _ _ _ _ _ us hl => match us, hl with | [_, _], _ => rfl
  have F15 := fun_mk (st := s_l_bounds) l15 c15 k15
  have g15 : mg "_law_bounds" = some (.ref f15) := PySem.W.mg_of X G a15
  have b15 := F15.binds (ps := ["_law_box", "_law_fields"]) fun _ _ _ _ _ _ us hl => match us, hl with | [_, _], _ => rfl
  have F16 := fun_mk (st := s_l_in) l16 c16 k16
  have g16 : mg "_law_in" = some (.ref f16) := PySem.W.mg_of X G a16
  have b16 := F16.binds (ps := ["_law_row_here", "_law_fields", "_law_spans"]) fun _ _ _ _ _ _ us hl => match us, hl with | [_, _, _], _ => rfl
  have F17 := fun_mk (st := s_l_due) l17 c17 k17
  have g17 : mg "_law_due" = some (.ref f17) := PySem.W.mg_of X G a17
  have b17 := F17.binds (ps := ["_law_b", "_law_d", "_law_upto"]) fun _ _ _ _ _ _ us hl => match us, hl with | [_, _, _], _ => rfl
  have F18 := fun_mk (st := s_l_saw) l18 c18 k18
  have g18 : mg "_law_saw" = some (.ref f18) := PySem.W.mg_of X G a18
  have b18 := F18.binds (ps := ["_law_box", "_law_dealing", "_law_d", "_law_tables"]) fun _ _ _ _ _ _ us hl => match us, hl with | [_, _, _, _], _ => rfl
  have F19 := fun_mk (st := s_law) l19 c19 k19
  have T : Txt mg := ⟨m_len, m_range, m_list, m_tuple, m_int, m_isinstance, m_dict, m_bool, m_str, m_min, m_sorted⟩
  have T3 : Txt3 mg := ⟨m_all, m_any, m_enumerate⟩
  have G1 := PySem.W.mg_of X G q1
  have G2 := PySem.W.mg_of X G q2
  have G3 := PySem.W.mg_of X G q3
  have G4 := PySem.W.mg_of X G q4
  have G5 := PySem.W.mg_of X G q5
  have G6 := PySem.W.mg_of X G q6
  have G7 := PySem.W.mg_of X G q7
  have G8 := PySem.W.mg_of X G q8
  have G9 := PySem.W.mg_of X G q9
  have TE : TxtE K mg CE z1 z2 z3 z4 z5 z6 z7 z8 z9 := ⟨T, G1, G2, G3, G4, G5, G6, G7, G8, G9, PySem.W.mg_of X G qS, m_ValueError⟩
  have eB : IsErr K CE z1 z2 z3 z4 z5 z6 z7 z8 z9 z8 7 := ⟨⟨eB1, eB2, rBb, eB4, eB5, sp6, sp7, eB8⟩, eBs, eBv, by decide, kB1, kB2, kB3, kB4, kB5, kB6, kB7, kB8, kB9⟩
  have EF : ErrF K mg "Twice" z8 := ⟨G8, rBx, rBk, rBb, rBt⟩
  have clI : Cls K CI := ⟨pgI, hdI, poI, saI⟩
  have clT : Cls K CT := ⟨pgT, hdT, poT, saT⟩
  have clS : Cls K CS := ⟨pgS, hdS, poS, saS⟩
  have clD : Cls K CD := ⟨pgD, hdD, poD, saD⟩
  have TX : TxtX K mg CI := ⟨T, clI, nfI0, nfI1⟩
  have TT : TxtT K CT := ⟨clT, nfT0, nfT1, nfT2, nfT3, nfT4, nfT5⟩
  have TS : TxtS K CS := ⟨clS, nfS0, nfS1, nfS2, nfS3⟩
  have TD : TxtD K CD := ⟨clD, nfD0, nfD1, nfD2, nfD3, nfD4, nfD5⟩
  have NI1 := fun_mk (st := s_Index___init__) vI1 wI1 uI1
  have eI1 := NI1.binds (ps := ["self"]) fun _ _ _ _ _ _ us hl => match us, hl with | [_], _ => rfl
  have NI2 := fun_mk (st := s_Index_add) vI2 wI2 uI2
  have eI2 := NI2.binds (ps := ["self", "worth", "key"]) fun _ _ _ _ _ _ us hl => match us, hl with | [_, _, _], _ => rfl
  have NT1 := fun_mk (st := s_Table___init__) vT1 wT1 uT1
  have eT1 := NT1.binds (ps := ["self", "number", "fields"]) fun _ _ _ _ _ _ us hl => match us, hl with | [_, _, _], _ => rfl
  have NT2 := fun_mk (st := s_Table_lay) vT2 wT2 uT2
  have eT2 := NT2.binds (ps := ["self", "number", "key", "row"]) fun _ _ _ _ _ _ us hl => match us, hl with | [_, _, _, _], _ => rfl
  have NT3 := fun_mk (st := s_Table_make_index) vT3 wT3 uT3
  have eT3 := NT3.binds (ps := ["self", "number", "field"]) fun _ _ _ _ _ _ us hl => match us, hl with | [_, _, _], _ => rfl
  have NT4 := fun_mk (st := s_Table_version) vT4 wT4 uT4
  have eT4 := NT4.binds (ps := ["self", "key", "number"]) fun _ _ _ _ _ _ us hl => match us, hl with | [_, _, _], _ => rfl
  have NT5 := fun_mk (st := s_Table__keys_between) vT5 wT5 uT5
  have eT5 := NT5.binds (ps := ["self", "low", "high"]) fun _ _ _ _ _ _ us hl => match us, hl with | [_, _, _], _ => rfl
  have NT6 := fun_mk (st := s_Table_made_behind) vT6 wT6 uT6
  have eT6 := NT6.binds (ps := ["self", "number"]) fun _ _ _ _ _ _ us hl => match us, hl with | [_, _], _ => rfl
  have NT7 := fun_mk (st := s_Table_written_behind) vT7 wT7 uT7
  have eT7 := NT7.binds (ps := ["self", "number", "bounds"]) fun _ _ _ _ _ _ us hl => match us, hl with | [_, _, _], _ => rfl
  have NS1 : FunD K "__init__" "Store.__init__" (defArgs s_Store___init__) (defBody s_Store___init__) (defScope s_Store___init__) [] [("first", V.int 0)] hS1 _ := ⟨⟨oqS1, oeS1, .none, .ref kdS1, ddS1, pnS1, amS1, ceS1, cuS1, smS1, rfl, vS1, wS1, .inl ⟨rfl, rfl⟩, .inr ⟨kdS1, rfl, fun q hq => by rw [List.mem_singleton.mp hq]; exact ⟨_, kkS1, ⟨_, rfl⟩⟩⟩⟩, uS1⟩
  obtain ⟨dsS1, dvS1, eS1⟩ := NS1.binds0 (ps := ["self", "first"]) 1 (by simp) rfl fun _ _ _ _ _ _ us ks l1 l2 => match us, ks, l1, l2 with | [_], [_], _, _ => ⟨_, _, _, _, _, _, rfl, rfl, rfl⟩
  have NS2 := fun_mk (st := s_Store_take) vS2 wS2 uS2
  have eS2 := NS2.binds (ps := ["self", "number", "writes"]) fun _ _ _ _ _ _ us hl => match us, hl with | [_, _, _], _ => rfl
  have NS3 := fun_mk (st := s_Store__take_one) vS3 wS3 uS3
  have eS3 := NS3.binds (ps := ["self", "number", "write"]) fun _ _ _ _ _ _ us hl => match us, hl with | [_, _, _], _ => rfl
  have NS4 := fun_mk (st := s_Store__check) vS4 wS4 uS4
  have eS4 := NS4.binds (ps := ["self", "number"]) fun _ _ _ _ _ _ us hl => match us, hl with | [_, _], _ => rfl
  have NS5 : FunD K "opened" "Store.opened" (defArgs s_Store_opened) (defBody s_Store_opened) (defScope s_Store_opened) [] [("number", V.non)] hS5 _ := ⟨⟨oqS5, oeS5, .none, .ref kdS5, ddS5, pnS5, amS5, ceS5, cuS5, smS5, rfl, vS5, wS5, .inl ⟨rfl, rfl⟩, .inr ⟨kdS5, rfl, fun q hq => by rw [List.mem_singleton.mp hq]; exact ⟨_, kkS5, rfl⟩⟩⟩, uS5⟩
  obtain ⟨mvO, bop⟩ := NS5.kbinds0 (ps := ["self", "number"]) 1 ["number"] [] (fun us mv ws => us ++ (mv ++ ws)) (by simp) (fun q h => nomatch h) (fun r1 r2 r3 => r1.append (r2.append r3)) fun _ _ _ _ _ _ us mv ws l1 l2 l3 => match us, mv, ws, l1, l2, l3 with | [_], [], [_], _, _, _ => rfl
  have NS6 := fun_mk (st := s_Store_version) vS6 wS6 uS6
  have eS6 := NS6.binds (ps := ["self", "table", "key", "number"]) fun _ _ _ _ _ _ us hl => match us, hl with | [_, _, _, _], _ => rfl
  have NS7 := fun_mk (st := s_Store_row) vS7 wS7 uS7
  have eS7 := NS7.binds (ps := ["self", "table", "key", "number"]) fun _ _ _ _ _ _ us hl => match us, hl with | [_, _, _, _], _ => rfl
  have NS8 := fun_mk (st := s_Store_shapes) vS8 wS8 uS8
  have eS8 := NS8.binds (ps := ["self", "number"]) fun _ _ _ _ _ _ us hl => match us, hl with | [_, _], _ => rfl
  have NS9 := fun_mk (st := s_Store_clash) vS9 wS9 uS9
  have eS9 := NS9.binds (ps := ["self", "dealing"]) fun _ _ _ _ _ _ us hl => match us, hl with | [_, _], _ => rfl
  have ND1 := fun_mk (st := s_Dealing___init__) vD1 wD1 uD1
  have eD1 := ND1.binds (ps := ["self", "store", "number"]) fun _ _ _ _ _ _ us hl => match us, hl with | [_, _, _], _ => rfl
  have ND2 := fun_mk (st := s_Dealing__laid_in) vD2 wD2 uD2
  have eD2 := ND2.binds (ps := ["self", "table"]) fun _ _ _ _ _ _ us hl => match us, hl with | [_, _], _ => rfl
  have ND3 := fun_mk (st := s_Dealing_row) vD3 wD3 uD3
  have eD3 := ND3.binds (ps := ["self", "table", "key"]) fun _ _ _ _ _ _ us hl => match us, hl with | [_, _, _], _ => rfl
  have ND4 := fun_mk (st := s_Dealing_shapes) vD4 wD4 uD4
  have eD4 := ND4.binds (ps := ["self"]) fun _ _ _ _ _ _ us hl => match us, hl with | [_], _ => rfl
  have ND5 := fun_mk (st := s_Dealing__keep) vD5 wD5 uD5
  have eD5 := ND5.binds (ps := ["self", "table", "key", "row"]) fun _ _ _ _ _ _ us hl => match us, hl with | [_, _, _, _], _ => rfl
  have ND6 := fun_mk (st := s_Dealing_make) vD6 wD6 uD6
  have eD6 := ND6.binds (ps := ["self", "write"]) fun _ _ _ _ _ _ us hl => match us, hl with | [_, _], _ => rfl
  have ND7 := fun_mk (st := s_Dealing_saw) vD7 wD7 uD7
  have eD7 := ND7.binds (ps := ["self", "table", "bounds"]) fun _ _ _ _ _ _ us hl => match us, hl with | [_, _, _], _ => rfl
  have ND8 := fun_mk (st := s_Dealing_seen) vD8 wD8 uD8
  have eD8 := ND8.binds (ps := ["self"]) fun _ _ _ _ _ _ us hl => match us, hl with | [_], _ => rfl
  have ND9 := fun_mk (st := s_Dealing_put) vD9 wD9 uD9
  have eD9 := ND9.binds (ps := ["self", "table", "row"]) fun _ _ _ _ _ _ us hl => match us, hl with | [_, _, _], _ => rfl
  have hT2 := hTab cB PB tI
  refine ⟨PySem.W.fnOf "law" "law" (defArgs s_law) (defBody s_law) (defScope s_law) .none kV19 dc19 pm19 an19 cd19 ct19, [(cB, PB)], spLaw K PB, fun p hp => ?_, fun p hp => ?_, fun p hp => ?_, fun s v => .of_eq rfl, fun H a ns hl _ hH hS => ⟨a, ns, rfl, hS, hl, fun p hp => ?_, fun _ => rfl⟩, fun base _ _ TBs => ?_⟩
  · rw [List.mem_singleton.mp hp]; exact hT2.2
  · rw [List.mem_singleton.mp hp]; exact nP
  · rw [List.mem_singleton.mp hp]; exact hT2.1
  · rw [List.mem_singleton.mp hp]; exact LamX.TabS.nil (hH (cB, PB) (List.mem_singleton.mpr rfl))
  have TB := TBs (cB, PB) (List.mem_singleton.mpr rfl)
  have Cpl : HX.Cal l.prog w K mg base 1 "place_in" ["items", "item"] (spPlace K) f3 _ := ⟨g3, k3, b3, ok_place F3 T⟩
  have Cbt : HX.Cal l.prog w K mg base 1 "is_between" ["number", "low", "high"] spBetween f1 _ := ⟨g1, k1, b1, ok_between F1⟩
  have Cin : HX.Cal l.prog w K mg base 3 "is_in" ["row", "fields", "bounds"] (spIsIn K) f2 _ := ⟨g2, k2, b2, ok_in F2 T3 (Cbt.mono (by decide))⟩
  have GI := ok_init (P := l.prog) (w := w) (base := base) NI1 TX
  have GA := ok_add NI2 TX (ok_placeT Cpl)
  have GT := ok_tinit (P := l.prog) (w := w) (base := base) (mg := mg) (CI := CI) NT1 TT
  have GL := ok_lay (CI := CI) NT2 T TT clI Cpl ⟨⟨xI2, yI2, uI2⟩, eI2, GA.mono (by decide)⟩
  have GMI := ok_mi (CI := CI) NT3 T TT clI ⟨⟨mkI, xI1, yI1, kcI⟩, PySem.W.mg_of X G aCI, eI1, GI.mono (by decide)⟩ ⟨⟨xI2, yI2, uI2⟩, eI2, GA.mono (by decide)⟩
  have GTV := ok_tv (CI := CI) NT4 T TT Cpl
  have GKB := ok_kb (CI := CI) NT5 T TT Cpl
  have GMB := ok_mb (P := l.prog) (w := w) (base := base) (CI := CI) NT6 T TT
  have GWB := ok_wb (CI := CI) NT7 T TT ⟨⟨xT5, yT5, uT5⟩, eT5, GKB.mono (by decide)⟩ Cin
  have GSI := ok_si (P := l.prog) (w := w) (base := base) (mg := mg) (CT := CT) (CI := CI) NS1 TS
  have GT1 := ok_t1 NS3 T TS TT ⟨⟨mkT, xT1, yT1, kcT⟩, PySem.W.mg_of X G aCT, eT1, GT.mono (by decide)⟩ ⟨⟨xT3, yT3, uT3⟩, eT3, GMI.mono (by decide)⟩ ⟨⟨xT2, yT2, uT2⟩, eT2, GL.mono (by decide)⟩
  have GTK := ok_tk NS2 TS ⟨⟨xS3, yS3, uS3⟩, eS3, GT1.mono (by decide)⟩
  have GCK := ok_ck (P := l.prog) (w := w) (base := base) (mg := mg) (CT := CT) (CI := CI) NS4 TS
  have GDI := ok_di (P := l.prog) (w := w) (base := base) (mg := mg) ND1 TD
  have GOP := ok_op (CT := CT) (CI := CI) NS5 TS ⟨⟨xS4, yS4, uS4⟩, eS4, GCK.mono (by decide)⟩ ⟨⟨mkD, xD1, yD1, kcD⟩, PySem.W.mg_of X G aCD, eD1, GDI.mono (by decide)⟩
  have GSV := ok_sv NS6 TS TT ⟨⟨xS4, yS4, uS4⟩, eS4, GCK.mono (by decide)⟩ ⟨⟨xT4, yT4, uT4⟩, eT4, GTV.mono (by decide)⟩
  have GSR := ok_sr NS7 TS ⟨⟨xS6, yS6, uS6⟩, eS6, GSV.mono (by decide)⟩
  have GSH := ok_sh NS8 TS TT ⟨⟨xS4, yS4, uS4⟩, eS4, GCK.mono (by decide)⟩
  have GLI := ok_li (P := l.prog) (w := w) (base := base) (mg := mg) ND2 TD
  have GDR := ok_dr ND3 TD TS ⟨⟨xD2, yD2, uD2⟩, eD2, GLI.mono (by decide)⟩ ⟨⟨xS7, yS7, uS7⟩, eS7, GSR.mono (by decide)⟩
  have GDS := ok_dsh ND4 TD TS ⟨⟨xS8, yS8, uS8⟩, eS8, GSH.mono (by decide)⟩
  have GKP := ok_keep (P := l.prog) (w := w) (base := base) (mg := mg) ND5 TD
  have GMK := ok_make (P := l.prog) (w := w) (base := base) ND6 T TD
  have GSW := ok_sw (P := l.prog) (w := w) (base := base) ND7 T TD
  have GSN := ok_sn (P := l.prog) (w := w) (base := base) ND8 m_dict TD
  have GPU := ok_put ND9 T TD EF ⟨⟨xD7, yD7, uD7⟩, eD7, GSW.mono (by decide)⟩ ⟨⟨xD4, yD4, uD4⟩, eD4, GDS.mono (by decide)⟩ ⟨⟨xD3, yD3, uD3⟩, eD3, GDR.mono (by decide)⟩ ⟨⟨xD5, yD5, uD5⟩, eD5, GKP.mono (by decide)⟩
  have GCL := ok_cl NS9 m_min TS TT TD ⟨⟨xS4, yS4, uS4⟩, eS4, GCK.mono (by decide)⟩ ⟨⟨xT6, yT6, uT6⟩, eT6, GMB.mono (by decide)⟩ ⟨⟨xT7, yT7, uT7⟩, eT7, GWB.mono (by decide)⟩ ⟨⟨xD8, yD8, uD8⟩, eD8, GSN.mono (by decide)⟩
  have Cbg : HX.Cal l.prog w K mg base 1 "_law_begun" ["_law_script"] (spBegun K) f4 _ := ⟨g4, k4, b4, ok_begun F4 T⟩
  have Ctk : HX.Cal l.prog w K mg base 1 "_law_take" ["_law_box", "_law_many"] (spTake K) f5 _ := ⟨g5, k5, b5, ok_take F5 T⟩
  have Al0 : HX.Cal l.prog w K mg base 1 "_law_alike" ["_law_found", "_law_due_here"] (spAlk K 0) f6 _ := ⟨g6, k6, b6, ok_alk (n := 0) (j := 0) F6 T (fun _ h => nomatch h)⟩
  have Al1 : HX.Cal l.prog w K mg base 2 "_law_alike" ["_law_found", "_law_due_here"] (spAlk K 1) f6 _ := ⟨g6, k6, b6, ok_alk (n := 1) (j := 1) F6 T (fun m h => by cases h; exact Al0)⟩
  have Al2 : HX.Cal l.prog w K mg base 3 "_law_alike" ["_law_found", "_law_due_here"] (spAlk K 2) f6 _ := ⟨g6, k6, b6, ok_alk (n := 2) (j := 2) F6 T (fun m h => by cases h; exact Al1)⟩
  have Cto : HX.Cal l.prog w K mg base 8 "_law_told" ["_law_work"] (spTld l.prog w K mg base 7 CE z1 z2 z3 z4 z5 z6 z7 z8 z9) f7 _ := ⟨g7, k7, b7, ok_tld (k := 7) F7 T TE⟩
  have Cbk : HX.Cal l.prog w K mg base 1 "_law_book" [] (spBook K) f8 _ := ⟨g8, k8, b8, ok_book F8⟩
  have Crw : HX.Cal l.prog w K mg base 2 "_law_row" ["_law_box", "_law_mark", "_law_fields"] (spRow K) f9 _ := ⟨g9, k9, b9, ok_row F9 T Ctk⟩
  have Cwr : HX.Cal l.prog w K mg base 3 "_law_writes" ["_law_box", "_law_b"] (spWrites K) f10 _ := ⟨g10, k10, b10, ok_writes F10 T (Ctk.mono (by decide)) Crw⟩
  have Cnt : HX.Cal l.prog w K mg base 1 "_law_noted" ["_law_b", "_law_writes_here"] (spNoted K) f11 _ := ⟨g11, k11, b11, ok_noted F11 T⟩
  have Crs : HX.Cal l.prog w K mg base 1 "_law_rows" ["_law_b", "_law_table", "_law_moment"] (spRows K) f13 _ := ⟨g13, k13, b13, ok_rows F13 T⟩
  have Cct : HX.Cal l.prog w K mg base 2 "_law_content" ["_law_b", "_law_moment"] (spCont K) f14 _ := ⟨g14, k14, b14, ok_cont F14 T Crs⟩
  have Ctr : HX.Cal l.prog w K mg base 6 "_law_told_record" ["_law_box", "_law_store", "_law_b"] (spTold K CS CT CI) f12 _ := ⟨g12, k12, b12, ok_told F12 TS (Cwr.mono (by decide)) (Cnt.mono (by decide)) ⟨⟨xS2, yS2, uS2⟩, eS2, GTK.mono (by decide)⟩⟩
  have Cbo : HX.Cal l.prog w K mg base 2 "_law_bounds" ["_law_box", "_law_fields"] (spBounds K) f15 _ := ⟨g15, k15, b15, ok_bounds F15 T m_max Ctk⟩
  have CinL : HX.Cal l.prog w K mg base 1 "_law_in" ["_law_row_here", "_law_fields", "_law_spans"] (spInL K) f16 _ := ⟨g16, k16, b16, ok_inL F16 T⟩
  have Cdu : HX.Cal l.prog w K mg base 2 "_law_due" ["_law_b", "_law_d", "_law_upto"] (spDue K) f17 _ := ⟨g17, k17, b17, ok_due F17 T CinL⟩
  have Csw : HX.Cal l.prog w K mg base 9 "_law_saw" ["_law_box", "_law_dealing", "_law_d", "_law_tables"] (spSawL K CS CT CI CD PB) f18 _ := ⟨g18, k18, b18, ok_sawL l18 c18 TB T TD eB (Ctk.mono (by decide)) (Crw.mono (by decide)) Cto (Cbo.mono (by decide)) ⟨xD9, yD9, uD9⟩ GPU eD9 ⟨⟨xD6, yD6, uD6⟩, eD6, GMK.mono (by decide)⟩ ⟨⟨xD7, yD7, uD7⟩, eD7, GSW.mono (by decide)⟩⟩
  exact ok_law F19 T TS ⟨⟨mkS, xS1, yS1, kcS⟩, PySem.W.mg_of X G aCS, eS1, dvS1, GSI.mono (by decide)⟩ ⟨xS5, yS5, uS5⟩ GOP bop ⟨⟨xS9, yS9, uS9⟩, eS9, GCL.mono (by decide)⟩ (Cbg.mono (by decide)) (Ctk.mono (by decide)) (Cbk.mono (by decide)) (Ctr.mono (by decide)) (Cct.mono (by decide)) Csw (Cdu.mono (by decide)) (Al2.mono (by decide))

theorem walk {l : PySem.W.OpenLaw} {q : Program} {loose : List Str} {XP : (Str → Option Value) → Heap → Prop} {YP : World → Heap → Prop} {d : DefRec} {K : Params → PySem.W.Frag} (hn : l.most = some 63) (hdf : d.params.defaults = []) (hrec : ((PyProof.Rows.recsOf q).find? fun e => e.name == (("_law_saw" : String) : Str)).isSome = true)
    (hY : ∀ (w : World) (h : Heap), YP w h → (K w.params).In h)
    (F : ∀ (w : World) (mg : Str → Option Value) (fa : Addr) (h : Heap), (K w.params).In h → h.Ns mainGlobals mg → mg d.name = some (.ref fa) → (∀ c P, PySem.W.tabIn (K w.params) "_law_saw" = some (c, P) → PySem.W.CodeHd h c P ∧ h.get? P = some { cls := .none, data := .fields #[] }) →
      LamX.LawAtS l w (K w.params) CX0 10 63 "_law_script" mg fa h) :
    PySem.W.WalkO q loose XP YP l.row.toRowW d [] (fun f vs => PySem.call f vs) := by
  refine Att.attach_callB hn hdf fun w s₀ s₁ mg mb fa o pm cd doc a vs ns G Y ho hd hcd hmg hobj hints hlen hbits hg => ?_
  have KX := hY w _ Y
  obtain ⟨dB, hB⟩ := Option.isSome_iff_exists.mp hrec
  obtain ⟨fd, cs, sp, hT, nT, C, hb, hsp, hF⟩ := F w mg fa _ KX G.T.g hmg fun c P ht => PySem.W.tab_of G.T KX hB ht
  exact LamX.law_callTs KX G.T.g G.T.b G.T.builtins G.T.nolimit hg hT nT C G.T.bmain hobj hints (Nat.le_trans hlen (by decide)) ⟨rfl, by decide, by decide⟩ hF hb (fun H hH hS => hsp H a ns hlen hbits hH hS) fun H e s' z => z
end GS

set_option Elab.async false
open PySem PySem.W PyProof.Rows in
set_option maxRecDepth 100000 in
set_option maxHeartbeats 0 in
theorem PySem.Challenge.cw_granary_k33_clashes_holds : PySem.Challenge.rw_granary_k33_clashes.Holds := by
  w_on; o_law; k_head; (case hw => w_witness2)
  k_fill
  refine GS.walk (l := PySem.Challenge.rw_granary_k33_clashes) rfl rfl (by decide +kernel) (fun w h Y => PySem.W.km_in_of Y) ?F
  case F =>
    intro w mg fa h KX G hmg hTab
    refine' GS.all_mk KX G hmg ?a1 ?l1 ?c1 ?k1 ?a2 ?l2 ?c2 ?k2 ?a3 ?l3 ?c3 ?k3 ?a4 ?l4 ?c4 ?k4 ?a5 ?l5 ?c5 ?k5 ?a6 ?l6 ?c6 ?k6 ?a7 ?l7 ?c7 ?k7 ?a8 ?l8 ?c8 ?k8 ?a9 ?l9 ?c9 ?k9 ?a10 ?l10 ?c10 ?k10 ?a11 ?l11 ?c11 ?k11 ?a12 ?l12 ?c12 ?k12 ?a13 ?l13 ?c13 ?k13 ?a14 ?l14 ?c14 ?k14 ?a15 ?l15 ?c15 ?k15 ?a16 ?l16 ?c16 ?k16 ?a17 ?l17 ?c17 ?k17 ?a18 ?l18 ?c18 ?k18 ?a19 ?l19 ?c19 ?k19 ?z_len ?z_range ?z_list ?z_tuple ?z_int ?z_isinstance ?z_dict ?z_bool ?z_str ?z_min ?z_max ?z_sorted ?z_all ?z_any ?z_enumerate ?z_ValueError ?aCI ?xI1 ?yI1 ?vI1 ?wI1 ?uI1 ?xI2 ?yI2 ?vI2 ?wI2 ?uI2 ?pgI ?hdI ?poI ?saI ?mkI ?kcI ?nfI0 ?nfI1 ?aCT ?xT1 ?yT1 ?vT1 ?wT1 ?uT1 ?xT2 ?yT2 ?vT2 ?wT2 ?uT2 ?xT3 ?yT3 ?vT3 ?wT3 ?uT3 ?xT4 ?yT4 ?vT4 ?wT4 ?uT4 ?xT5 ?yT5 ?vT5 ?wT5 ?uT5 ?xT6 ?yT6 ?vT6 ?wT6 ?uT6 ?xT7 ?yT7 ?vT7 ?wT7 ?uT7 ?pgT ?hdT ?poT ?saT ?mkT ?kcT ?nfT0 ?nfT1 ?nfT2 ?nfT3 ?nfT4 ?nfT5 ?aCS ?xS1 ?yS1 ?vS1 ?wS1 ?uS1 ?kkS1 ?xS2 ?yS2 ?vS2 ?wS2 ?uS2 ?xS3 ?yS3 ?vS3 ?wS3 ?uS3 ?xS4 ?yS4 ?vS4 ?wS4 ?uS4 ?xS5 ?yS5 ?vS5 ?wS5 ?uS5 ?kkS5 ?xS6 ?yS6 ?vS6 ?wS6 ?uS6 ?xS7 ?yS7 ?vS7 ?wS7 ?uS7 ?xS8 ?yS8 ?vS8 ?wS8 ?uS8 ?xS9 ?yS9 ?vS9 ?wS9 ?uS9 ?pgS ?hdS ?poS ?saS ?mkS ?kcS ?nfS0 ?nfS1 ?nfS2 ?nfS3 ?aCD ?xD1 ?yD1 ?vD1 ?wD1 ?uD1 ?xD2 ?yD2 ?vD2 ?wD2 ?uD2 ?xD3 ?yD3 ?vD3 ?wD3 ?uD3 ?xD4 ?yD4 ?vD4 ?wD4 ?uD4 ?xD5 ?yD5 ?vD5 ?wD5 ?uD5 ?xD6 ?yD6 ?vD6 ?wD6 ?uD6 ?xD7 ?yD7 ?vD7 ?wD7 ?uD7 ?xD8 ?yD8 ?vD8 ?wD8 ?uD8 ?xD9 ?yD9 ?vD9 ?wD9 ?uD9 ?pgD ?hdD ?poD ?saD ?mkD ?kcD ?nfD0 ?nfD1 ?nfD2 ?nfD3 ?nfD4 ?nfD5 ?q1 ?q2 ?q3 ?q4 ?q5 ?q6 ?q7 ?q8 ?q9 ?qS ?rBx ?rBk ?rBb ?rBt ?eB1 ?eB2 ?eB4 ?eB5 ?eB8 ?eBs ?eBv ?kB1 ?kB2 ?kB3 ?kB4 ?kB5 ?kB6 ?kB7 ?kB8 ?kB9 ?sp6 ?sp7 ?tI ?nP hTab
    (case a1 => k_is)
    (case l1 => k_is)
    (case c1 => k_is)
    (case k1 => k_is)
    (case a2 => k_is)
    (case l2 => k_is)
    (case c2 => k_is)
    (case k2 => k_is)
    (case a3 => k_is)
    (case l3 => k_is)
    (case c3 => k_is)
    (case k3 => k_is)
    (case a4 => k_is)
    (case l4 => k_is)
    (case c4 => k_is)
    (case k4 => k_is)
    (case a5 => k_is)
    (case l5 => k_is)
    (case c5 => k_is)
    (case k5 => k_is)
    (case a6 => k_is)
    (case l6 => k_is)
    (case c6 => k_is)
    (case k6 => k_is)
    (case a7 => k_is)
    (case l7 => k_is)
    (case c7 => k_is)
    (case k7 => k_is)
    (case a8 => k_is)
    (case l8 => k_is)
    (case c8 => k_is)
    (case k8 => k_is)
    (case a9 => k_is)
    (case l9 => k_is)
    (case c9 => k_is)
    (case k9 => k_is)
    (case a10 => k_is)
    (case l10 => k_is)
    (case c10 => k_is)
    (case k10 => k_is)
    (case a11 => k_is)
    (case l11 => k_is)
    (case c11 => k_is)
    (case k11 => k_is)
    (case a12 => k_is)
    (case l12 => k_is)
    (case c12 => k_is)
    (case k12 => k_is)
    (case a13 => k_is)
    (case l13 => k_is)
    (case c13 => k_is)
    (case k13 => k_is)
    (case a14 => k_is)
    (case l14 => k_is)
    (case c14 => k_is)
    (case k14 => k_is)
    (case a15 => k_is)
    (case l15 => k_is)
    (case c15 => k_is)
    (case k15 => k_is)
    (case a16 => k_is)
    (case l16 => k_is)
    (case c16 => k_is)
    (case k16 => k_is)
    (case a17 => k_is)
    (case l17 => k_is)
    (case c17 => k_is)
    (case k17 => k_is)
    (case a18 => k_is)
    (case l18 => k_is)
    (case c18 => k_is)
    (case k18 => k_is)
    (case a19 => k_is)
    (case l19 => k_is)
    (case c19 => k_is)
    (case k19 => k_is)
    (case z_len => k_is)
    (case z_range => k_is)
    (case z_list => k_is)
    (case z_tuple => k_is)
    (case z_int => k_is)
    (case z_isinstance => k_is)
    (case z_dict => k_is)
    (case z_bool => k_is)
    (case z_str => k_is)
    (case z_min => k_is)
    (case z_max => k_is)
    (case z_sorted => k_is)
    (case z_all => k_is)
    (case z_any => k_is)
    (case z_enumerate => k_is)
    (case z_ValueError => k_is)
    (case aCI => k_is)
    (case xI1 => k_is)
    (case yI1 => k_is)
    (case vI1 => k_is)
    (case wI1 => k_is)
    (case uI1 => k_is)
    (case xI2 => k_is)
    (case yI2 => k_is)
    (case vI2 => k_is)
    (case wI2 => k_is)
    (case uI2 => k_is)
    (case pgI => k_is)
    (case hdI => k_is)
    (case poI => k_is)
    (case saI => k_is)
    (case mkI => k_is)
    (case kcI => k_is)
    (case nfI0 => k_is)
    (case nfI1 => k_is)
    (case aCT => k_is)
    (case xT1 => k_is)
    (case yT1 => k_is)
    (case vT1 => k_is)
    (case wT1 => k_is)
    (case uT1 => k_is)
    (case xT2 => k_is)
    (case yT2 => k_is)
    (case vT2 => k_is)
    (case wT2 => k_is)
    (case uT2 => k_is)
    (case xT3 => k_is)
    (case yT3 => k_is)
    (case vT3 => k_is)
    (case wT3 => k_is)
    (case uT3 => k_is)
    (case xT4 => k_is)
    (case yT4 => k_is)
    (case vT4 => k_is)
    (case wT4 => k_is)
    (case uT4 => k_is)
    (case xT5 => k_is)
    (case yT5 => k_is)
    (case vT5 => k_is)
    (case wT5 => k_is)
    (case uT5 => k_is)
    (case xT6 => k_is)
    (case yT6 => k_is)
    (case vT6 => k_is)
    (case wT6 => k_is)
    (case uT6 => k_is)
    (case xT7 => k_is)
    (case yT7 => k_is)
    (case vT7 => k_is)
    (case wT7 => k_is)
    (case uT7 => k_is)
    (case pgT => k_is)
    (case hdT => k_is)
    (case poT => k_is)
    (case saT => k_is)
    (case mkT => k_is)
    (case kcT => k_is)
    (case nfT0 => k_is)
    (case nfT1 => k_is)
    (case nfT2 => k_is)
    (case nfT3 => k_is)
    (case nfT4 => k_is)
    (case nfT5 => k_is)
    (case aCS => k_is)
    (case xS1 => k_is)
    (case yS1 => k_is)
    (case vS1 => k_is)
    (case wS1 => k_is)
    (case uS1 => k_is)
    (case kkS1 => k_is)
    (case xS2 => k_is)
    (case yS2 => k_is)
    (case vS2 => k_is)
    (case wS2 => k_is)
    (case uS2 => k_is)
    (case xS3 => k_is)
    (case yS3 => k_is)
    (case vS3 => k_is)
    (case wS3 => k_is)
    (case uS3 => k_is)
    (case xS4 => k_is)
    (case yS4 => k_is)
    (case vS4 => k_is)
    (case wS4 => k_is)
    (case uS4 => k_is)
    (case xS5 => k_is)
    (case yS5 => k_is)
    (case vS5 => k_is)
    (case wS5 => k_is)
    (case uS5 => k_is)
    (case kkS5 => k_is)
    (case xS6 => k_is)
    (case yS6 => k_is)
    (case vS6 => k_is)
    (case wS6 => k_is)
    (case uS6 => k_is)
    (case xS7 => k_is)
    (case yS7 => k_is)
    (case vS7 => k_is)
    (case wS7 => k_is)
    (case uS7 => k_is)
    (case xS8 => k_is)
    (case yS8 => k_is)
    (case vS8 => k_is)
    (case wS8 => k_is)
    (case uS8 => k_is)
    (case xS9 => k_is)
    (case yS9 => k_is)
    (case vS9 => k_is)
    (case wS9 => k_is)
    (case uS9 => k_is)
    (case pgS => k_is)
    (case hdS => k_is)
    (case poS => k_is)
    (case saS => k_is)
    (case mkS => k_is)
    (case kcS => k_is)
    (case nfS0 => k_is)
    (case nfS1 => k_is)
    (case nfS2 => k_is)
    (case nfS3 => k_is)
    (case aCD => k_is)
    (case xD1 => k_is)
    (case yD1 => k_is)
    (case vD1 => k_is)
    (case wD1 => k_is)
    (case uD1 => k_is)
    (case xD2 => k_is)
    (case yD2 => k_is)
    (case vD2 => k_is)
    (case wD2 => k_is)
    (case uD2 => k_is)
    (case xD3 => k_is)
    (case yD3 => k_is)
    (case vD3 => k_is)
    (case wD3 => k_is)
    (case uD3 => k_is)
    (case xD4 => k_is)
    (case yD4 => k_is)
    (case vD4 => k_is)
    (case wD4 => k_is)
    (case uD4 => k_is)
    (case xD5 => k_is)
    (case yD5 => k_is)
    (case vD5 => k_is)
    (case wD5 => k_is)
    (case uD5 => k_is)
    (case xD6 => k_is)
    (case yD6 => k_is)
    (case vD6 => k_is)
    (case wD6 => k_is)
    (case uD6 => k_is)
    (case xD7 => k_is)
    (case yD7 => k_is)
    (case vD7 => k_is)
    (case wD7 => k_is)
    (case uD7 => k_is)
    (case xD8 => k_is)
    (case yD8 => k_is)
    (case vD8 => k_is)
    (case wD8 => k_is)
    (case uD8 => k_is)
    (case xD9 => k_is)
    (case yD9 => k_is)
    (case vD9 => k_is)
    (case wD9 => k_is)
    (case uD9 => k_is)
    (case pgD => k_is)
    (case hdD => k_is)
    (case poD => k_is)
    (case saD => k_is)
    (case mkD => k_is)
    (case kcD => k_is)
    (case nfD0 => k_is)
    (case nfD1 => k_is)
    (case nfD2 => k_is)
    (case nfD3 => k_is)
    (case nfD4 => k_is)
    (case nfD5 => k_is)
    (case q1 => k_is)
    (case q2 => k_is)
    (case q3 => k_is)
    (case q4 => k_is)
    (case q5 => k_is)
    (case q6 => k_is)
    (case q7 => k_is)
    (case q8 => k_is)
    (case q9 => k_is)
    (case qS => k_is)
    (case rBx => k_exc)
    (case rBk => k_is)
    (case rBb => k_is)
    (case rBt => k_is)
    (case eB1 => k_is)
    (case eB2 => k_is)
    (case eB4 => k_is)
    (case eB5 => k_is)
    (case eB8 => k_is)
    (case eBs => first | k_is | rfl | decide +kernel)
    (case eBv => first | k_is | rfl | decide +kernel)
    (case kB1 => first | k_is | rfl | decide +kernel)
    (case kB2 => first | k_is | rfl | decide +kernel)
    (case kB3 => first | k_is | rfl | decide +kernel)
    (case kB4 => first | k_is | rfl | decide +kernel)
    (case kB5 => first | k_is | rfl | decide +kernel)
    (case kB6 => first | k_is | rfl | decide +kernel)
    (case kB7 => first | k_is | rfl | decide +kernel)
    (case kB8 => first | k_is | rfl | decide +kernel)
    (case kB9 => first | k_is | rfl | decide +kernel)
    (case sp6 => k_is)
    (case sp7 => k_is)
    (case tI => first | k_is | rfl)
    (case nP => first | k_is | rfl)

import PyProof.Rows.All
import Wide.All
import OpenK.AllK
import Wide.FinOn
import HandS.ForMost
import HandS.IsInst
import HandS.TupAny
import HandS.Deep
import HandS.Flow
import HandS.Style
import KE.GoesEnum
import HandS.Walk
import HandS.WideMore
import PySem.Challenge.RW_granary_k03_names_looked_up
import HandS.Exc
import HandS.TryOnly
import HandS.Lambda
import HandS.Nested
import HandS.DeepEq
import HandS.Star
import PyProof.P3In
import HandS.FStr
import HandS.Text
import HandS.ExcInit
import HandS.ClsMeth
import KE.KExcSuper
import KE.KSuper
import HandS.MakeKwOnly
import HandS.Comp
import PyProof.NeKinds
import PyProof.EqAt
import PyProof.FitsInt
import HandS.Dict
import HandS.ExcOwn
import HandS.ForExc
import HandS.WordsExc
import HandS.Defaults
import HandS.Call
import PyProof.StrOps2
import HandS.ExcIs
import HandS.ExcField
import KE.KExcIs
import HandS.EndTab
set_option Elab.async false
namespace RK
open PySem L2
section
variable {X : Cx} {K : PySem.W.Frag}
theorem ixL (h : X.K = K := by rfl) : IxR X (rIxL K) := by subst h; exact ix_list
theorem ixT (h : X.K = K := by rfl) : IxR X (rIxT K) := by subst h; exact ix_tup
theorem ixQ (h : X.K = K := by rfl) : IxR X (rIx K) := by subst h; exact ix_seq
theorem eqD (hu : X.A.units + 64 < cLine) (h : X.K = K := by rfl) : OpR X (compareOp .Eq) (rEqD K) := by subst h; exact op_eqD hu
theorem neD (hu : X.A.units + 64 < cLine) (h : X.K = K := by rfl) : OpR X (compareOp .NotEq) (rNeD K) := by subst h; exact op_neD hu
theorem inQ (h : X.K = K := by rfl) : OpR X (compareOp .In) (rIn K false) := by subst h; exact op_in_seq
theorem notInQ (h : X.K = K := by rfl) : OpR X (compareOp .NotIn) (rIn K true) := by subst h; exact op_notIn_seq
def rLenQ (K : PySem.W.Frag) : List V → Hp → VK → Prop := fun xs H Q => ∃ p ys, xs = [.ref p] ∧ (SqL K H p ys ∨ SqT K H p ys) ∧ Q (.int ys.length) H
theorem lenQ (h : X.K = K := by rfl) : CallR X (.builtin "len") (rLenQ K) := by subst h; exact call_len_seq
def rListQ (K : PySem.W.Frag) : List V → Hp → VK → Prop := fun xs H Q => ∃ p ys, xs = [.ref p] ∧ (SqL K H p ys ∨ SqT K H p ys) ∧ ∀ l, H l = none → Q (.ref l) (upd H l (.lst ys))
theorem listQ (h : X.K = K := by rfl) : CallR X (.type "list") (rListQ K) := by subst h; exact call_list_of
def rTupQ (K : PySem.W.Frag) : List V → Hp → VK → Prop := fun xs H Q => ∃ p ys, xs = [.ref p] ∧ ((SqL K H p ys ∧ ∀ l, H l = none → Q (.ref l) (upd H l (.tup ys))) ∨ (SqT K H p ys ∧ Q (.ref p) H))
theorem tupQ (h : X.K = K := by rfl) : CallR X (.type "tuple") (rTupQ K) := by subst h; exact call_tuple_of
theorem slL (h : X.K = K := by rfl) : SlR X (rSlL K) := by subst h; exact sl_list
theorem slT (h : X.K = K := by rfl) : SlR X (rSlA K) := by subst h; exact sl_tupA
theorem catT (h : X.K = K := by rfl) : OpR X (binaryOp .Add) (rCatA K) := by subst h; exact op_catA
theorem isi (h : X.K = K := by rfl) : CallR X (.builtin "isinstance") (rIsi K) := by subst h; exact call_isi
theorem isiT (h : X.K = K := by rfl) : CallR X (.builtin "isinstance") (rIsiT K) := by subst h; exact call_isiT
theorem piL {tg l : Expr} {tl : TE} (hl : PE X l tl) (h : X.K = K := by rfl) : PI X tg l (iList K tl) := by subst h; exact pi_list hl
theorem piT {tg l : Expr} {tl : TE} (hl : PE X l tl) (h : X.K = K := by rfl) : PI X tg l (iTup K tl) := by subst h; exact pi_tup hl
def rAllQ (K : PySem.W.Frag) : List V → Hp → VK → Prop := fun xs H Q => ∃ (a : Addr) (bs : List Bool), xs = [.ref a] ∧ SqL K H a (bs.map V.bl) ∧ Q (.bl (bs.all id)) H
def rAnyQ (K : PySem.W.Frag) : List V → Hp → VK → Prop := fun xs H Q => ∃ (a : Addr) (bs : List Bool), xs = [.ref a] ∧ SqL K H a (bs.map V.bl) ∧ Q (.bl (bs.any id)) H
theorem allQ (hc : X.calm = true) (h : X.K = K := by rfl) : CallR X (.builtin "all") (rAllQ K) := by subst h; exact cr_all hc
theorem anyQ (hc : X.calm = true) (h : X.K = K := by rfl) : CallR X (.builtin "any") (rAnyQ K) := by subst h; exact cr_any hc
theorem pgTup {es : List Expr} {kk n : Nat} {pos : Pos} {t : TGs} (hc : X.calm = true) (ht : PGs X es t) (h : X.K = K := by rfl) (hn : (assignEach es X.env).length = n := by rfl) (hst : (assignEach es X.env).findIdx? (·.1) = none := by rfl) :
    PG X (.Tuple es kk pos) (gTup K n t) := by subst h; exact pg_tup hc ht hn hst
end
end RK

set_option Elab.async false
namespace RK
open PySem L2
section
variable {X : Cx} {K : PySem.W.Frag} {o e : Expr} {es : List Expr} {to : TE} {t : TA} {name : Str} {apos cpos : Pos} {T id : String} {r : V → List V → Hp → VK → Prop}
/-- a method of a list, in a comprehension too -/
theorem bm (pa : PlainAttrs T) (slot : Slot T name id) (ty : typeOf (.builtin id) = pure (.type "method_descriptor")) (mt : MtR X id r) (ho : PE X o to) (ha : PA X (e :: es) t) (hK : X.K = K := by rfl)
    (h1 : attributeBase o name X.env (eval o X.env) = eval o X.env := by rfl)
    (h2 : ((backTo cpos (starEach (e :: es) X.env)).all (fun y => !y.1) && (backToKw cpos (keywordEach [] X.env)).all (fun y => y.1.isSome)
      && decide ((e :: es).length + ([] : List Keyword).length + (if ([] : List Keyword).isEmpty then 0 else 1) < 30)) = true := by rfl)
    (h3 : (apos.endLine == cpos.line) = true := by rfl) (h4 : starEach (e :: es) X.env = (false, eval e X.env) :: starEach es X.env := by rfl) (h5 : (backTo cpos (starEach es X.env)).any (·.1) = false := by rfl) :
    PE X (.Call (.Attribute o name apos) (e :: es) [] cpos) (tBM K T r to t) := by subst hK; exact pe_bm pa slot ty mt ho ha h1 h2 h3 h4 h5
theorem bm0 (pa : PlainAttrs T) (slot : Slot T name id) (ty : typeOf (.builtin id) = pure (.type "method_descriptor")) (mt : MtR X id r) (ho : PE X o to) (hK : X.K = K := by rfl)
    (h1 : attributeBase o name X.env (eval o X.env) = eval o X.env := by rfl) (h2 : (apos.endLine == cpos.line) = true := by rfl) : PE X (.Call (.Attribute o name apos) [] [] cpos) (tBM0 K T r to) := by subst hK; exact pe_bm0 pa slot ty mt ho h1 h2
def rDictQ (K : PySem.W.Frag) : List V → Hp → VK → Prop := fun xs H Q => ∃ (a : Addr) (ps : List Addr) (kvs : List (Key × V)), xs = [.ref a] ∧ SqL K H a (ps.map V.ref) ∧ Paired (fun q kv => SqT K H q [kV kv.1, kv.2]) ps kvs ∧ ∀ q, H q = none → Q (.ref q) (upd H q (.dK (mergeK [] kvs)))
theorem dictQ (hc : X.calm = true) (h : X.K = K := by rfl) : CallR X (.type "dict") (rDictQ K) := by subst h; exact call_dictP hc
theorem minQ (hc : X.calm = true) (h : X.K = K := by rfl) : CallR X (.builtin "min") (rMin K) := by subst h; exact cr_min hc
theorem indexQ (h : X.K = K := by rfl) : MtR X "list.index" (rIndex K) := by subst h; exact mt_index
theorem inD (hu : X.A.units + 65 < cLine) (h : X.K = K := by rfl) : OpR X (compareOp .In) (rInD K) := by subst h; exact op_inD hu
end
end RK

set_option Elab.async false
set_option maxRecDepth 100000
namespace HX
open PySem L2
theorem same_new {H : Hp} {p : Addr} {o : HO} (hp : H p = none) : Same H (upd H p o) := fun b u e => by rw [upd_ne (ne_of_none e hp)]; exact e
theorem gn {i : Nat} {x : V} {σ : L2.St} {H : Hp} {Q : L2.St → Hp → Prop} (h : Q (σ.set i (some x)) H) : gName i x σ H Q := h
theorem sa1 {te : TE} {g : TG} {u : TS} {D : Ends} {σ : L2.St} {H : Hp} (h : te σ H fun x H1 => g x σ H1 (u D)) : tSeq (tAsg te g) u D σ H := h
theorem sq1 {te : TE} {u : TS} {D : Ends} {σ : L2.St} {H : Hp} (h : te σ H fun _ H1 => u D σ H1) : tSeq (tDrop te) u D σ H := h
theorem op1 {r : R2} {ta : TE} {y : V} {σ : L2.St} {H : Hp} {Q : VK} (h : ta σ H fun x H1 => r x y H1 Q) : tOp r ta (tC y) σ H Q := h
theorem par1 {i j : Nat} {ta tb : TE} {u : TS} {D : Ends} {σ : L2.St} {H : Hp} (h : ta σ H fun x H1 => tb σ H1 fun y H2 => ∃ v w, [x, y] = [v, w] ∧ u D ((σ.set i (some v)).set j (some w)) H2) : tSeq (tPar i j (tCons ta (tCons tb tNil))) u D σ H := h
theorem rg1 {te : TE} {g : TG} {tb u : TS} {D : Ends} {σ : L2.St} {H : Hp} (h : te σ H fun x H1 => ∃ j : Int, [x] = [V.int j] ∧ -(2 ^ 62) ≤ j ∧ j < 2 ^ 62 ∧ (tFor (fun _ H R => R (Itr 0 j.toNat) H) g tb) { D with nx := u D } σ H1) : tSeq (tFor (iRng1 (tCons te tNil)) g tb) u D σ H := h
theorem sif {c : TT} {t e u : TS} {D : Ends} {σ : L2.St} {H : Hp} (h : c σ H fun b H1 => if b = true then t { D with nx := u D } σ H1 else e { D with nx := u D } σ H1) : tSeq (tIfS c t e) u D σ H := h
theorem sifR {c : TT} {t e u : TS} {D : Ends} {σ : L2.St} {H : Hp} (R : L2.St → Hp → Prop) (h1 : ∀ σ' H', R σ' H' → u D σ' H') (h : (∀ σ' H', R σ' H' → u D σ' H') → c σ H fun b H1 => if b = true then t { D with nx := u D } σ H1 else e { D with nx := u D } σ H1) : tSeq (tIfS c t e) u D σ H := h h1
theorem ifs {c : TT} {t e : TS} {D : Ends} {σ : L2.St} {H : Hp} (h : c σ H fun b H1 => if b = true then t D σ H1 else e D σ H1) : tIfS c t e D σ H := h
theorem at0 {x : V} {xs : List V} : atI (x :: xs) 0 = some x := atI_nat (j := 0) rfl
theorem room66 {k : Nat} {A : Around} (hr : Room k A) : A.units + 66 < cLine := by
  have z := hr.un
  omega
theorem pw_imp {α β : Type} {R S : α → β → Prop} (h : ∀ x y, R x y → S x y) : ∀ {xs : List α} {ys : List β}, Paired R xs ys → Paired S xs ys
  | _, _, .nil => .nil
  | _, _, .cons a r => .cons (h _ _ a) (pw_imp h r)
theorem pw_len {α β : Type} {R : α → β → Prop} : ∀ {xs : List α} {ys : List β}, Paired R xs ys → xs.length = ys.length
  | _, _, .nil => rfl
  | _, _, .cons _ r => by rw [List.length_cons, List.length_cons, pw_len r]
theorem pw_get {α β : Type} {R : α → β → Prop} : ∀ {xs : List α} {ys : List β} {i : Nat} {y : β}, Paired R xs ys → ys[i]? = some y → ∃ x, xs[i]? = some x ∧ R x y
  | _, _, i, y, .nil, e => by simp at e
  | _, _, 0, y, .cons h _, e => ⟨_, rfl, by simp at e; subst e; exact h⟩
  | _, _, i + 1, y, .cons _ r, e => pw_get (i := i) r (by simpa using e)
theorem pw_app {α β : Type} {R : α → β → Prop} : ∀ {xs xs' : List α} {ys ys' : List β}, Paired R xs ys → Paired R xs' ys' → Paired R (xs ++ xs') (ys ++ ys')
  | _, _, _, _, .nil, r => r
  | _, _, _, _, .cons a q, r => .cons a (pw_app q r)
theorem pw_take {α β : Type} {R : α → β → Prop} : ∀ {xs : List α} {ys : List β} (i : Nat), Paired R xs ys → Paired R (xs.take i) (ys.take i)
  | _, _, 0, _ => .nil
  | _, _, _ + 1, .nil => .nil
  | _, _, i + 1, .cons a q => .cons a (pw_take i q)
theorem pw_snoc {α β : Type} {R : α → β → Prop} {ds : List α} {i : Nat} {e : α} {ys : List β} {y : β} (h : Paired R (ds.take i) ys) (he : ds[i]? = some e) (r : R e y) : Paired R (ds.take (i + 1)) (ys ++ [y]) := by
  have z : ds.take (i + 1) = ds.take i ++ [e] := by rw [List.take_add_one, he]; rfl
  rw [z]
  exact pw_app h (.cons r .nil)
structure Cal (P : Program) (w : World) (K : PySem.W.Frag) (mg : Str → Option Value) (base : Heap) (k : Nat) (x : Str) (ps : List Str) (sp : Sp) (f : Addr) (fd : FuncData) : Prop where
  g : mg x = some (.ref f)
  kp : PySem.W.keepIn K (.ref f) = true
  b : Binds K fd ps []
  G : FnOk P w K mg base CX0 k f fd ps sp
theorem Cal.mono {P : Program} {w : World} {K : PySem.W.Frag} {mg : Str → Option Value} {base : Heap} {j k : Nat} {x : Str} {ps : List Str} {sp : Sp} {f : Addr} {fd : FuncData} (C : Cal P w K mg base j x ps sp f fd) (h : j ≤ k) : Cal P w K mg base k x ps sp f fd := ⟨C.g, C.kp, C.b, C.G.mono h⟩
/-- what is new in H' -/
def fresh (H H' : Hp) : Hp := fun b => match H b with
  | some _ => none
  | none => H' b
theorem fresh_at {H H' : Hp} {b : Addr} {o : HO} : fresh H H' b = some o ↔ H b = none ∧ H' b = some o := by
  unfold fresh
  cases H b with
  | none => exact ⟨fun h => ⟨rfl, h⟩, fun h => h.2⟩
  | some u => exact ⟨fun h => (by cases h), fun h => (by cases h.1)⟩
theorem none_of_same {H H' : Hp} (s : Same H H') {b : Addr} (h : H' b = none) : H b = none := by
  cases e : H b with
  | none => rfl
  | some o => rw [s b o e] at h; cases h
end HX

set_option Elab.async false
set_option maxRecDepth 100000
set_option maxHeartbeats 4000000
namespace EN
open PySem PySem.Spec PyProof.Rows L2
open Sem (wp)
/-- enumerate(v) of anything whose iter is told -/
theorem enum_new1 {v : Value} {ob : Obj} {G : Heap → Prop} (B : Begins v ob G) :
    Meets (Builtin.«enumerate.__new__» ⟨[.type "enumerate", v], []⟩) (fun _ R s => G s.heap ∧
      R (.ok (.ret (.ref (s.heap.push ob).objs.size))) { s with heap := (s.heap.push ob).push ⟨.type "enumerate", none, .fields #[.none, .bool false, .ref s.heap.objs.size, rawInt 0, .none, .none], #[]⟩ }) :=
  .of_wp fun prog w A R sh hh => by
    obtain ⟨hp, gg, dd, tt, oo⟩ := sh; obtain ⟨g1, hh⟩ := hh
    have hsub := sub_enumerate
    have qi : ∀ {A' : Around} {E Q : Value → Shared → Prop}, Q (.ref hp.objs.size) ⟨hp.push ob, gg, dd, tt, oo⟩ → wpAny (model prog w) A' (pyIter v) Q E ⟨hp, gg, dd, tt, oo⟩ :=
      fun q => B.iter prog w _ _ ⟨hp, gg, dd, tt, oo⟩ _ g1 q
    wp_walk using qi
    refine wpAny_stack_any fun stk => wpAny_pure ?_
    split
    · rename_i cc _ _ _ _ _
      cases (cc == Value.type "enumerate")
      · wp_walk using qi
        exact ⟨_, rfl, hh⟩
      · wp_walk using qi
        exact ⟨_, rfl, hh⟩
    · wp_walk using qi
      exact ⟨_, rfl, hh⟩
theorem enum_call1 {prog : Program} {w : World} {A : Around} {E Q : Value → Shared → Prop} {s : Shared} {v : Value} {ob : Obj} {G : Heap → Prop} (B : Begins v ob G) (g1 : G s.heap)
    (k : ∀ h2, IsEnum h2 (s.heap.objs.size + 1) s.heap.objs.size 0 .none → h2.get? s.heap.objs.size = some ob → h2.objs.size = s.heap.objs.size + 2 →
      (∀ b o, s.heap.get? b = some o → h2.get? b = some o) → Q (.ref (s.heap.objs.size + 1)) { s with heap := h2 }) :
    wpAny (model prog w) A (call (.type "enumerate") [v]) Q E s := by
  refine callType_new F.called_enumerate (by decide) (F.typeCall_enumerate_1 _) (F.newCall_enumerate_1 _) (fun oj => F.args_object_init_2 oj _) F.entry_enumerate_new (enum_new1 B) ⟨g1, ?_⟩
  have hz : (s.heap.push ob).objs.size = s.heap.objs.size + 1 := Heap.size_push ..
  show _ ∧ _
  rw [hz]
  have he : IsEnum ((s.heap.push ob).push ⟨.type "enumerate", none, .fields #[.none, .bool false, .ref s.heap.objs.size, rawInt 0, .none, .none], #[]⟩) (s.heap.objs.size + 1) s.heap.objs.size 0 .none := by
    have q := Heap.get?_push_size (s.heap.push ob) (o := ⟨.type "enumerate", none, .fields #[.none, .bool false, .ref s.heap.objs.size, rawInt 0, .none, .none], #[]⟩) rfl
    rw [hz] at q
    exact q
  exact ⟨⟨_, he, rfl⟩, k _ he (Heap.get?_push_of_some _ (Heap.get?_push_size _ B.free)) (by rw [Heap.size_push, hz]) fun b o x => Heap.get?_push_of_some _ (Heap.get?_push_of_some _ x)⟩
/-- a tuple at a, each item in a new pair -/
def IteT (K : PySem.W.Frag) (a : Addr) : It :=
  ⟨fun i H => ∃ (xs : List V) (x : V), SqT K H a xs ∧ xs[i]? = some x, fun i H v H' => ∃ T x, v = .ref T ∧ H T = none ∧ H' = upd H T (.tup [.int (i : Nat), x]) ∧ ∀ xs, SqT K H a xs → xs[i]? = some x,
    fun i H => ∃ xs : List V, SqT K H a xs ∧ xs.length ≤ i⟩
theorem turn_enumT {P : Program} {w : World} {K : PySem.W.Frag} {elts : List Expr} {kk : Nat} {tpos : Pos} (a e it : Addr) :
    Turn P w K (.Tuple elts kk tpos) (IteT K a) [e, it] e (fun i h => (∃ old, IsEnum h e it ((i : Nat) : Int) old) ∧ h.IsTupleIter it a i ∧ e ≠ it ∧ e ≠ a ∧ a ≠ it) where
  mem := by simp
  obj := fun i h st b hb => by
    obtain ⟨⟨old, he⟩, ⟨o, ho, hc, hd⟩, _⟩ := st
    have e' : b = e ∨ b = it := by simpa using hb
    rcases e' with z | z
    · rw [z]; exact ⟨_, he, fun v q => nomatch q⟩
    · rw [z]; exact ⟨o, ho, fun v q => by rw [hd] at q; cases q⟩
  keep := fun i h h' st k => let ⟨⟨old, he⟩, hi, hne⟩ := st; ⟨⟨old, k e (by simp) _ he⟩, hi.at fun o q => k it (by simp) o q, hne⟩
  item := by
    intro X hP hw hK hc i pins s σ H E I hf st hg
    subst hP hw hK
    obtain ⟨⟨old, he⟩, hit, hne, hea, hai⟩ := st
    obtain ⟨xs, x, hq, hx⟩ := hg
    obtain ⟨its, rv, p, hz⟩ := I.tuple hq
    obtain ⟨u, hu, ru⟩ := rv.get hx
    have hel : e < s.heap.objs.size := Heap.lt_size he
    have hil : it < s.heap.objs.size := by obtain ⟨_, q, _⟩ := hit; exact Heap.lt_size q
    have pt : s.heap.IsTuple a its.toArray := p
    have hlt : i < its.toArray.size := by
      have q := (List.getElem?_eq_some_iff.mp hu).1
      simpa using q
    refine wpAny_pyNext_enum_itemD (Draws.tuple (A := X.A.in1) (show X.A.in1.handled = none from I.ok.hd hc) it a hai its.toArray) he ⟨hit, pt⟩ hlt hne (by simp [hne, hea]) fun y h' tk hy ho hit' hT hsz hk => ?_
    obtain rfl : y = u := by
      have q : its.toArray[i]? = some u := by simpa using hu
      rw [hy] at q
      exact Option.some.inj q
    refine ⟨_, rfl, wpAny_letOwnedTupleGo_enum (s := { s with heap := h', toks := tk + 1 }) ho fun h'' he' sb => ?_⟩
    have hT2 : h''.get? s.heap.objs.size = some { cls := .type "tuple", data := .seq #[.int i tk, y] } := (sb.2 _ (Nat.ne_of_gt hel)).trans hT
    have new : ObjOk X.prog X.w (upd H s.heap.objs.size (.tup [.int (i : Nat), x])) h'' s.heap.objs.size (.tup [.int (i : Nat), x]) :=
      ⟨by show 2 ≤ sizeLine; decide, [.int i tk, y], .cons ⟨_, rfl⟩ (.cons ru .nil), ⟨_, hT2, rfl, _, rfl⟩⟩
    have I1 : Inv X pins σ (upd H s.heap.objs.size (.tup [.int (i : Nat), x])) { s with heap := h'', toks := tk + 1 } :=
      I.turnedNew (ch := [e, it]) (fun b ob hb q => (sb.2 b (fun z => hb (by simp [z]))).trans (hk b ob (fun z => hb (by simp [z])) (fun z => hb (by simp [z])) q)) hf (Nat.le_refl _) new
    refine ⟨.ref s.heap.objs.size, _, I1, rfl, ⟨_, x, rfl, I.hok.fresh (Nat.le_refl _), rfl, fun ys hy => by rw [I.tuple_inj hy hq]; exact hx⟩, ⟨⟨y, ?_⟩, hit'.1.at fun o q => (sb.2 it (Ne.symm hne)).trans q, hne, hea, hai⟩, fun b hb => ?_⟩
    · have e1 : ((i + 1 : Nat) : Int) = (i : Int) + 1 := by omega
      rw [e1]; exact he'
    · have hb' : b < s.heap.objs.size := by
        have e' : b = e ∨ b = it := by simpa using hb
        rcases e' with z | z
        · rw [z]; exact hel
        · rw [z]; exact hil
      rw [upd_ne (Nat.ne_of_lt hb')]
      exact (hf b hb).1
  done := by
    intro X hP hw hK hc i pins s σ H E I hf st hg
    subst hP hw hK
    obtain ⟨⟨old, he⟩, hit, hne, hea, hai⟩ := st
    obtain ⟨xs, hq, hx⟩ := hg
    obtain ⟨its, rv, p, hz⟩ := I.tuple hq
    obtain ⟨f0, f1, f2, f3, f4, f5⟩ := hf it (by simp)
    have hl := rv.length
    have pt : s.heap.IsTuple a its.toArray := p
    have hh : X.A.handled = none := I.ok.hd hc
    unfold pyNext
    refine wpAny_bind (wpAny_attempt (wpAny_callSpecial?_slot (name := Str.ofString "__next__") ⟨_, he, rfl⟩ F.slot_enumerate_next (wpAny_call_entry F.slot_enumerate_next ⟨_, he, rfl⟩ F.entry_enumerate_next ?_ (F.args_enumerate_next_1 _))))
    show wpAny _ _ (field (.ref e) 2 >>= _) _ _ _
    refine wpAny_bind (wpAny_field he rfl (x := .ref it) rfl ?_)
    refine wpAny_bind (wpAny_nextOf_tuple_end hh hit pt (by simp; omega) fun h' x he' hx' => ?_)
    obtain ⟨o, ho, hc⟩ := hx'
    exact wpAny_bind (wpAny_isInstance (T := "StopIteration") (b := true) ⟨o, ho, hc⟩ isSubtype_stop (wpAny_pure ⟨rfl, I.turned (t' := s.toks) (fun b o hb q => he' b o hb q) f0 f1 f3 f4 f5⟩))
  self := fun A i s Q E st h => let ⟨⟨_, he⟩, _⟩ := st; wpAny_pyIter_enum he h
def iEnumT (K : PySem.W.Frag) (ta : TA) : TI := fun σ H R => ta σ H fun vs H1 => ∃ a xs, vs = [.ref a] ∧ SqT K H1 a xs ∧ R (IteT K a) H1
theorem pi_enumT {X : Cx} {K : PySem.W.Frag} {e : Expr} {ta : TA} {p pos tpos : Pos} {elts : List Expr} {kk : Nat} (hg : Gl X "enumerate") (hm : X.mg "enumerate" = none) (ha : PA X [e] ta) (hK : X.K = K := by rfl) (hs : starEach [e] X.env = [(false, eval e X.env)] := by rfl) :
    PI X (.Tuple elts kk tpos) (.Call (.Name "enumerate" p) [e] [] pos) (iEnumT K ta) := by
  subst hK
  refine ⟨fun pins s σ H R I h => ?_⟩
  refine Call_ (ld_blt I hg hm boot_enumerate (PyProof.Rows.callWith_type1 (thn (ha.run pos pins s σ H _ I h) fun us s1 ⟨vs, H1, I1, r1, q1⟩ => ?_) hs rfl))
  obtain ⟨a, xs, ex, hq, q⟩ := q1
  subst ex
  cases r1 with
  | cons r rr =>
    cases rr
    cases r
    obtain ⟨its, rv, p', hz⟩ := I1.tuple hq
    have pt : s1.heap.IsTuple a its.toArray := p'
    have hal : a < s1.heap.objs.size := by obtain ⟨_, q, _⟩ := id pt; exact Heap.lt_size q
    refine enum_call1 (begins_tuple a its.toArray) pt fun h' he hit hsz hk => wpAny_pyIter_enum he ?_
    have I2 : Inv X pins σ H1 { s1 with heap := h' } := I1.kept (t' := s1.toks) hk
    refine ⟨s1.heap.objs.size + 1, [s1.heap.objs.size + 1, s1.heap.objs.size], _, _, H1, rfl, I2, turn_enumT a (s1.heap.objs.size + 1) s1.heap.objs.size,
      ⟨⟨.none, he⟩, ⟨_, hit, rfl, rfl⟩, Nat.succ_ne_self _, Nat.ne_of_gt (Nat.lt_succ_of_lt hal), Nat.ne_of_lt hal⟩, fun b hb => ?_, q⟩
    have e' : b = s1.heap.objs.size + 1 ∨ b = s1.heap.objs.size := by simpa using hb
    have hle : s1.heap.objs.size ≤ b := by
      rcases e' with z | z
      · rw [z]; exact Nat.le_add_right _ _
      · rw [z]; exact Nat.le_refl _
    exact I1.fpOk hle (I1.hok.fresh hle)
theorem walk_enumT {K : PySem.W.Frag} {a : Addr} {xs : List V} : Walk (IteT K a) xs.length (fun H => SqT K H a xs) (YPair (fun i => some (.int (i : Nat))) (fun i => xs[i]?)) where
  goes := fun i H hi q => ⟨xs, xs[i], q, List.getElem?_eq_getElem hi⟩
  stops := fun H q => ⟨xs, q, Nat.le_refl _⟩
  yields := fun i H x H' hi q y => let ⟨T, z, e1, e2, e3, e4⟩ := y; ⟨T, _, z, e1, e2, e3, rfl, e4 xs q⟩
end EN

set_option Elab.async false
set_option maxRecDepth 100000
set_option maxHeartbeats 4000000
namespace GS
open PySem L2 HX
def top (i : Nat) : Stmt := PySem.Challenge.pw_granary_k03_names_looked_up.main.body.getD i (.Pass ⟨0, 0, 0, 0⟩)
abbrev s_BadName___init__ : Stmt := inClass (top 2) 0
abbrev s_checked : Stmt := top 6
abbrev s_check_table : Stmt := top 7
abbrev s_check_index : Stmt := top 8
abbrev s_check_there : Stmt := top 9
abbrev s_check_no_key : Stmt := top 10
abbrev s_check_put : Stmt := top 11
abbrev s_checked_set : Stmt := top 12
abbrev s_checked_strike : Stmt := top 13
abbrev s_checked_ask : Stmt := top 14
abbrev s_check_asked : Stmt := top 15
abbrev s_filled_all : Stmt := top 16
abbrev s_filled_where : Stmt := top 17
abbrev s_filled : Stmt := top 18
abbrev s_filled_start : Stmt := top 19
abbrev s_filled_field : Stmt := top 20
abbrev s_only_table : Stmt := top 21
abbrev s_l_mix : Stmt := top 23
abbrev s_l_next : Stmt := top 24
abbrev s_l_alike : Stmt := top 25
abbrev s_l_shapes : Stmt := top 26
abbrev s_l_number : Stmt := top 27
abbrev s_l_term : Stmt := top 28
abbrev s_l_cond : Stmt := top 29
abbrev s_l_some : Stmt := top 30
abbrev s_l_ask : Stmt := top 31
abbrev s_l_statement : Stmt := top 32
abbrev s_l_word : Stmt := top 33
abbrev s_l_bare : Stmt := top 34
abbrev s_l_first : Stmt := top 35
abbrev s_l_due : Stmt := top 36
abbrev s_l_leaves : Stmt := top 37
abbrev s_l_put : Stmt := top 38
abbrev s_l_bent : Stmt := top 39
abbrev s_l_known : Stmt := top 40
abbrev s_law : Stmt := top 41
structure Txt (mg : Str → Option Value) : Prop where
  len : mg "len" = none
  range : mg "range" = none
  list : mg "list" = none
  tuple : mg "tuple" = none
  int : mg "int" = none
  isinstance : mg "isinstance" = none
  dict : mg "dict" = none
  bool : mg "bool" = none
  str : mg "str" = none
  min : mg "min" = none
  sorted : mg "sorted" = none
end GS

set_option Elab.async false
set_option maxRecDepth 100000
set_option maxHeartbeats 4000000
namespace TH
open PySem PySem.Spec PyProof.Rows L2 LamX NdefX
/-- cells are shut into the abstract heap, frozen as they stand; and taken out of it again -/
def addC (cs : List (Addr × Obj)) (H : Hp) : Hp := fun b => match cs.lookup b with | some o => some (.frz o (.own b)) | none => H b
def subC (cs : List (Addr × Obj)) (H : Hp) : Hp := fun b => match cs.lookup b with | some _ => none | none => H b
theorem addC_in {cs : List (Addr × Obj)} {H : Hp} {b : Addr} {o : Obj} (h : cs.lookup b = some o) : addC cs H b = some (.frz o (.own b)) := by unfold addC; rw [h]
theorem addC_out {cs : List (Addr × Obj)} {H : Hp} {b : Addr} (h : cs.lookup b = none) : addC cs H b = H b := by unfold addC; rw [h]
theorem subC_in {cs : List (Addr × Obj)} {H : Hp} {b : Addr} {o : Obj} (h : cs.lookup b = some o) : subC cs H b = none := by unfold subC; rw [h]
theorem subC_out {cs : List (Addr × Obj)} {H : Hp} {b : Addr} (h : cs.lookup b = none) : subC cs H b = H b := by unfold subC; rw [h]
/-- they stand in the heap, untracked -/
def CsAt (cs : List (Addr × Obj)) (H : Hp) (h : Heap) : Prop := ∀ b o, cs.lookup b = some o → h.get? b = some o ∧ H b = none
/-- they are shut in -/
def CsIn (cs : List (Addr × Obj)) (H : Hp) : Prop := ∀ b o, cs.lookup b = some o → H b = some (.frz o (.own b))
theorem csIn_add (cs : List (Addr × Obj)) (H : Hp) : CsIn cs (addC cs H) := fun _ _ h => addC_in h
/-- what is no cell is seen alike -/
theorem out_of {cs : List (Addr × Obj)} {H : Hp} {b : Addr} (i : CsIn cs H) (n : ∀ o, H b ≠ some (.frz o (.own b))) : cs.lookup b = none := by
  cases e : cs.lookup b with
  | none => rfl
  | some o => exact absurd (i b o e) (n o)
theorem out_none {cs : List (Addr × Obj)} {H : Hp} {b : Addr} (i : CsIn cs H) (n : H b = none) : cs.lookup b = none := out_of i fun o z => by rw [n] at z; cases z
section
variable {P : Program} {w : World} {cs : List (Addr × Obj)} {H H' : Hp} {h h' B : Heap} {fs : List Addr}
theorem out_own (a : CsAt cs H h) {b x : Addr} (e : H b = some (.own x)) : cs.lookup b = none := by
  cases q : cs.lookup b with
  | none => rfl
  | some o => rw [(a b o q).2] at e; cases e
theorem out_tup (a : CsAt cs H h) {b : Addr} {xs : List V} (e : H b = some (.tup xs)) : cs.lookup b = none := by
  cases q : cs.lookup b with
  | none => rfl
  | some o => rw [(a b o q).2] at e; cases e
theorem out_some (a : CsAt cs H h) {b : Addr} {u : HO} (e : H b = some u) : cs.lookup b = none := by
  cases q : cs.lookup b with
  | none => rfl
  | some o => rw [(a b o q).2] at e; cases e
theorem hok_add (x : HOk P w H h) (a : CsAt cs H h) : HOk P w (addC cs H) h := fun b u e => by
  cases q : cs.lookup b with
  | some o =>
    rw [addC_in q] at e
    cases e
    exact ⟨(a b o q).1, o, (a b o q).1⟩
  | none =>
    rw [addC_out q] at e
    exact (x b u e).stay (fun _ _ _ z => z) (fun c z => by rw [addC_out (out_own a z)]; exact z) fun c xs z => by rw [addC_out (out_tup a z)]; exact z
theorem hok_sub (x : HOk P w H h) (i : CsIn cs H) : HOk P w (subC cs H) h := fun b u e => by
  cases q : cs.lookup b with
  | some o =>
    rw [subC_in q] at e
    cases e
  | none =>
    rw [subC_out q] at e
    refine (x b u e).stay (fun _ _ _ z => z) (fun c z => ?_) fun c xs z => ?_
    · rw [subC_out (out_of i fun o y => by rw [z] at y; cases y)]; exact z
    · rw [subC_out (out_of i fun o y => by rw [z] at y; cases y)]; exact z
theorem csAt_sub (x : HOk P w H h) (i : CsIn cs H) : CsAt cs (subC cs H) h := fun b o q => ⟨(x b _ (i b o q)).1, subC_in q⟩
/-- a call's end, seen from without: the cells were shut in for it -/
theorem un_add (u : Un fs [] (addC cs H) H' h h') (a : CsAt cs H h) (x : HOk P w H' h') : Un fs [] H (subC cs H') h h' where
  keep := fun b o e n hb hx => by
    cases q : cs.lookup b with
    | some o' =>
      have e1 := (a b o' q).1
      rw [e] at e1
      cases e1
      exact (x b _ (u.frzs b o _ (addC_in q))).1
    | none => exact u.keep b o e (by rw [addC_out q]; exact n) hb hx
  slot := fun b o e n hb hx => by
    cases q : cs.lookup b with
    | some o' =>
      have e1 := (a b o' q).1
      rw [e] at e1
      cases e1
      exact ⟨o.slots, (x b _ (u.frzs b o _ (addC_in q))).1⟩
    | none => exact u.slot b o e (by rw [addC_out q]; exact n) hb hx
  free := fun b o e n hx => by
    cases q : cs.lookup b with
    | some o' => exact subC_in q
    | none =>
      rw [subC_out q]
      exact u.free b o e (by rw [addC_out q]; exact n) hx
  there := u.there
  tups := fun b xs e => by
    have q := out_some a e
    rw [subC_out q]
    exact u.tups b xs (by rw [addC_out q]; exact e)
  frzs := fun b o v e => by
    have q := out_some a e
    rw [subC_out q]
    exact u.frzs b o v (by rw [addC_out q]; exact e)
  tbls := fun b ps e => by
    have q := out_some a e
    rw [subC_out q]
    exact u.tbls b ps (by rw [addC_out q]; exact e)
theorem csIn_of (u : Un fs [] (addC cs H) H' h h') : CsIn cs H' := fun b o q => u.frzs b o _ (addC_in q)
/-- a call's end, seen from without: the cells were taken out for it -/
theorem un_sub (u : Un fs [] (subC cs H) H' h h') (i : CsIn cs H) : Un fs [] H (addC cs H') h h' where
  keep := fun b o e n hb hx => u.keep b o e (by rw [subC_out (out_none i n)]; exact n) hb hx
  slot := fun b o e n hb hx => u.slot b o e (by rw [subC_out (out_none i n)]; exact n) hb hx
  free := fun b o e n hx => by
    have q := out_none i n
    rw [addC_out q]
    exact u.free b o e (by rw [subC_out q]; exact n) hx
  there := u.there
  tups := fun b xs e => by
    have q : cs.lookup b = none := out_of i fun o z => by rw [e] at z; cases z
    rw [addC_out q]
    exact u.tups b xs (by rw [subC_out q]; exact e)
  frzs := fun b o v e => by
    cases q : cs.lookup b with
    | some o' =>
      have e1 := i b o' q
      rw [e] at e1
      cases e1
      exact addC_in q
    | none =>
      rw [addC_out q]
      exact u.frzs b o v (by rw [subC_out q]; exact e)
  tbls := fun b ps e => by
    have q : cs.lookup b = none := out_of i fun o z => by rw [e] at z; cases z
    rw [addC_out q]
    exact u.tbls b ps (by rw [subC_out q]; exact e)
theorem csAt_of (u : Un fs [] (subC cs H) H' h h') (a : CsAt cs (subC cs H) h) (nf : ∀ b o, cs.lookup b = some o → b ∉ fs) : CsAt cs H' h' := fun b o q =>
  ⟨u.keep b o (a b o q).1 (a b o q).2 (nf b o q) (by simp), u.free b o (a b o q).1 (a b o q).2 (by simp)⟩
/-- the same of an exception's ground -/
theorem ub_add (u : UB fs (addC cs H) H' h B h') (a : CsAt cs H h) (x : HOk P w H' B) : UB fs H (subC cs H') h B h' where
  keep := fun b o e n hb => by
    cases q : cs.lookup b with
    | some o' =>
      have e1 := (a b o' q).1
      rw [e] at e1
      cases e1
      exact (x b _ (u.frzs b o _ (addC_in q))).1
    | none => exact u.keep b o e (by rw [addC_out q]; exact n) hb
  slot := u.slot
  free := fun b o e n => by
    cases q : cs.lookup b with
    | some o' => exact subC_in q
    | none =>
      rw [subC_out q]
      exact u.free b o e (by rw [addC_out q]; exact n)
  there := u.there
  tups := fun b xs e => by
    have q := out_some a e
    rw [subC_out q]
    exact u.tups b xs (by rw [addC_out q]; exact e)
  frzs := fun b o v e => by
    have q := out_some a e
    rw [subC_out q]
    exact u.frzs b o v (by rw [addC_out q]; exact e)
  tbls := fun b ps e => by
    have q := out_some a e
    rw [subC_out q]
    exact u.tbls b ps (by rw [addC_out q]; exact e)
theorem ub_sub (u : UB fs (subC cs H) H' h B h') (i : CsIn cs H) : UB fs H (addC cs H') h B h' where
  keep := fun b o e n hb => u.keep b o e (by rw [subC_out (out_none i n)]; exact n) hb
  slot := u.slot
  free := fun b o e n => by
    have q := out_none i n
    rw [addC_out q]
    exact u.free b o e (by rw [subC_out q]; exact n)
  there := u.there
  tups := fun b xs e => by
    have q : cs.lookup b = none := out_of i fun o z => by rw [e] at z; cases z
    rw [addC_out q]
    exact u.tups b xs (by rw [subC_out q]; exact e)
  frzs := fun b o v e => by
    cases q : cs.lookup b with
    | some o' =>
      have e1 := i b o' q
      rw [e] at e1
      cases e1
      exact addC_in q
    | none =>
      rw [addC_out q]
      exact u.frzs b o v (by rw [subC_out q]; exact e)
  tbls := fun b ps e => by
    have q : cs.lookup b = none := out_of i fun o z => by rw [e] at z; cases z
    rw [addC_out q]
    exact u.tbls b ps (by rw [subC_out q]; exact e)
theorem csAt_ub (u : UB fs (subC cs H) H' h B h') (a : CsAt cs (subC cs H) h) (nf : ∀ b o, cs.lookup b = some o → b ∉ fs) : CsAt cs H' B := fun b o q =>
  ⟨u.keep b o (a b o q).1 (a b o q).2 (nf b o q), u.free b o (a b o q).1 (a b o q).2⟩
end
/-! ### thunks -/
/-- what a function that was handed on leans on -/
def KeepC (H H1 : Hp) : Prop := (∀ b o u, H b = some (.frz o u) → H1 b = some (.frz o u)) ∧ (∀ b xs, H b = some (.tup xs) → H1 b = some (.tup xs)) ∧ ∀ b φ, H b = some (.ext φ) → H1 b = some (.ext φ)
theorem KeepC.of {H H1 : Hp} (e : ∀ b o, H b = some o → (∃ ob u, o = .frz ob u) ∨ (∃ xs, o = .tup xs) ∨ (∃ φ, o = .ext φ) → H1 b = some o) : KeepC H H1 :=
  ⟨fun b o u h => e b _ h (.inl ⟨o, u, rfl⟩), fun b xs h => e b _ h (.inr (.inl ⟨xs, rfl⟩)), fun b φ h => e b _ h (.inr (.inr ⟨φ, rfl⟩))⟩
theorem KeepC.refl (H : Hp) : KeepC H H := ⟨fun _ _ _ h => h, fun _ _ h => h, fun _ _ h => h⟩
theorem KeepC.trans {H H1 H2 : Hp} (a : KeepC H H1) (b : KeepC H1 H2) : KeepC H H2 := ⟨fun c o u h => b.1 c o u (a.1 c o u h), fun c xs h => b.2.1 c xs (a.2.1 c xs h), fun c φ h => b.2.2 c φ (a.2.2 c φ h)⟩
abbrev TK := Hp → VK → XK → Prop
/-- the function at f, called without arguments, does T -/
structure Thunk (P : Program) (w : World) (K : PySem.W.Frag) (mg : Str → Option Value) (base : Heap) (k : Nat) (H : Hp) (f : Addr) (T : TK) : Prop where
  fn : ∃ fd : FuncData, H f = some (.frz { cls := .type "function", data := .func fd } (.own f))
  run : ∀ (A : Around) (outer : List Env) (s : Shared) (H1 : Hp) (Q : VK) (E : XK), Room k A → Env0 P w K mg base A outer s H1 → KeepC H H1 → T H1 Q E →
    codeAny (model P w) A (.call (.ref f) ⟨[], []⟩) (CR (CX P w) outer P w H1 s Q E) s
section
variable {P : Program} {w : World} {K : PySem.W.Frag} {mg : Str → Option Value} {base : Heap} {k j : Nat} {H H' : Hp} {f : Addr} {T T' : TK}
theorem Thunk.keep (t : Thunk P w K mg base k H f T) (kc : KeepC H H') : Thunk P w K mg base k H' f T :=
  ⟨t.fn.elim fun fd h => ⟨fd, kc.1 _ _ _ h⟩, fun A outer s H1 Q E hr e0 k1 q => t.run A outer s H1 Q E hr e0 (kc.trans k1) q⟩
theorem Thunk.mono (t : Thunk P w K mg base j H f T) (h : j ≤ k) : Thunk P w K mg base k H f T := ⟨t.fn, fun A outer s H1 Q E hr => t.run A outer s H1 Q E (hr.mono h)⟩
theorem Thunk.imp (t : Thunk P w K mg base k H f T) (h : ∀ H1 Q E, KeepC H H1 → T' H1 Q E → T H1 Q E) : Thunk P w K mg base k H f T' := ⟨t.fn, fun A outer s H1 Q E hr e0 kc q => t.run A outer s H1 Q E hr e0 kc (h H1 Q E kc q)⟩
end
/-- a(), a a name that holds such a function -/
theorem pe_thunk {X : Cx} {W : WX} {i k : Nat} {a : Str} {p1 p2 : Pos} (tk : Takes X W) (hr : Room k X.A) (hN : X.N[i]? = some a) (hv : Vis X.env.scope a) (hd : (a == ("__debug__" : Str)) = false := by decide) (hcd : (a == ("__classdict__" : Str)) = false := by decide) :
    PE X (.Call (.Name a p1) [] [] p2) (fun σ H Q => ∃ f T Eb, σ[i]? = some (some (.ref f)) ∧ Thunk X.prog X.w X.K X.mg X.base k H f T ∧ T H Q Eb ∧ ∀ cls d H', Eb cls d H' → W cls d σ H') := by
  refine ⟨fun pins s σ H Q I h => ?_⟩
  obtain ⟨f, T, Eb, hs, th, q, hE⟩ := h
  refine wpAny_Call_Name_kw (thn ((pe_var (pos := p1) (i := i) hN hv hd hcd).run pins s σ H (fun v H1 => v = .ref f ∧ H1 = H) I ⟨.ref f, hs, rfl, rfl⟩) fun u s1 ⟨v, H1, I1, r1, q1⟩ => ?_)
  obtain ⟨ev, eH⟩ := q1
  subst ev
  rw [eH] at I1
  obtain rfl : u = Value.ref f := r1
  obtain ⟨fd, hf⟩ := th.fn
  have of1 := (I1.hok f _ hf).1
  refine PySem.W.callWith_F0 ⟨_, _, _, _, of1⟩ ?_
  refine wpAny_call (codeAny_mono (th.run X.A X.stack s1 H Q Eb hr I1.env0 (KeepC.refl H) q) fun r s' hq => ?_)
  cases r with
  | error e => exact tk e s' (XE.of_call (pins := pins) (σ := σ) I1 hE hq)
  | ok fl =>
    cases fl with
    | ret u => exact I1.after hq
    | next => exact False.elim hq
    | brk => exact False.elim hq
    | cont => exact False.elim hq
end TH

set_option Elab.async false
set_option maxRecDepth 100000
set_option maxHeartbeats 4000000
namespace TH
open PySem PySem.Spec PyProof.Rows L2 LamX NdefX
/-- a lambda's function, dv: where its defaults stand -/
abbrev lamFd (F : NF) (body : Expr) (dv pm ctv : Value) : FuncData := ⟨F.name, F.qual, F.params, .expr body, F.scope, mainGlobals, F.cl, dv, .none, .none, pm, none, .ref F.c, ctv, builtinsNs⟩
abbrev lamO (F : NF) (body : Expr) (dv pm ctv : Value) : Obj := { cls := .type "function", data := .func (lamFd F body dv pm ctv) }
section
variable {M : Model} {A : Around} {E : Value → Shared → Prop} {s : Shared} {nm ql : Str} {params : Arguments} {body : Expr} {scope : Scope} {env : Env} {c P : Addr} {ps : Array Value} {pos : Pos} {ln : Nat} {mg : Str → Option Value} {clos : List (Str × Addr)} {dv : Value} {Q : Value → Shared → Prop}
theorem tail_new (e1 : closureFor scope env = pure clos) (e2 : env.globals = mainGlobals) (hg : s.heap.Ns mainGlobals mg) (e3 : env.code = .ref c) (C : PySem.W.CodeHd s.heap c P) (hP : s.heap.get? P = some (PySem.W.tabObj ps)) (ht : TriplesOk ps.toList)
    (nf : codeAmong pos ps.toList = none) (gP : mainGlobals ≠ P) (hb : s.heap.BuiltinsAt mg P)
    (h : ∀ c' ctv h' tk, Heap.ExtBut P s.heap h' → s.heap.objs.size ≤ c' → c' < h'.objs.size → h'.CodeRec (.ref c') ql → h'.get? P = some (PySem.W.tabObj (ps ++ #[rawInt pos.line, rawInt pos.col, .ref c'])) →
      Q (.ref h'.objs.size) { s with heap := h'.push (lamO ⟨nm, ql, params, [], scope, clos, c'⟩ body dv ((mg "__name__").getD .none) ctv), toks := tk }) :
    wpAny M A (makeTail nm ql params (.expr body) scope env dv .none none pos ln) Q E s := by
  obtain ⟨bm, ob, b1, b2, _, b4, b5, b6, b7, b8⟩ := hb
  unfold makeTail
  rw [e1, e2]
  refine wpAny_bind (wpAny_pure ?_)
  cases clos with
  | nil =>
    rw [show (([] : List (Str × Addr)).isEmpty) = true from rfl, if_pos rfl]
    refine wpAny_bind (wpAny_pure (wpAny_bind (wpAny_functionCodeX e3 (C.code hP ht) (C.tab hP) nf fun c' h' tk x1 x2 x3 _ x5 x6 _ => ?_)))
    have g1 := hg.extBut x1 gP
    refine wpAny_bind (wpAny_builtinsFor g1 b1 b2 (x1 _ _ b4 b5) b6 b7 b8 (wpAny_bind (wpAny_nsGet g1 ?_)))
    exact wpAny_bind (wpAny_pure (wpAny_newObj_type (h c' .none h' tk x1 x2 x3 x5 x6.2) (by size_fits)))
  | cons q r =>
    rw [show ((q :: r).isEmpty) = false from rfl, if_neg Bool.false_ne_true]
    have kp : ∀ b o, s.heap.get? b = some o → (s.heap.push ({ cls := .type "tuple", data := .seq ((((q :: r).mergeSort fun a b => a.1.cps.toList ≤ b.1.cps.toList).map fun x => Value.ref x.2).toArray) } : Obj)).get? b = some o := fun b o e => Heap.get?_push_of_some _ e
    refine wpAny_bind (wpAny_newTextTuple (wpAny_bind (wpAny_functionCodeX e3 ((C.keeps kp).code (kp _ _ hP) ht) ((C.keeps kp).tab (kp _ _ hP)) nf fun c' h' tk x1 x2 x3 _ x5 x6 _ => ?_)))
    have g1 := (hg.push _).extBut x1 gP
    have y1 : Heap.ExtBut P s.heap h' := fun b o n e => x1 b o n (kp b o e)
    have y2 : s.heap.objs.size ≤ c' := Nat.le_trans (by rw [Heap.size_push]; omega) x2
    refine wpAny_bind (wpAny_builtinsFor g1 b1 b2 (y1 _ _ b4 b5) b6 b7 b8 (wpAny_bind (wpAny_nsGet g1 ?_)))
    exact wpAny_bind (wpAny_pure (wpAny_newObj_type (h c' _ h' tk y1 y2 x3 x5 x6.2) (by size_fits)))
theorem tail_hit {c' : Addr} (e1 : closureFor scope env = pure clos) (e2 : env.globals = mainGlobals) (hg : s.heap.Ns mainGlobals mg) (e3 : env.code = .ref c) (C : PySem.W.CodeHd s.heap c P) (hP : s.heap.get? P = some (PySem.W.tabObj ps)) (ht : TriplesOk ps.toList)
    (hf : codeAmong pos ps.toList = some (.ref c')) (hb : s.heap.BuiltinsAt mg P)
    (h : ∀ (ctv : Value) (h' : Heap) (tk : Tok), (∀ b o, s.heap.get? b = some o → h'.get? b = some o) → s.heap.objs.size ≤ h'.objs.size →
      Q (.ref h'.objs.size) { s with heap := h'.push (lamO ⟨nm, ql, params, [], scope, clos, c'⟩ body dv ((mg "__name__").getD .none) ctv), toks := tk }) :
    wpAny M A (makeTail nm ql params (.expr body) scope env dv .none none pos ln) Q E s := by
  obtain ⟨bm, ob, b1, b2, _, b4, b5, b6, b7, b8⟩ := hb
  unfold makeTail
  rw [e1, e2]
  refine wpAny_bind (wpAny_pure ?_)
  cases clos with
  | nil =>
    rw [show (([] : List (Str × Addr)).isEmpty) = true from rfl, if_pos rfl]
    refine wpAny_bind (wpAny_pure (wpAny_bind (wpAny_functionCode_hit e3 (C.code hP ht) hf ?_)))
    refine wpAny_bind (wpAny_builtinsFor hg b1 b2 b5 b6 b7 b8 (wpAny_bind (wpAny_nsGet hg ?_)))
    exact wpAny_bind (wpAny_pure (wpAny_newObj_type (h .none s.heap s.toks (fun _ _ e => e) (Nat.le_refl _)) (by size_fits)))
  | cons q r =>
    rw [show ((q :: r).isEmpty) = false from rfl, if_neg Bool.false_ne_true]
    have kp : ∀ b o, s.heap.get? b = some o → (s.heap.push ({ cls := .type "tuple", data := .seq ((((q :: r).mergeSort fun a b => a.1.cps.toList ≤ b.1.cps.toList).map fun x => Value.ref x.2).toArray) } : Obj)).get? b = some o := fun b o e => Heap.get?_push_of_some _ e
    refine wpAny_bind (wpAny_newTextTuple (wpAny_bind (wpAny_functionCode_hit e3 ((C.keeps kp).code (kp _ _ hP) ht) hf ?_)))
    refine wpAny_bind (wpAny_builtinsFor (hg.push _) b1 b2 (kp _ _ b5) b6 b7 b8 (wpAny_bind (wpAny_nsGet (hg.push _) ?_)))
    exact wpAny_bind (wpAny_pure (wpAny_newObj_type (h _ _ s.toks kp (by rw [Heap.size_push]; omega)) (by size_fits)))
end
/-- a lambda stands at f, ds its defaults -/
def LamAt (H : Hp) (f : Addr) (mk : Addr → NF) (body : Expr) (ds : List V) : Prop := ∃ (c' : Addr) (dv pm ctv : Value), H f = some (.frz (lamO (mk c') body dv pm ctv) (.own f)) ∧ H c' = some (CodeO c' (mk c').qual) ∧
  ((ds = [] ∧ dv = .none) ∨ ∃ d y, ds = [y] ∧ dv = .ref d ∧ H d = some (.tup [y]))
theorem LamAt.keep {H H' : Hp} {f : Addr} {mk : Addr → NF} {body : Expr} {ds : List V} (l : LamAt H f mk body ds) (kc : KeepC H H') : LamAt H' f mk body ds := by
  obtain ⟨c', dv, pm, ctv, h1, h2, h3⟩ := l
  refine ⟨c', dv, pm, ctv, kc.1 _ _ _ h1, ?_, ?_⟩
  · unfold CodeO at h2 ⊢
    exact kc.2.2 _ _ h2
  · rcases h3 with h3 | ⟨d, y, e1, e2, e3⟩
    · exact .inl h3
    · exact .inr ⟨d, y, e1, e2, kc.2.1 _ _ e3⟩
abbrev mkLam (X : Cx) (params : Arguments) (scope : Scope) : Addr → NF := fun c' => ⟨"<lambda>", X.env.qual ++ "<lambda>", params, [], scope, cloFrom X.env.cells scope.names [], c'⟩
section
variable {X : Cx} {pins : List (Addr × Obj)} {σ : L2.St} {H : Hp} {s : Shared}
/-- the function's object is new, and known from now on -/
theorem inv_lam {F : NF} {body : Expr} {dv pm ctv : Value} {t' : Nat} {o : Obj} (I : Inv X pins σ H s) (e : o = lamO F body dv pm ctv) :
    Inv X pins σ (upd H s.heap.objs.size (.frz (lamO F body dv pm ctv) (.own s.heap.objs.size))) { s with heap := s.heap.push o, toks := t' } := by
  subst e
  refine I.laid (a := s.heap.objs.size) (fun b u z => Heap.get?_push_of_some _ z) (Nat.le_refl _) ?_
  have z : (s.heap.push (lamO F body dv pm ctv)).get? s.heap.objs.size = some (lamO F body dv pm ctv) := Heap.get?_push_size _ rfl
  exact ⟨z, _, z⟩
theorem lam_tail {T : List (Addr × Str)} {c P : Addr} {params : Arguments} {body : Expr} {scope : Scope} {pos : Pos} {dv : Value} {E : Value → Shared → Prop} {Q : Value → Shared → Prop} (I : Inv X pins σ H s) (TB : TabB X.base X.mg c P) (hcode : X.env.code = .ref c)
    (hm : (P, X.env.qual ++ "<lambda>") ∈ T) (hu : ∀ p ∈ T, p.1 = P → p.2 = X.env.qual ++ "<lambda>") (hT : Tabs T H) (hfree : ∀ y ∈ scope.names, y.2 = .free → ∃ c, X.env.cells.lookup y.1 = some c)
    (h : ∀ (f c' : Addr) (pm ctv : Value) (H1 : Hp) (s' : Shared), Inv X pins σ H1 s' → ExtN H H1 → (∀ b, H1 b = Option.none → H b = Option.none) → Tabs T H1 → H f = none →
      H1 f = some (.frz (lamO (mkLam X params scope c') body dv pm ctv) (.own f)) → H1 c' = some (CodeO c' (X.env.qual ++ "<lambda>")) → Q (.ref f) s') :
    wpAny (model X.prog X.w) X.A (makeTail "<lambda>" (X.env.qual ++ "<lambda>") params (.expr body) scope X.env dv .none none pos pos.line) Q E s := by
  obtain ⟨ps, hP, ht, ha⟩ := hT _ hm
  have bP : s.heap.BuiltinsAt X.mg P := TB.bm.keeps I.bk
  have gtP : s.heap.get? P = some { cls := .none, data := .fields ps } := I.hok P _ hP
  cases hc : codeAmong pos ps.toList with
  | none =>
    refine tail_new (mg := X.mg) (c := c) (P := P) (ps := ps) (closure_ok hfree) I.ok.glob (I.mod.glob.keeps I.bk) hcode (TB.code.keeps I.bk) gtP ht hc TB.gP bP fun c' ctv h' tk hx hge hlt hrec htb => ?_
    obtain ⟨c2, oc, vs, t, z0, hoc, hd, hv⟩ := hrec
    cases z0
    have nC : H c' = none := I.hok.fresh hge
    have I1 := inv_table (t' := tk) (more := #[rawInt pos.line, rawInt pos.col, .ref c']) (h' := h') I hP (fun b o hb e => hx b o hb e) htb hge ⟨oc, vs, t, hoc, hd, hv⟩
    have eE : ExtN H (upd (upd H P (.tbl (ps ++ #[rawInt pos.line, rawInt pos.col, .ref c']))) c' (CodeO c' (X.env.qual ++ "<lambda>"))) := fun b o z n => by
      rw [upd_ne (ne_of_none z nC), upd_ne (fun y => n ps (Option.some.inj (z.symm.trans (by rw [y]; exact hP))))]
      exact z
    have eT : Tabs T (upd (upd H P (.tbl (ps ++ #[rawInt pos.line, rawInt pos.col, .ref c']))) c' (CodeO c' (X.env.qual ++ "<lambda>"))) := fun p hp => by
      by_cases hb : p.1 = P
      · rw [hu p hp hb, hb]
        have eL : (ps ++ #[rawInt pos.line, rawInt pos.col, .ref c']).toList = ps.toList ++ [rawInt pos.line, rawInt pos.col, .ref c'] := by simp
        refine ⟨_, by rw [upd_ne (ne_of_none hP nC), upd_same], by rw [eL]; exact PySem.TriplesOk_snoc _ _ _ _ ht, fun p' cv hcv => ?_⟩
        rw [eL] at hcv
        rcases among_app _ ht hcv with z | z
        · obtain ⟨c0, z1, z2⟩ := ha p' cv z
          exact ⟨c0, z1, eE _ _ z2 codeO_ne⟩
        · exact ⟨c', z, upd_same⟩
      · obtain ⟨ps', a1, a2, a3⟩ := hT p hp
        refine ⟨ps', by rw [upd_ne (ne_of_none a1 nC), upd_ne hb]; exact a1, a2, fun p' cv hcv => ?_⟩
        obtain ⟨c0, z1, z2⟩ := a3 p' cv hcv
        exact ⟨c0, z1, eE _ _ z2 codeO_ne⟩
    have nF := I1.hok.fresh (Nat.le_refl _)
    have I2 := inv_lam (F := mkLam X params scope c') (body := body) (dv := dv) (pm := (X.mg "__name__").getD .none) (ctv := ctv) (t' := tk) I1 rfl
    refine h h'.objs.size c' _ _ _ _ I2 (fun b o z n => ?_) (fun b z => upd_none (upd_none (upd_none z))) (eT.ext fun b o z => ?_) (I.hok.fresh (Nat.le_trans hge (Nat.le_of_lt hlt))) upd_same ?_
    · have z1 := eE b o z n
      exact (upd_ne (ne_of_none z1 nF)).trans z1
    · exact (upd_ne (ne_of_none z nF)).trans z
    · exact (upd_ne (Nat.ne_of_lt hlt)).trans upd_same
  | some cv =>
    obtain ⟨c', z0, hco⟩ := ha pos cv hc
    subst z0
    refine tail_hit (mg := X.mg) (c := c) (P := P) (ps := ps) (closure_ok hfree) I.ok.glob (I.mod.glob.keeps I.bk) hcode (TB.code.keeps I.bk) gtP ht hc bP fun ctv h' tk hx hsz => ?_
    have I1 : Inv X pins σ H { s with heap := h', toks := tk } := I.kept hx
    have nF : H h'.objs.size = none := I1.hok.fresh (Nat.le_refl _)
    have I2 := inv_lam (F := mkLam X params scope c') (body := body) (dv := dv) (pm := (X.mg "__name__").getD .none) (ctv := ctv) (t' := tk) I1 rfl
    refine h h'.objs.size c' _ _ _ _ I2 (fun b o z n => ?_) (fun b z => upd_none z) (hT.ext fun b o z => ?_) nF upd_same ?_
    · exact (upd_ne (ne_of_none z nF)).trans z
    · exact (upd_ne (ne_of_none z nF)).trans z
    · exact (upd_ne (ne_of_none hco nF)).trans hco
/-- a lambda, as a value -/
def tLamV (X : Cx) (T : List (Addr × Str)) (params : Arguments) (body : Expr) (scope : Scope) : TE := fun _ H Q => Tabs T H ∧
  ∀ f H1, ExtN H H1 → (∀ b, H1 b = Option.none → H b = Option.none) → Tabs T H1 → H f = none → LamAt H1 f (mkLam X params scope) body [] → Q (.ref f) H1
/-- .. with a default -/
def tLamD (T : List (Addr × Str)) (R : Hp → Addr → V → Prop) (te : TE) : TE := fun σ H Q => te σ H fun v H0 => Tabs T H0 ∧
  ∀ f H1, ExtN H0 H1 → (∀ b, H1 b = Option.none → H0 b = Option.none) → Tabs T H1 → H0 f = none → R H1 f v → Q (.ref f) H1
theorem pe_lamV {T : List (Addr × Str)} {c P : Addr} {params : Arguments} {body : Expr} {scope : Scope} {pos : Pos} (TB : TabB X.base X.mg c P) (hcode : X.env.code = .ref c) (hm : (P, X.env.qual ++ "<lambda>") ∈ T) (hu : ∀ p ∈ T, p.1 = P → p.2 = X.env.qual ++ "<lambda>")
    (hfree : ∀ y ∈ scope.names, y.2 = .free → X.env.scope.names.lookup y.1 = some .cell ∨ X.env.scope.names.lookup y.1 = some .free) (hdef : defaultsOf params X.env = ([], [])) :
    PE X (.Lambda params body scope pos) (tLamV X T params body scope) := by
  refine ⟨fun pins s σ H Q I h => ?_⟩
  obtain ⟨hT, h⟩ := h
  refine PySem.W.kla_eval hdef ?_
  rw [makeFunction_eq]
  simp only [List.zip_nil_right, List.filterMap_nil, List.isEmpty_nil, if_true, pure_bind]
  refine lam_tail I TB hcode hm hu hT (fun y hy e => (hfree y hy e).elim (fun z => I.ok.has _ (.inl z)) fun z => I.ok.has _ (.inr z)) fun f c' pm ctv H1 s' I1 eN nn T1 f0 f1 c1 => ?_
  exact ⟨.ref f, H1, I1, rfl, h f H1 eN nn T1 f0 ⟨c', .none, pm, ctv, f1, c1, .inl ⟨rfl, rfl⟩⟩⟩
theorem pe_lamD {T : List (Addr × Str)} {c P : Addr} {params : Arguments} {body e : Expr} {scope : Scope} {pos : Pos} {te : TE} (TB : TabB X.base X.mg c P) (hcode : X.env.code = .ref c) (hm : (P, X.env.qual ++ "<lambda>") ∈ T) (hu : ∀ p ∈ T, p.1 = P → p.2 = X.env.qual ++ "<lambda>")
    (hfree : ∀ y ∈ scope.names, y.2 = .free → X.env.scope.names.lookup y.1 = some .cell ∨ X.env.scope.names.lookup y.1 = some .free) (hdef : defaultsOf params X.env = ([eval e X.env], [])) (he : PE X e te)
    {R : Hp → Addr → V → Prop} (hR : ∀ (v : V) (f : Addr) (H1 : Hp), LamAt H1 f (mkLam X params scope) body [v] → R H1 f v) :
    PE X (.Lambda params body scope pos) (tLamD T R te) := by
  refine ⟨fun pins s σ H Q I h => ?_⟩
  rw [arm_eval_Lambda, hdef]
  show wpAny _ _ (do let dv ← evalAll [eval e X.env]; let kdv ← holding dv (evalAllOpt []); makeFunction "<lambda>" (X.env.qual ++ "<lambda>") params (.expr body) scope X.env dv kdv [] pos pos.line) _ _ _
  unfold evalAll
  refine wpAny_bind (wpAny_bind (thn (he.run pins s σ H _ I h) fun u s1 ⟨v, H0, I0, r, hT, h⟩ => wpAny_bind (wpAny_holding ?_)))
  unfold evalAll
  refine wpAny_pure (wpAny_pure (wpAny_bind (wpAny_holding ?_)))
  unfold evalAllOpt
  refine wpAny_pure ?_
  rw [makeFunction_eq]
  simp only [List.zip_nil_right, List.filterMap_nil, List.isEmpty_nil, List.isEmpty_cons, if_true, Bool.false_eq_true, if_false, pure_bind]
  refine wpAny_bind (wpAny_newTextTuple ?_)
  have nD : H0 s1.heap.objs.size = none := I0.hok.fresh (Nat.le_refl _)
  have I1 : Inv X pins σ (upd H0 s1.heap.objs.size (.tup [v])) { s1 with heap := s1.heap.push { cls := .type "tuple", data := .seq [u].toArray } } := I0.laid (t' := s1.toks) (fun b o z => Heap.get?_push_of_some _ z) (Nat.le_refl _)
    ⟨by show 1 ≤ sizeLine; rw [sizeLine_eq]; decide, [u], .cons r .nil, ⟨_, Heap.get?_push_size _ rfl, rfl, _, rfl⟩⟩
  have T1 : Tabs T (upd H0 s1.heap.objs.size (.tup [v])) := hT.ext fun b o z => (upd_ne (ne_of_none z nD)).trans z
  refine lam_tail I1 TB hcode hm hu T1 (fun y hy e => (hfree y hy e).elim (fun z => I.ok.has _ (.inl z)) fun z => I.ok.has _ (.inr z)) fun f c' pm ctv H1 s' I2 eN nn T2 f0 f1 c1 => ?_
  refine ⟨.ref f, H1, I2, rfl, h f H1 (fun b o z n => eN b o ((upd_ne (ne_of_none z nD)).trans z) n) (fun b z => upd_none (nn b z)) T2 (upd_none f0) (hR _ _ _ ⟨c', _, pm, ctv, f1, c1, .inr ⟨s1.heap.objs.size, v, rfl, rfl, eN _ _ upd_same fun q z => by cases z⟩⟩)⟩
end
end TH

set_option Elab.async false
set_option maxRecDepth 100000
set_option maxHeartbeats 4000000
namespace TH
open PySem PySem.Spec PyProof.Rows L2 LamX NdefX
/-! ### the running frame's cells -/
/-- cs: the cells of X's frame, as they stand -/
def Opened (X : Cx) (σ : L2.St) (H : Hp) (cs : List (Addr × Obj)) : Prop := ∃ (pins : List (Addr × Obj)) (s : Shared), Inv X pins σ H s ∧ ∀ b o, cs.lookup b = some o ↔ ((∃ x, X.env.cells.lookup x = some b) ∧ s.heap.get? b = some o)
theorem lookup_mem {l : List (Addr × Obj)} {b : Addr} {o : Obj} (h : l.lookup b = some o) : (b, o) ∈ l := by
  induction l with
  | nil => cases h
  | cons p r ih =>
    obtain ⟨k, v⟩ := p
    rw [List.lookup_cons] at h
    cases e : b == k with
    | true =>
      rw [e] at h
      have e2 : b = k := by simpa using e
      rw [e2, ← Option.some.inj h]
      exact List.mem_cons_self
    | false =>
      rw [e] at h
      exact List.mem_cons_of_mem _ (ih h)
theorem lookup_has {l : List (Addr × Obj)} {b : Addr} {o : Obj} (h : (b, o) ∈ l) : ∃ o', l.lookup b = some o' := by
  induction l with
  | nil => cases h
  | cons p r ih =>
    obtain ⟨k, v⟩ := p
    rw [List.lookup_cons]
    cases e : b == k with
    | true => exact ⟨v, rfl⟩
    | false =>
      rcases List.mem_cons.mp h with z | z
      · injection z with z1 z2
        rw [z1, beq_self_eq_true] at e
        cases e
      · exact ih z
def cellsOf (cells : List (Str × Addr)) (h : Heap) : List (Addr × Obj) := cells.filterMap fun p => if cells.lookup p.1 = some p.2 then (h.get? p.2).map fun o => (p.2, o) else none
theorem cellsOf_iff {cells : List (Str × Addr)} {h : Heap} (b : Addr) (o : Obj) : (cellsOf cells h).lookup b = some o ↔ ((∃ x, cells.lookup x = some b) ∧ h.get? b = some o) := by
  have m1 : ∀ {b o}, (b, o) ∈ cellsOf cells h → (∃ x, cells.lookup x = some b) ∧ h.get? b = some o := fun {b o} hm => by
    obtain ⟨p, hp, hq⟩ := List.mem_filterMap.mp hm
    by_cases e : cells.lookup p.1 = some p.2
    · rw [if_pos e] at hq
      cases e2 : h.get? p.2 with
      | none => rw [e2] at hq; cases hq
      | some o' =>
        rw [e2] at hq
        injection (Option.some.inj hq) with z1 z2
        subst z1 z2
        exact ⟨⟨p.1, e⟩, e2⟩
    · rw [if_neg e] at hq
      cases hq
  refine ⟨fun e => m1 (lookup_mem e), fun ⟨⟨x, e⟩, g⟩ => ?_⟩
  have hm : (b, o) ∈ cellsOf cells h := List.mem_filterMap.mpr ⟨(x, b), PySem.mem_of_lookup e, by rw [if_pos e, g]; rfl⟩
  obtain ⟨o', e'⟩ := lookup_has hm
  have g' := (m1 (lookup_mem e')).2
  rw [g] at g'
  cases g'
  exact e'
section
variable {X : Cx} {pins : List (Addr × Obj)} {σ : L2.St} {H : Hp} {s : Shared} {cs : List (Addr × Obj)}
theorem csAt_cells (I : Inv X pins σ H s) (e : ∀ b o, cs.lookup b = some o ↔ ((∃ x, X.env.cells.lookup x = some b) ∧ s.heap.get? b = some o)) : CsAt cs H s.heap := fun b o q => by
  obtain ⟨⟨x, hx⟩, g⟩ := (e b o).mp q
  exact ⟨g, I.freeC x b hx⟩
theorem Opened.at (O : Opened X σ H cs) {b : Addr} {u : HO} (e : H b = some u) : addC cs H b = some u := by
  obtain ⟨pins, s, I, h⟩ := O
  rw [addC_out (out_some (csAt_cells I h) e)]
  exact e
theorem Opened.keepC (O : Opened X σ H cs) : KeepC H (addC cs H) := .of fun _ _ e _ => O.at e
/-- the cells are above all that stood at the frame's entry -/
theorem cells_above (I : Inv X pins σ H s) (hfn : ∀ x, X.fn x = true) {x : Str} {c : Addr} (e : X.env.cells.lookup x = some c) : X.s_0.heap.objs.size ≤ c := I.ok.cab x c (hfn x) e
theorem cells_nostk (I : Inv X pins σ H s) (hfn : ∀ x, X.fn x = true) {x : Str} {c : Addr} (e : X.env.cells.lookup x = some c) : c ∉ frs X.stack := fun hm => by
  rcases List.mem_cons.mp (I.stkSub c hm) with z | z
  · exact I.cne x c e z
  · obtain ⟨_, o, ho, _⟩ := I.ok.funs.mem z
    exact absurd (Nat.lt_of_lt_of_le (Heap.lt_size ho) (cells_above I hfn e)) (Nat.lt_irrefl _)
theorem env0_add (I : Inv X pins σ H s) (hfn : ∀ x, X.fn x = true) (e : ∀ b o, cs.lookup b = some o ↔ ((∃ x, X.env.cells.lookup x = some b) ∧ s.heap.get? b = some o)) : Env0 X.prog X.w X.K X.mg X.base X.A X.stack s (addC cs H) := by
  have E := I.env0
  have ca := csAt_cells I e
  refine ⟨E.frames, E.mod, fun b o hb => ⟨(E.bs b o hb).1, ?_⟩, E.bsz, E.funs, fun b hb => ?_, hok_add E.hok ca, E.bare⟩
  · cases q : cs.lookup b with
    | none => rw [addC_out q]; exact (E.bs b o hb).2
    | some o' =>
      obtain ⟨⟨x, hx⟩, _⟩ := (e b o').mp q
      have h1 := cells_above I hfn hx
      have h2 := Heap.lt_size hb
      have h3 := I.ok.bsz
      exact absurd (Nat.lt_of_lt_of_le h2 (Nat.le_trans h3 h1)) (Nat.lt_irrefl _)
  · cases q : cs.lookup b with
    | none => rw [addC_out q]; exact E.frf b hb
    | some o' =>
      obtain ⟨⟨x, hx⟩, _⟩ := (e b o').mp q
      exact absurd hb (cells_nostk I hfn hx)
theorem opened_of (I : Inv X pins σ H s) : Opened X σ H (cellsOf X.env.cells s.heap) := ⟨pins, s, I, cellsOf_iff⟩
/-- g(..), g told of the frame's cells -/
def tCallC (X : Cx) (sp : Sp) (dvs : List V) (E : XK) (t : TA) : TE := fun σ H Q => t σ H fun vs H1 => ∀ cs, Opened X σ H1 cs → sp (vs ++ dvs) (addC cs H1) (fun v H2 => CsIn cs H2 → Q v (subC cs H2)) E
theorem pe_callC {k : Nat} {f : Addr} {fd : FuncData} {ps : List Str} {sp : Sp} {dvs : List V} {ds : List Value} {E : XK} {x : Str} {p pos : Pos} {e : Expr} {es : List Expr} {t : TA} (F : FnOk X.prog X.w X.K X.mg X.base C8.CX0 k f fd ps sp) (hr : Room k X.A) (hg : Gl X x) (hm : X.mg x = some (.ref f)) (hk : PySem.W.keepIn X.K (.ref f) = true)
    (hb : Binds X.K fd ps ds) (hd : Vals dvs ds) (hfn : ∀ x, X.fn x = true) (ha : PA X (e :: es) t) (hdb : (x == ("__debug__" : Str)) = false := by decide)
    (he : starEach (e :: es) X.env = (false, eval e X.env) :: starEach es X.env := by rfl) (hpl : (backTo pos (starEach es X.env)).any (·.1) = false := by rfl) :
    PE X (.Call (.Name x p) (e :: es) [] pos) (tCallC X sp dvs E t) := by
  refine ⟨fun pins s σ H Q I h => ?_⟩
  refine wpAny_Call_Name_kw (ld_glob I hg hm ?_ hdb)
  refine PySem.W.callWith_K (h₀ := X.base) I.ok.mod.kin hk (thn (ha.run pos pins s σ H _ I h) fun us s1 ⟨vs, H1, I1, r, q⟩ => ⟨I1.kIn, ?_⟩) he hpl
  have r2 : Vals (vs ++ dvs) (us ++ ds) := r.append hd
  have q := q _ (opened_of I1)
  have hl : (us ++ ds).length = ps.length := by rw [← r2.length]; exact F.len _ _ _ _ q
  show wpAny _ _ (call (.ref f) us) _ _ _
  refine wpAny_call (codeAny_mono (F.run X.A X.stack s1 _ ⟨us, []⟩ (us ++ ds) (vs ++ dvs) _ E hr (env0_add I1 hfn cellsOf_iff) (hb s1 us I1.kIn hl) r2 q) fun r s' hq => ?_)
  cases r with
  | error e => exact False.elim hq
  | ok fl =>
    cases fl with
    | ret u =>
      obtain ⟨v, H', os, bare, un, hok, rv, q⟩ := hq
      have ci := csIn_of un
      exact I1.after ⟨v, _, os, bare, un_add un (csAt_cells I1 cellsOf_iff) hok, hok_sub hok ci, rv, q ci⟩
    | next => exact False.elim hq
    | brk => exact False.elim hq
    | cont => exact False.elim hq
end
/-! ### a lambda of the frame X, its body read -/
structure Lamb (X : Cx) (k : Nat) (H : Hp) (f : Addr) (N : List Str) (js : List Nat) (ds : List V) (tb : XK → TE) : Prop where
  ex : ∃ (params : Arguments) (scope : Scope) (body : Expr) (ps fr : List Str), LamAt H f (mkLam X params scope) body ds ∧ NScope N ps fr scope ∧ ds.length = ps.length ∧
    (X.Ok → Caps X (cloFrom X.env.cells scope.names []) fr js) ∧
    (∀ (c' : Addr) (dv pm ctv : Value) (s : Shared) (us : List Value), us.length = ps.length → ((ps = [] ∧ dv = .none) ∨ (ps ≠ [] ∧ ∃ d o n, dv = .ref d ∧ s.heap.get? d = some o ∧ o.data = .seq us.toArray n)) →
      BindsTo s (lamFd (mkLam X params scope c') body dv pm ctv) ⟨[], []⟩ (ps.zip us)) ∧
    ∀ (c' : Addr) (A : Around) (outer : List Env) (s : Shared) (H : Hp) (E : XK), Room k (A.deeper (envF (mkLam X params scope c') f s.heap.objs.size)) → PE (ncx (L2.CX X.prog X.w) X.prog X.w X.K X.mg X.base N (mkLam X params scope c') f A outer s H E) body (tb E)
theorem Lamb.keep {X : Cx} {k : Nat} {H H' : Hp} {f : Addr} {N : List Str} {js : List Nat} {ds : List V} {tb : XK → TE} (l : Lamb X k H f N js ds tb) (kc : KeepC H H') : Lamb X k H' f N js ds tb := by
  obtain ⟨params, scope, body, ps, fr, h1, h2⟩ := l.ex
  exact ⟨params, scope, body, ps, fr, h1.keep kc, h2⟩
def CsNone (cs : List (Addr × Obj)) (H : Hp) : Prop := ∀ b o, cs.lookup b = some o → H b = none
/-- what it does, called from wherever -/
theorem Lamb.thunk {X : Cx} {k : Nat} {H : Hp} {f : Addr} {N : List Str} {js : List Nat} {ds : List V} {tb : XK → TE} {σ : L2.St} {cs : List (Addr × Obj)} (l : Lamb X k H f N js ds tb) (O : Opened X σ H cs) :
    Thunk X.prog X.w X.K X.mg X.base (k + 1) (addC cs H) f (fun H1 Q E => CsIn cs H1 → tb (fun cls d H2 => CsNone cs H2 → E cls d (addC cs H2)) (startF N ds (js.map (slotAt σ))) (subC cs H1) (fun v H2 => CsNone cs H2 → Q v (addC cs H2))) := by
  obtain ⟨params, scope, body, ps, fr, L, S, hds, cp, hb, hbody⟩ := l.ex
  have OK := O.keepC
  obtain ⟨pins, s0, I, hcs⟩ := id O
  have C := cells_of I (cp I.ok)
  have L2 := L.keep OK
  obtain ⟨c', dv, pm, ctv, h1, h2, h3⟩ := L2
  have hc0 : CsIn cs (addC cs H) := csIn_add cs H
  refine ⟨⟨_, h1⟩, fun A outer s H1 Q E hr e0 kc q => ?_⟩
  have ci : CsIn cs H1 := fun b o e => kc.1 _ _ _ (hc0 b o e)
  have q := q ci
  have fo := (e0.hok f _ (kc.1 _ _ _ h1)).1
  have hcode : s.heap.CodeRec (.ref c') (mkLam X params scope c').qual := codeO_at e0.hok (by unfold CodeO at h2 ⊢; exact kc.2.2 _ _ h2)
  have lim : s.heap.NoLimit := e0.mod.nolimit.keeps fun b o e => (e0.bs b o e).1
  have ca : CsAt cs (subC cs H1) s.heap := csAt_sub e0.hok ci
  have nf : ∀ b o, cs.lookup b = some o → b ∉ frs outer := fun b o e hm => by
    have z := e0.frf b hm
    rw [ci b o e] at z
    cases z
  have e1 : Env0 X.prog X.w X.K X.mg X.base A outer s (subC cs H1) := by
    refine ⟨e0.frames, e0.mod, fun b o hb => ⟨(e0.bs b o hb).1, ?_⟩, e0.bsz, e0.funs, fun b hm => ?_, hok_sub e0.hok ci, e0.bare⟩
    · have z := (e0.bs b o hb).2
      rw [subC_out (out_none ci z)]
      exact z
    · have z := e0.frf b hm
      rw [subC_out (out_none ci z)]
      exact z
  have atc : ∀ y c, (cloFrom X.env.cells scope.names []).lookup y = some c → ∀ o, s0.heap.get? c = some o → cs.lookup c = some o := fun y c e o g => (hcs c o).mpr ⟨⟨y, (cp I.ok).sub y c e⟩, g⟩
  have C1 : CellsAt (cloFrom X.env.cells scope.names []) fr (js.map (slotAt σ)) s.heap (subC cs H1) := by
    refine ⟨C.len, fun y c e => ?_, C.inj, fun i y e => ?_⟩
    · obtain ⟨_, v, o, g, d⟩ := C.all y c e
      have z := atc y c e o g
      exact ⟨subC_in z, v, o, (ca c o z).1, d⟩
    · obtain ⟨c, hc, hv⟩ := C.has i y e
      refine ⟨c, hc, fun v ev => ?_⟩
      obtain ⟨u, r, o, g, d⟩ := hv v ev
      exact ⟨u, r, o, (ca c o (atc y c hc o g)).1, d⟩
  obtain ⟨us, ru, hbi⟩ : ∃ us : List Value, Vals ds us ∧ BindsTo s (lamFd (mkLam X params scope c') body dv pm ctv) ⟨[], []⟩ (ps.zip us) := by
    rcases h3 with ⟨z1, z2⟩ | ⟨d, y, z1, z2, z3⟩
    · subst z1
      refine ⟨[], .nil, hb c' dv pm ctv s [] ?_ (.inl ⟨?_, z2⟩)⟩
      · exact hds
      · exact List.length_eq_zero_iff.mp hds.symm
    · subst z1
      obtain ⟨_, its, rv, ob, g, _, n, hd⟩ := e0.hok d _ (kc.2.1 _ _ z3)
      refine ⟨its, rv, hb c' dv pm ctv s its (by rw [← rv.length]; exact hds) (.inr ⟨fun z => ?_, d, ob, n, z2, g, hd⟩)⟩
      rw [z] at hds
      have hds : (1 : Nat) = 0 := hds
      exact absurd hds (by decide)
  refine PySem.W.kla_callFunE hr.depth fo rfl S.co S.gen rfl hcode ?_
  refine hbi _ _ _ _ ?_
  refine wpAny_newFunctionEnv S.nocell (fun ⟨n, _⟩ hy => S.par n (List.of_mem_zip hy).1) (fun h₁ hns hsb => ⟨lim.fresh _ hsb, ?_⟩) S.kind
  show codeAny _ _ (.expr body (envF (mkLam X params scope c') f s.heap.objs.size)) _ _
  have kp : ∀ b o, s.heap.get? b = some o → h₁.get? b = some o := fun b o e => hsb.extBut b o (Nat.ne_of_lt (Heap.lt_size e)) (Heap.get?_push_of_some _ e)
  have J : Inv (ncx (L2.CX X.prog X.w) X.prog X.w X.K X.mg X.base N (mkLam X params scope c') f A outer s (subC cs H1) (fun cls d H2 => CsNone cs H2 → E cls d (addC cs H2))) [] (startF N ds (js.map (slotAt σ))) (subC cs H1) { s with heap := h₁, toks := s.toks + (ps.zip us).length } :=
    inv_startN S hr.hd e1 hds ru C1 hns kp
  have fin : ∀ e s', L2.CX X.prog X.w outer (subC cs H1) s (fun cls d H2 => CsNone cs H2 → E cls d (addC cs H2)) e s' → L2.CX X.prog X.w outer H1 s E e s' := fun e s' ⟨a, B, H', cls, d, z, fl, hok, ub, na, os, ag, hE⟩ => by
    have cb := csAt_ub ub ca nf
    refine ⟨a, B, addC cs H', cls, d, z, fl, hok_add hok cb, ub_sub ub ci, ?_, os, ag, hE fun b o e => (cb b o e).2⟩
    cases y : cs.lookup a with
    | none => rw [addC_out y]; exact na
    | some o =>
      have z1 := (cb a o y).1
      rw [fl.2.1] at z1
      cases z1
  refine PySem.W.kla_codeExpr (wpAny_mono ((hbody c' A outer s (subC cs H1) _ (hr.deeper _)).run [] _ _ (subC cs H1) _ J q) (fun v s' hq => ?_) fun e s' hq => ?_)
  · obtain ⟨w', H', J', rv, q⟩ := hq
    exact ⟨w', _, J'.os, J'.bare, un_sub J'.base ci, hok_add J'.hok (csAt_of J'.base ca nf), rv, q fun b o e => (csAt_of J'.base ca nf b o e).2⟩
  · exact wpAny_mono hq (fun _ s'' z => fin _ _ z) fun e' s'' z => fin _ _ z
end TH

set_option Elab.async false
set_option maxRecDepth 100000
set_option maxHeartbeats 4000000
namespace TH
open PySem PySem.Spec PyProof.Rows L2 LamX NdefX
section
variable {X : Cx}
/-- lambda: body, no parameters -/
def tLam0 (X : Cx) (k : Nat) (T : List (Addr × Str)) (N : List Str) (js : List Nat) (tb : XK → TE) : TE := fun _ H Q => Tabs T H ∧
  ∀ f H1, ExtN H H1 → (∀ b, H1 b = Option.none → H b = Option.none) → Tabs T H1 → H f = none → Lamb X k H1 f N js [] tb → Q (.ref f) H1
/-- lambda a=e: body -/
def tLam1 (X : Cx) (k : Nat) (T : List (Addr × Str)) (N : List Str) (js : List Nat) (te : TE) (tb : XK → TE) : TE := fun σ H Q => te σ H fun v H0 => Tabs T H0 ∧
  ∀ f H1, ExtN H0 H1 → (∀ b, H1 b = Option.none → H0 b = Option.none) → Tabs T H1 → H0 f = none → Lamb X k H1 f N js [v] tb → Q (.ref f) H1
theorem pe_lam0 {T : List (Addr × Str)} {c P : Addr} {k : Nat} {N : List Str} {js : List Nat} {tb : XK → TE} {params : Arguments} {body : Expr} {scope : Scope} {pos : Pos} (TB : TabB X.base X.mg c P) (hcode : X.env.code = .ref c) (hm : (P, X.env.qual ++ "<lambda>") ∈ T)
    (hu : ∀ p ∈ T, p.1 = P → p.2 = X.env.qual ++ "<lambda>") (S : NScope N [] N scope) (hfree : ndefB X.env.scope scope N = true) (hjs : js.map (fun j => X.N[j]?) = N.map some) (hdef : defaultsOf params X.env = ([], []))
    (hbind : ∀ (c' : Addr) (pm ctv : Value), bindArgs (lamFd (mkLam X params scope c') body .none pm ctv) ⟨[], []⟩ = pure [])
    (hbody : ∀ (f c' : Addr) (A : Around) (outer : List Env) (s : Shared) (H : Hp) (E : XK), Room k (A.deeper (envF (mkLam X params scope c') f s.heap.objs.size)) → PE (ncx (L2.CX X.prog X.w) X.prog X.w X.K X.mg X.base N (mkLam X params scope c') f A outer s H E) body (tb E)) :
    PE X (.Lambda params body scope pos) (tLam0 X k T N js tb) := by
  refine ⟨fun pins s σ H Q I h => (pe_lamV TB hcode hm hu (ndef_free hfree) hdef).run pins s σ H Q I ⟨h.1, fun f H1 eN nn T1 f0 L => h.2 f H1 eN nn T1 f0 ⟨params, scope, body, [], N, L, S, rfl, fun ok => Caps.made ok (ndef_free hfree) (ndef_fr hfree) hjs, ?_, hbody f⟩⟩⟩
  intro c' dv pm ctv s us hl z
  obtain rfl : us = [] := List.length_eq_zero_iff.mp hl
  rcases z with ⟨_, rfl⟩ | ⟨z, _⟩
  · exact .of_eq (hbind c' pm ctv)
  · exact absurd rfl z
theorem pe_lam1 {T : List (Addr × Str)} {c P : Addr} {k : Nat} {p : Str} {N fr : List Str} {js : List Nat} {te : TE} {tb : XK → TE} {params : Arguments} {body e : Expr} {scope : Scope} {pos : Pos} (TB : TabB X.base X.mg c P) (hcode : X.env.code = .ref c) (hm : (P, X.env.qual ++ "<lambda>") ∈ T)
    (hu : ∀ p ∈ T, p.1 = P → p.2 = X.env.qual ++ "<lambda>") (S : NScope N [p] fr scope) (hfree : ndefB X.env.scope scope fr = true) (hjs : js.map (fun j => X.N[j]?) = fr.map some) (hdef : defaultsOf params X.env = ([eval e X.env], []))
    (hbind : ∀ (c' d : Addr) (pm ctv : Value), ∃ k, bindArgs (lamFd (mkLam X params scope c') body (.ref d) pm ctv) ⟨[], []⟩ = seqItems? (.ref d) >>= k ∧ ∀ u, k (some #[u]) = pure [(p, u)]) (he : PE X e te)
    (hbody : ∀ (f c' : Addr) (A : Around) (outer : List Env) (s : Shared) (H : Hp) (E : XK), Room k (A.deeper (envF (mkLam X params scope c') f s.heap.objs.size)) → PE (ncx (L2.CX X.prog X.w) X.prog X.w X.K X.mg X.base N (mkLam X params scope c') f A outer s H E) body (tb E)) :
    PE X (.Lambda params body scope pos) (tLam1 X k T N js te tb) := by
  refine ⟨fun pins s σ H Q I h => (pe_lamD TB hcode hm hu (ndef_free hfree) hdef he (R := fun H1 f v => Lamb X k H1 f N js [v] tb) fun v f H1 L => ⟨params, scope, body, [p], fr, L, S, rfl, fun ok => Caps.made ok (ndef_free hfree) (ndef_fr hfree) hjs, ?_, hbody f⟩).run pins s σ H Q I h⟩
  intro c' dv pm ctv s us hl z
  rcases z with ⟨z, _⟩ | ⟨_, d, o, n, rfl, g, hd⟩
  · cases z
  · obtain ⟨k, e1, e2⟩ := hbind c' d pm ctv
    match us, hl with
    | [u], _ => exact BindsTo.of_defaults rfl g hd e1 (e2 u)
end
/-- a(), its reading in plain letters -/
def tThunk (P : Program) (w : World) (K : PySem.W.Frag) (mg : Str → Option Value) (base : Heap) (k i : Nat) (W : WX) : TE := fun σ H Q => ∃ f T Eb, σ[i]? = some (some (.ref f)) ∧ Thunk P w K mg base k H f T ∧ T H Q Eb ∧ ∀ cls d H', Eb cls d H' → W cls d σ H'
theorem pe_thunkE {X : Cx} {W : WX} {P : Program} {w : World} {K : PySem.W.Frag} {mg : Str → Option Value} {base : Heap} {i k : Nat} {a : Str} {p1 p2 : Pos} (tk : Takes X W) (hr : Room k X.A) (hN : X.N[i]? = some a) (hv : Vis X.env.scope a) (hd : (a == ("__debug__" : Str)) = false := by decide) (hcd : (a == ("__classdict__" : Str)) = false := by decide)
    (h1 : X.prog = P := by rfl) (h2 : X.w = w := by rfl) (h3 : X.K = K := by rfl) (h4 : X.mg = mg := by rfl) (h5 : X.base = base := by rfl) : PE X (.Call (.Name a p1) [] [] p2) (tThunk P w K mg base k i W) := by
  subst h1 h2 h3 h4 h5
  exact pe_thunk tk hr hN hv hd hcd
end TH

set_option Elab.async false
set_option linter.all false
set_option maxRecDepth 100000
set_option maxHeartbeats 4000000
/-! g(lambda: ..) within a comprehension's block -/
namespace TH
open PySem PySem.Spec PyProof.Rows L2 LamX NdefX
section
variable {X : Cx} {pins : List (Addr × Obj)} {σ : L2.St} {H : Hp} {s : Shared} {cs : List (Addr × Obj)}
/-- the cells stand above the base and are no frames -/
def CellsUp (X : Cx) : Prop := ∀ x c, X.env.cells.lookup x = some c → X.base.objs.size ≤ c ∧ c ∉ frs X.stack
theorem env0_up (I : Inv X pins σ H s) (hcl : CellsUp X) (e : ∀ b o, cs.lookup b = some o ↔ ((∃ x, X.env.cells.lookup x = some b) ∧ s.heap.get? b = some o)) : Env0 X.prog X.w X.K X.mg X.base X.A X.stack s (addC cs H) := by
  have E := I.env0
  have out : ∀ b, (X.base.get? b).isSome = true ∨ b ∈ frs X.stack → cs.lookup b = none := fun b hb => by
    cases q : cs.lookup b with
    | none => rfl
    | some o =>
      obtain ⟨⟨x, hx⟩, _⟩ := (e b o).mp q
      obtain ⟨h1, h2⟩ := hcl x b hx
      rcases hb with hb | hb
      · obtain ⟨o', e'⟩ := Option.isSome_iff_exists.mp hb
        exact absurd (Nat.lt_of_lt_of_le (Heap.lt_size e') h1) (Nat.lt_irrefl _)
      · exact absurd hb h2
  refine ⟨E.frames, E.mod, fun b o hb => ⟨(E.bs b o hb).1, ?_⟩, E.bsz, E.funs, fun b hb => ?_, hok_add E.hok (csAt_cells I e), E.bare⟩
  · rw [addC_out (out b (.inl (by rw [hb]; rfl)))]
    exact (E.bs b o hb).2
  · rw [addC_out (out b (.inr hb))]
    exact E.frf b hb
theorem pe_callV {k : Nat} {f : Addr} {fd : FuncData} {ps : List Str} {sp : Sp} {dvs : List V} {ds : List Value} {E : XK} {x : Str} {p pos : Pos} {e : Expr} {es : List Expr} {t : TA} (F : FnOk X.prog X.w X.K X.mg X.base C8.CX0 k f fd ps sp) (hr : Room k X.A) (hg : Gl X x) (hm : X.mg x = some (.ref f)) (hk : PySem.W.keepIn X.K (.ref f) = true)
    (hb : Binds X.K fd ps ds) (hd : Vals dvs ds) (hcl : CellsUp X) (ha : PA X (e :: es) t) (hdb : (x == ("__debug__" : Str)) = false := by decide)
    (he : starEach (e :: es) X.env = (false, eval e X.env) :: starEach es X.env := by rfl) (hpl : (backTo pos (starEach es X.env)).any (·.1) = false := by rfl) :
    PE X (.Call (.Name x p) (e :: es) [] pos) (tCallC X sp dvs E t) := by
  refine ⟨fun pins s σ H Q I h => ?_⟩
  refine wpAny_Call_Name_kw (ld_glob I hg hm ?_ hdb)
  refine PySem.W.callWith_K (h₀ := X.base) I.ok.mod.kin hk (thn (ha.run pos pins s σ H _ I h) fun us s1 ⟨vs, H1, I1, r, q⟩ => ⟨I1.kIn, ?_⟩) he hpl
  have r2 : Vals (vs ++ dvs) (us ++ ds) := r.append hd
  have q := q _ (opened_of I1)
  have hl : (us ++ ds).length = ps.length := by rw [← r2.length]; exact F.len _ _ _ _ q
  show wpAny _ _ (call (.ref f) us) _ _ _
  refine wpAny_call (codeAny_mono (F.run X.A X.stack s1 _ ⟨us, []⟩ (us ++ ds) (vs ++ dvs) _ E hr (env0_up I1 hcl cellsOf_iff) (hb s1 us I1.kIn hl) r2 q) fun r s' hq => ?_)
  match r, hq with
  | .error _, hq => exact hq.elim
  | .ok .next, hq => exact hq.elim
  | .ok .brk, hq => exact hq.elim
  | .ok .cont, hq => exact hq.elim
  | .ok (.ret _), ⟨v, H', os, bare, un, hok, rv, q⟩ =>
    have ci := csIn_of un
    exact I1.after ⟨v, subC _ H', os, bare, un_add un (csAt_cells I1 cellsOf_iff) hok, hok_sub hok ci, rv, q ci⟩
end
end TH

set_option Elab.async false
set_option maxRecDepth 100000
set_option maxHeartbeats 4000000
/-! a pair the other way about: t[::-1] -/
namespace RV
open PySem PySem.Spec PyProof.Rows L2
section
variable {prog : Program} {w : World} {A : Around} {E : Value → Shared → Prop} {s : Shared}
theorem back2 {sl : Addr} {vl vu vs : Value} {Q : Int × Int × Nat → Shared → Prop} (hs : s.heap.IsSliceOf sl vl vu vs) (pl : IsPart vl none) (pu : IsPart vu none) (ps : IsPart vs (some (-1)))
    (q : Q (1, -1, 2) s) : wpAny (model prog w) A (Builtin.Slice.sliceApplied (.ref sl) (pure 2)) Q E s := by
  obtain ⟨o, e1, e2, e3⟩ := id hs
  (unfold Builtin.Slice.sliceApplied; unfold Builtin.Slice.sliceFields)
  refine wpAny_bind (wpAny_bind (wpAny_field e1 e3 (x := vl) rfl (wpAny_bind (wpAny_field e1 e3 (x := vu) rfl (wpAny_bind (wpAny_field e1 e3 (x := vs) rfl (wpAny_pure (wpAny_bind (HT.slicePart_ ps ?_)))))))))
  show wpAny _ _ (if ((-1 : Int) == 0) = true then _ else _) _ _ s
  rw [if_neg (show ¬ ((-1 : Int) == 0) = true by decide)]
  refine wpAny_bind (HT.slicePart_ pl (wpAny_bind (HT.slicePart_ pu (wpAny_bind (wpAny_pure ?_)))))
  exact wpAny_pure q
theorem turned2 {t sl : Addr} {x y vl vu vs : Value} {Q : Value → Shared → Prop} (ht : IsTup s.heap t #[x, y]) (hs : s.heap.IsSliceOf sl vl vu vs) (pl : IsPart vl none) (pu : IsPart vu none) (ps : IsPart vs (some (-1)))
    (q : Q (.ref s.heap.objs.size) { s with heap := s.heap.push { cls := .type "tuple", data := .seq #[y, x] } }) : wpAny (model prog w) A (getItem (.ref t) (.ref sl)) Q E s := by
  have two : sizeOk (.seq #[y, x]) := by
    show (#[y, x] : Array Value).size ≤ sizeLine
    exact (by decide : 2 ≤ sizeLine)
  obtain ⟨o, e1, e2, e3⟩ := id hs
  have isSl : s.TypeIs (.ref sl) "slice" := ⟨o, e1, e2⟩
  (unfold getItem; try (with_reducible refine wpAny_holding ?_)); (first | refine wpAny_bind (wpAny_pure ?_) | skip)
  refine wpAny_bind (wpAny_sequenceKey ht.typeIs (by decide) (wpAny_bind (wpAny_callSpecial?_slot (name := Str.ofString "__getitem__") ht.typeIs PyProof.Rows.slot_tuple_getitem (wpAny_call_entry PyProof.Rows.slot_tuple_getitem ht.typeIs entry_tuple_getitem ?_ (args_tuple_getitem _ _)))))
  refine wpAny_bind (m := Builtin.Tuple.tupleItemsOf (.ref t)) (tupleItemsOf_ ht (wpAny_bind (wpAny_typeOf isSl ?_)))
  rw [if_pos (show (Value.type "slice" == Value.type "slice") = true by decide)]
  refine wpAny_bind (back2 hs pl pu ps ?_)
  show wpAny _ _ (if ((1 : Int) == 0 && (-1 : Int) == 1 && (2 : Nat) == 2) = true then _ else _) _ _ s
  rw [if_neg (show ¬ ((1 : Int) == 0 && (-1 : Int) == 1 && (2 : Nat) == 2) = true by decide)]
  show wpAny _ _ (Builtin.Tuple.tupleExact #[y, x] >>= _) _ _ s
  first
    | exact wpAny_bind (wpAny_newObj_type (wpAny_pure ⟨_, rfl, wpAny_pure q⟩) two)
    | exact wpAny_bind (wpAny_newObj_type (wpAny_bind (wpAny_pure (wpAny_pure ⟨_, rfl, wpAny_pure q⟩))) two)
end
end RV
namespace L2
open PySem PySem.Spec PyProof.Rows
section
variable {X : Cx}
/-- t[::-1], t a pair -/
def tRevP (K : PySem.W.Frag) (te : TE) : TE := fun σ H Q => te σ H fun x H1 => ∃ a u v, x = .ref a ∧ SqT K H1 a [u, v] ∧ ∀ p, H1 p = none → Q (.ref p) (upd H1 p (.tup [v, u]))
theorem pe_revP {K : PySem.W.Frag} {e : Expr} {te : TE} {k : Nat} {p1 p2 p3 pos : Pos} (he : PE X e te) (hK : X.K = K := by rfl) :
    PE X (.Subscript e (.Slice none none (some (.UnaryOp .USub (.Constant (.int 1) k p1) p2)) p3) pos) (tRevP K te) := by
  subst hK
  refine ⟨fun pins s σ H Q I h => Subscript_ (thn (he.run pins s σ H _ I h) fun v0 s1 ⟨x, H1, I1, r1, z⟩ => ?_)⟩
  obtain ⟨a, u, v, ex, hx, q⟩ := z
  subst ex
  cases r1
  have hm : PO X (some (.UnaryOp .USub (.Constant (.int 1) k p1) p2)) (tPart (tUn (rU fun i => .int (-i)) (tC (.int 1)))) := po_some (pe_un un_neg pe_int)
  refine wpAny_Slice (thn (po_none.run pins s1 σ H1 (fun o H2 => o = none ∧ H2 = H1) I1 ⟨rfl, rfl⟩) fun vl s2 ⟨l, H2, I2, pl, ea, eb⟩ => ?_)
  subst ea eb
  refine thn (po_none.run pins s2 σ H2 (fun o H3 => o = none ∧ H3 = H2) I2 ⟨rfl, rfl⟩) fun vu s3 ⟨o3, H3, I3, pu, ea, eb⟩ => ?_
  subst ea eb
  refine thn (hm.run pins s3 σ H3 (fun o H4 => o = some (-1) ∧ H4 = H3) I3 ⟨1, rfl, -1, rfl, rfl, rfl⟩) fun vs s4 ⟨o, H4, I4, ps, ea, eb⟩ => ?_
  subst ea eb
  have J : Inv X pins σ H4 { s4 with heap := s4.heap.push { cls := .type "slice", data := .fields #[vl, vu, vs] } } := I4.kept (t' := s4.toks) fun b ob c => Heap.get?_push_of_some _ c
  obtain ⟨its, r, ht, hz⟩ := J.tuple hx
  obtain ⟨u1, v1, rfl, ru, rv⟩ := vals2 r
  show wpAny _ X.A (subscriptTail e (.Slice none none (some (.UnaryOp .USub (.Constant (.int 1) k p1) p2)) p3) (.ref a) (.ref s4.heap.objs.size)) _ X.xe _
  refine tail_any (ops := [.ref a, .ref s4.heap.objs.size]) ht.typeIs PyProof.Rows.slot_tuple_getitem.lookup ?_ (by with_unfolding_all rfl)
  refine RV.turned2 ht (Heap.IsSliceOf.new _ vl vu vs) pl pu ps ?_
  exact ⟨.ref _, _, J.laid (t' := s4.toks) (o := .tup [v, u]) (fun b ob c => Heap.get?_push_of_some _ c) (Nat.le_refl _) ⟨(by decide : 2 ≤ sizeLine), [v1, u1], .cons rv (.cons ru .nil), IsTup.new _ _⟩, rfl, q _ (J.hok.fresh (Nat.le_refl _))⟩
end
end L2

set_option Elab.async false
set_option maxRecDepth 100000
set_option maxHeartbeats 4000000
/-! a != b, two dicts that are equal, or None twice -/
namespace L2
open PySem PySem.Spec PyProof.Rows
def AlikeV (K : PySem.W.Frag) (H : Hp) (x u : V) : Prop := ∃ d e, Dp K H x d ∧ Dp K H u e ∧ SeqAt.shaped d = true ∧ SeqAt.shaped e = true ∧ PyData.eqv d e = true
def rNeSame (K : PySem.W.Frag) : R2 := fun x y H Q => (x = .non ∧ y = .non ∧ Q (.bl false) H) ∨
  ∃ a b ks ls, x = .ref a ∧ y = .ref b ∧ H a = some (.dK ks) ∧ H b = some (.dK ls) ∧ ks.length = ls.length ∧ (∀ p ∈ ks, ∃ u, valV ls p.1 = some u ∧ AlikeV K H p.2 u) ∧ Q (.bl false) H
section
variable {X : Cx} {pins : List (Addr × Obj)} {σ : St} {H : Hp} {s : Shared}
theorem same_hits (I : Inv X pins σ H s) {A : Around} (hu : A.in1.units + 64 < cLine) {ls : List (Key × V)} {vb : List (Key × Value)} (rb : KV ls vb) {ks : List (Key × V)} {va : List (Key × Value)} (ra : KV ks va) :
    (∀ p ∈ ks, ∃ u, valV ls p.1 = some u ∧ AlikeV X.K H p.2 u) → PySem.W.KeqHits A.in1 s vb va true := by
  unfold KV at ra
  induction ra with
  | nil => exact fun _ => .nil
  | @cons p q ps qs h t ih =>
    intro all
    obtain ⟨u, e1, d, e, d1, d2, sd, se, ev⟩ := all p List.mem_cons_self
    have rr : RelO (some u) (valueAt vb p.1) := by rw [← e1]; exact rb.val p.1
    obtain ⟨y, hy, ry⟩ := rr.some_of
    obtain ⟨key, v⟩ := q
    obtain ⟨k1, k2⟩ := h
    have k1 : p.1 = key := k1
    rw [k1] at hy
    obtain ⟨as, r1⟩ := Dp.reads I d _ _ d1 k2
    obtain ⟨bs, r2⟩ := Dp.reads I e _ _ d2 ry
    have at1 := PySem.W.keq_at (A := A) r1 r2 sd se hu
    rw [ev] at at1
    exact .hit (b := true) hy at1 (ih fun p' m => all p' (List.mem_cons_of_mem _ m))
theorem op_neSame {K : PySem.W.Frag} (hu : X.A.units + 66 < cLine) (hK : X.K = K := by rfl) : OpR X (compareOp .NotEq) (rNeSame K) := by
  subst hK
  intro pins s σ H x y v u Q I rx ry h
  rcases h with ⟨rfl, rfl, q⟩ | ⟨a, b, ks, ls, rfl, rfl, ha, hb, hl, all, q⟩
  · exact op_ne pins s σ H .non .non v u Q I rx ry ⟨rfl, q⟩
  · obtain rfl : v = Value.ref a := rx
    obtain rfl : u = Value.ref b := ry
    obtain ⟨_, ya, va, ra, da⟩ := (show ObjOk X.prog X.w H s.heap a (.dK ks) from I.hok a _ ha)
    obtain ⟨_, yb, vb, rb, db⟩ := (show ObjOk X.prog X.w H s.heap b (.dK ls) from I.hok b _ hb)
    refine PySem.W.keq_ne (knd := mixKind X.prog X.w) (r := true) ya yb da db (by omega) (fun _ => same_hits I (A := X.A) (by show X.A.units + 1 + 64 < cLine; omega) rb ra all) ?_
    have e : va.length = vb.length := by rw [← ra.length, ← rb.length]; exact hl
    rw [show (!(va.length == vb.length && true)) = false by rw [e]; simp]
    exact ⟨.bl false, H, I, rfl, q⟩
end
end L2

set_option Elab.async false
namespace SX
open PySem PySem.Spec PyProof.Rows L2
variable {X : Cx} {K : PySem.W.Frag} {e : Expr} {es : List Expr} {te : TE} {t : TA} {p : Pos}
/-- *e ahead of more, in a comprehension too -/
theorem star (he : PE X e te) (hr : PA X es t) (hK : X.K = K := by rfl) (hs : starEach (.Starred e p :: es) X.env = (true, eval e X.env) :: starEach es X.env := by rfl) : PA X (.Starred e p :: es) (StX.tStar K te t) := by subst hK; exact StX.pa_star he hr hs
def rInDB (K : PySem.W.Frag) : R2 := fun x y H Q => ∃ d ds, Dp K H x d ∧ (Dp K H y (.list ds) ∨ Dp K H y (.tuple ds)) ∧ SeqAt.shaped d = true ∧ SeqAt.shaped (.list ds) = true ∧ Q (.bl (ds.any fun z => PyData.eqv z d)) H
/-- x in a list or a tuple, of data of any depth -/
theorem inDB (hu : X.A.units + 65 < cLine) (hK : X.K = K := by rfl) : OpR X (compareOp .In) (rInDB K) := by
  subst hK
  intro pins s σ H x y v u Q I rx ry h
  obtain ⟨d, ds, hd, he, sd, se, q⟩ := h
  obtain ⟨as, r1⟩ := Dp.reads I d x v hd rx
  rcases he with he | he
  · obtain ⟨bs, r2⟩ := Dp.reads I (.list ds) y u he ry
    exact SeqAt.in_list_reads r2 r1 (SeqAt.canLay_of_shaped se) (SeqAt.canLay_of_shaped sd) (room_in_shaped sd hu) ⟨.bl _, H, I, rfl, q⟩
  · obtain ⟨bs, r2⟩ := Dp.reads I (.tuple ds) y u he ry
    exact SeqAt.in_tuple_reads r2 r1 (SeqAt.canLay_of_shaped se) (SeqAt.canLay_of_shaped sd) (room_in_shaped sd hu) ⟨.bl _, H, I, rfl, q⟩
end SX

set_option Elab.async false
set_option maxRecDepth 100000
set_option maxHeartbeats 4000000
namespace K06
open PySem L2
def top (i : Nat) : Stmt := PySem.Challenge.pw_granary_k03_names_looked_up.main.body.getD i (.Pass ⟨0, 0, 0, 0⟩)
abbrev sStoreError : Stmt := top 1
abbrev sBadName : Stmt := top 2
abbrev sBadRow : Stmt := top 3
abbrev schecked : Stmt := top 6
abbrev schecktable : Stmt := top 7
abbrev scheckindex : Stmt := top 8
abbrev scheckthere : Stmt := top 9
abbrev schecknokey : Stmt := top 10
abbrev scheckput : Stmt := top 11
abbrev scheckedset : Stmt := top 12
abbrev scheckedstrike : Stmt := top 13
abbrev scheckedask : Stmt := top 14
abbrev scheckasked : Stmt := top 15
abbrev sfilledall : Stmt := top 16
abbrev sfilledwhere : Stmt := top 17
abbrev sfilled : Stmt := top 18
abbrev sfilledstart : Stmt := top 19
abbrev sfilledfield : Stmt := top 20
abbrev sonlytable : Stmt := top 21
abbrev sLmix : Stmt := top 23
abbrev sLnext : Stmt := top 24
abbrev sLalike : Stmt := top 25
abbrev sLshapes : Stmt := top 26
abbrev sLnumber : Stmt := top 27
abbrev sLterm : Stmt := top 28
abbrev sLcond : Stmt := top 29
abbrev sLsome : Stmt := top 30
abbrev sLask : Stmt := top 31
abbrev sLstatement : Stmt := top 32
abbrev sLword : Stmt := top 33
abbrev sLbare : Stmt := top 34
abbrev sLfirst : Stmt := top 35
abbrev sLdue : Stmt := top 36
abbrev sLleaves : Stmt := top 37
abbrev sLput : Stmt := top 38
abbrev sLbent : Stmt := top 39
abbrev sLknown : Stmt := top 40
abbrev slaw : Stmt := top 41

/-- what is drawn from: a number, the cells, a place -/
def HAt (H : Hp) (a b : Addr) : Prop := ∃ (z p : Int) (cs : List Int), H a = some (.lst [.int z, .ref b, .int p]) ∧ H b = some (.lst (cs.map V.int)) ∧ cs.length ≤ 63
def Keep (a b : Addr) (H H' : Hp) : Prop := ∀ x o, x ≠ a → x ≠ b → H x = some o → H' x = some o
theorem Keep.refl (a b : Addr) (H : Hp) : Keep a b H H := fun _ _ _ _ h => h
theorem Keep.trans {a b : Addr} {H H1 H2 : Hp} (p : Keep a b H H1) (q : Keep a b H1 H2) : Keep a b H H2 := fun x o h1 h2 h => q x o h1 h2 (p x o h1 h2 h)
theorem Keep.at1 {a b : Addr} {H : Hp} {o : HO} : Keep a b H (upd H a o) := fun x u h1 _ h => by rw [upd_ne h1]; exact h
theorem Keep.at2 {a b : Addr} {H : Hp} {o : HO} : Keep a b H (upd H b o) := fun x u _ h2 h => by rw [upd_ne h2]; exact h
theorem Keep.same {a b : Addr} {H H' : Hp} (s : Same H H') : Keep a b H H' := fun x o _ _ h => s x o h
theorem Same.new {H : Hp} {p : Addr} {o : HO} (hp : H p = none) : Same H (upd H p o) := fun b u e => by rw [upd_ne (ne_of_none e hp)]; exact e
theorem HAt.same {H H' : Hp} {a b : Addr} (B : HAt H a b) (s : Same H H') : HAt H' a b := by
  obtain ⟨z, p, cs, h1, h2, h3⟩ := B
  exact ⟨z, p, cs, s _ _ h1, s _ _ h2, h3⟩
theorem HAt.ne {H : Hp} {a b : Addr} (B : HAt H a b) {D : Addr} (hD : H D = none) : D ≠ a ∧ D ≠ b := by
  obtain ⟨z, p, cs, ha, hb, _⟩ := B
  exact ⟨fun e => (by rw [e, ha] at hD; cases hD), fun e => (by rw [e, hb] at hD; cases hD)⟩
theorem HAt.upd {H : Hp} {a b D : Addr} {o : HO} (B : HAt H a b) (n : D ≠ a ∧ D ≠ b) : HAt (upd H D o) a b := by
  obtain ⟨z, p, cs, ha, hb, hc⟩ := B
  exact ⟨z, p, cs, by rw [upd_ne n.1.symm]; exact ha, by rw [upd_ne n.2.symm]; exact hb, hc⟩
/-- all that is no list stays -/
def KeepN (H H' : Hp) : Prop := ∀ x o, (∀ ys, o ≠ .lst ys) → H x = some o → H' x = some o
theorem Keep.n {a b : Addr} {H H' : Hp} (B : HAt H a b) (k : Keep a b H H') : KeepN H H' := fun x o no h => by
  obtain ⟨z, p, cs, ha, hb, _⟩ := B
  exact k x o (fun e => by rw [e, ha] at h; cases h; exact no _ rfl) (fun e => by rw [e, hb] at h; cases h; exact no _ rfl) h
theorem KeepN.of {H H' : Hp} (s : Same H H') : KeepN H H' := fun x o _ h => s x o h
theorem KeepN.trans {H H1 H2 : Hp} (p : KeepN H H1) (q : KeepN H1 H2) : KeepN H H2 := fun x o no h => q x o no (p x o no h)
/-- what is no list stays where a list is changed -/
theorem KeepN.lst {H : Hp} {D : Addr} {xs ys : List V} (h : H D = some (.lst xs)) : KeepN H (upd H D (.lst ys)) := fun x o no e => by
  rw [upd_ne (ne_of e h (no _))]
  exact e
theorem sqT_mono {K : PySem.W.Frag} {H H' : Hp} {a : Addr} {xs : List V} (k : ∀ o, (∀ ys, o ≠ .lst ys) → H a = some o → H' a = some o) (h : SqT K H a xs) : SqT K H' a xs := by
  rcases h with (h | ⟨o, h⟩) | h
  · exact .inl (.inl (k _ (fun _ e => nomatch e) h))
  · exact .inl (.inr ⟨o, k _ (fun _ e => nomatch e) h⟩)
  · exact .inr h
theorem KeepN.t {K : PySem.W.Frag} {H H' : Hp} (k : KeepN H H') {a : Addr} {xs : List V} (h : SqT K H a xs) : SqT K H' a xs := sqT_mono (k a) h
theorem getI {ns : List Int} {i : Nat} {y : V} (h : (ns.map V.int)[i]? = some y) : ∃ z, ns[i]? = some z ∧ y = V.int z := by
  rw [List.getElem?_map] at h
  cases e : ns[i]? with
  | none => rw [e] at h; cases h
  | some u => rw [e] at h; exact ⟨u, rfl, (Option.some.inj h).symm⟩
theorem fmod_lt {x n : Int} (h : 0 < n) : 0 ≤ x.fmod n ∧ x.fmod n < n := ⟨Int.fmod_nonneg_of_pos x h, Int.fmod_lt_of_pos x h⟩
theorem ixN_of {n : Nat} {i : Int} (h0 : 0 ≤ i) (h1 : i < n) : ixN n i = some i.toNat := by
  unfold ixN
  rw [if_pos h0, if_pos h1]
theorem atI_of {α : Type} {xs : List α} {i : Int} {v : α} (h0 : 0 ≤ i) (h : xs[i.toNat]? = some v) : atI xs i = some v := by
  have e : ((i.toNat : Nat) : Int) = i := Int.toNat_of_nonneg h0
  rw [← e]
  exact atI_nat h
structure Txt (mg : Str → Option Value) : Prop where
  len : mg "len" = none
  range : mg "range" = none
  list : mg "list" = none
  tuple : mg "tuple" = none
  max : mg "max" = none
structure Cal (P : Program) (w : World) (K : PySem.W.Frag) (mg : Str → Option Value) (base : Heap) (k : Nat) (x : Str) (ps : List Str) (sp : Sp) (f : Addr) (fd : FuncData) : Prop where
  g : mg x = some (.ref f)
  kp : PySem.W.keepIn K (.ref f) = true
  b : Binds K fd ps []
  G : FnOk P w K mg base CX0 k f fd ps sp
def spMix (K : PySem.W.Frag) : Sp := fun vs H Q _ => ∃ (l : Addr) (ns : List Int) (sd : Int), vs = [.ref l, .int sd] ∧ SqL K H l (ns.map V.int) ∧ ns.length ≤ 63 ∧ ∀ (a b : Addr) (H' : Hp), H a = none → H b = none → HAt H' a b → Same H H' → Q (.ref a) H'
def spNext : Sp := fun vs H Q _ => ∃ (a b : Addr) (n : Int), vs = [.ref a, .int n] ∧ 0 < n ∧ n < 1000000 ∧ HAt H a b ∧ ∀ (r : Int) (H' : Hp), 0 ≤ r → r < n → HAt H' a b → Keep a b H H' → Q (.int r) H'
section
variable {P : Program} {w : World} {K : PySem.W.Frag} {mg : Str → Option Value} {base : Heap}
theorem scMix : FnScope ["_law_script", "_law_seed", "_law_mixed", "_law_cell"] ["_law_script", "_law_seed"] (defScope sLmix) := ⟨rfl, rfl, rfl, by decide +kernel, rfl, by decide +kernel, by decide +kernel⟩
theorem ok_mix {f : Addr} {fd : FuncData} (F : Fun K "_law_mix" "_law_mix" sLmix f fd) (T : Txt mg) : FnOk P w K mg base CX0 1 f fd ["_law_script", "_law_seed"] (spMix K) := by
  refine F.ok scMix (fun vs H Q E h => ?_) (fun cdv A outer s H vs Q E hr h => ?_)
  · obtain ⟨l, ns, sd, rfl, _⟩ := h
    rfl
  · obtain ⟨l, ns, sd, rfl, hS, hl, k⟩ := h
    refine ⟨_, (pss_cons (ps_set (i := 2) scMix.nd rfl (Or.inl rfl) (pv 1))
      (pss_cons (ps_for PassesOwn.never rfl (RK.piL (K := K) (pv 0)) (pg_name (i := 3) scMix.nd rfl (Or.inl rfl))
        (pss_one (ps_set (i := 2) scMix.nd rfl (Or.inl rfl) (pe_op op_mod (pe_op op_add (pe_op op_add (pe_op op_mul (pv 2) pe_int) (pe_op op_mod (pv 3) pe_int)) pe_int) pe_int))))
      (pss_one (ps_ret (pe_lst (pa_cons (pv 2) (pa_cons (pe_callTy (RK.listQ (K := K)) (by rfl) T.list (by decide +kernel) (pa_cons (pv 0) pa_nil)) (pa_cons pe_int pa_nil)))))))), ?_⟩
    refine ⟨_, rfl, _, rfl, l, rfl, ⟨_, hS⟩, for_list (K := K) (a := l) (xs := ns.map V.int) (fun i σ H' => ∃ (z : Int) (v : Option V), σ = [some (.ref l), some (.int sd), some (.int z), v] ∧ H' = H) ⟨sd, none, rfl, rfl⟩ (fun i σ H' _ ⟨_, _, _, e⟩ => by rw [e]; exact hS) ?_ ?_⟩
    · rintro i y σ H' hi ⟨z, v, rfl, rfl⟩
      obtain ⟨u, _, rfl⟩ := getI hi
      refine ⟨_, rfl, _, _, rfl, rfl, .inr ⟨by decide, by decide⟩, _, rfl, _, _, rfl, rfl, (by show (0 : Int) < 2147483629; decide), _, _, rfl, rfl, _, _, rfl, rfl, _, _, rfl, rfl, (by show (0 : Int) < 2147483647; decide), _, _, rfl, rfl⟩
    · rintro σ H' ⟨z, v, rfl, rfl⟩
      refine ⟨_, rfl, _, rfl, l, _, rfl, .inl hS, fun p hp => ⟨(by show 3 ≤ sizeLine; decide), fun q hq => ?_⟩⟩
      have npq : p ≠ q := fun e => by rw [← e, upd_same] at hq; cases hq
      have hq0 : H' q = none := by rw [upd_ne npq.symm] at hq; exact hq
      refine k q p _ hq0 hp ⟨_, 0, ns, upd_same, (by rw [upd_ne npq, upd_same]), hl⟩ ((Same.new hp).trans (Same.new hq))
theorem scNext : FnScope ["_law_h", "_law_many", "_law_cell"] ["_law_h", "_law_many"] (defScope sLnext) := ⟨rfl, rfl, rfl, by decide +kernel, rfl, by decide +kernel, by decide +kernel⟩
theorem ok_next {f : Addr} {fd : FuncData} (F : Fun K "_law_next" "_law_next" sLnext f fd) (T : Txt mg) : FnOk P w K mg base CX0 1 f fd ["_law_h", "_law_many"] spNext := by
  refine F.ok scNext (fun vs H Q E h => ?_) (fun cdv A outer s H vs Q E hr h => ?_)
  · obtain ⟨a, b, n, rfl, _⟩ := h
    rfl
  · obtain ⟨a, b, n, rfl, n0, n1, ⟨z, p, cs, ha, hb, hc⟩, k⟩ := h
    refine ⟨_, (pss_cons (ps_set (i := 2) scNext.nd rfl (Or.inl rfl) (pe_ix (RK.ixL (K := K)) (pe_op op_cat (pe_ix (RK.ixL (K := K)) (pv 0) pe_int (fun _ _ => rfl)) (pe_lst (pa_cons pe_int pa_nil))) (pe_op op_modN (pe_ix (RK.ixL (K := K)) (pv 0) pe_int (fun _ _ => rfl)) (pe_callB (call_max2 rfl) (by rfl) T.max (by decide +kernel) (pa_cons pe_int (pa_cons (pe_callB (RK.lenQ (K := K)) (by rfl) T.len PySem.boot_len (pa_cons (pe_ix (RK.ixL (K := K)) (pv 0) pe_int (fun _ _ => rfl)) pa_nil)) pa_nil)))) (fun _ _ => rfl)))
      (pss_cons (ps_if (pt_cmpR op_ge (pv 2) (pe_op op_pow pe_int pe_int) (nomark _)) (pss_cons (ps_asg (pe_op op_fdivN (pv 2) (pv 1)) (pg_sub (pe_ix (RK.ixL (K := K)) (pv 0) pe_int (fun _ _ => rfl)) (pe_op op_modN (pe_ix (RK.ixL (K := K)) (pv 0) pe_int (fun _ _ => rfl)) (pe_callB (RK.lenQ (K := K)) (by rfl) T.len PySem.boot_len (pa_cons (pe_ix (RK.ixL (K := K)) (pv 0) pe_int (fun _ _ => rfl)) pa_nil))) set_list))
        (pss_one (ps_ret (pe_op op_modN (pv 2) (pv 1))))) pss_nil)
      (pss_cons (ps_asg (pe_op op_mod (pe_op op_add (pe_op op_add (pe_op op_mul (pe_ix (RK.ixL (K := K)) (pv 0) pe_int (fun _ _ => rfl)) pe_int) (pe_op op_mul (pv 2) pe_int)) pe_int) pe_int) (pg_sub (pv 0) pe_int set_list))
      (pss_cons (ps_asg (pe_op op_add (pe_ix (RK.ixL (K := K)) (pv 0) pe_int (fun _ _ => rfl)) pe_int) (pg_sub (pv 0) pe_int set_list))
      (pss_one (ps_ret (pe_op op_modN (pe_op op_fdiv (pe_ix (RK.ixL (K := K)) (pv 0) pe_int (fun _ _ => rfl)) pe_int) (pv 1)))))))), ?_⟩
    have nab : a ≠ b := ne_of ha hb (by
      intro e
      injection e with e
      cases cs with
      | nil => cases e
      | cons c r =>
        cases r with
        | nil => cases e
        | cons d r => rw [List.map_cons, List.map_cons] at e; injection e with _ e; injection e with e1 _; cases e1)
    -- cell = (h[1] + [0])[h[2] % max(1, len(h[1]))]
    refine ⟨_, rfl, a, _, 1, _, rfl, rfl, SqL.of ha, rfl, (by show 1 ≤ sizeLine; decide), fun e he => ?_⟩
    have s1 := Same.new (o := .lst [.int 0]) he
    refine ⟨b, e, _, _, rfl, rfl, s1 _ _ hb, upd_same, ?_, fun c hcc => ?_⟩
    · rw [List.length_map]
      exact Nat.le_trans (show cs.length + 1 ≤ 64 by omega) (by decide)
    have s2 := Same.new (o := .lst (cs.map V.int ++ [.int 0])) hcc
    have s12 := s1.trans s2
    have ha2 := s12 _ _ ha
    have hb2 := s12 _ _ hb
    refine ⟨_, rfl, a, _, 2, _, rfl, rfl, SqL.of ha2, rfl, _, rfl, a, _, 1, _, rfl, rfl, SqL.of ha2, rfl, b, _, rfl, .inl (SqL.of hb2), 1, _, rfl, ?_⟩
    have lm : (cs.map V.int).length = cs.length := List.length_map ..
    generalize hM : (if (((cs.map V.int).length : Nat) : Int) > 1 then (((cs.map V.int).length : Nat) : Int) else 1) = M
    have hM1 : 0 < M ∧ M ≤ (cs.length : Int) + 1 ∧ (cs.length = 0 → M = 1) := by
      rw [lm] at hM
      subst hM
      split <;> omega
    have ix := fmod_lt (x := p) hM1.1
    have hj : (p.fmod M).toNat < (cs ++ [0]).length := by
      rw [List.length_append]
      show _ < cs.length + 1
      omega
    have em : cs.map V.int ++ [V.int 0] = (cs ++ [0]).map V.int := by rw [List.map_append]; rfl
    have hit : atI (cs.map V.int ++ [V.int 0]) (p.fmod M) = some (.int ((cs ++ [0])[(p.fmod M).toNat])) := atI_of ix.1 (by rw [em, List.getElem?_map, List.getElem?_eq_getElem hj]; rfl)
    refine ⟨_, _, rfl, rfl, (by show M ≠ 0; omega), c, _, _, _, rfl, rfl, SqL.of upd_same, hit, ?_⟩
    generalize hcell : (cs ++ [0])[(p.fmod M).toNat] = cell
    have kp2 : Keep a b H (upd (upd H e (.lst [.int 0])) c (.lst (cs.map V.int ++ [.int 0]))) := Keep.same s12
    refine ⟨_, rfl, _, _, rfl, rfl, ⟨by decide, by decide, by decide⟩, _, _, rfl, rfl, _, rfl, ite2 (fun big => ?_) (fun _ => ?_)⟩
    · have big2 : (10 : Int) ^ (18 : Int).toNat ≤ cell := of_decide_eq_true big
      have ne : 0 < cs.length := by
        rcases Nat.eq_zero_or_pos cs.length with h0 | h0
        · exfalso
          have e0 := List.eq_nil_of_length_eq_zero h0
          have m1 := hM1.2.2 h0
          have i0 : (p.fmod M).toNat = 0 := by have := ix.2; omega
          have z0 : cell = 0 := by
            rw [← hcell]
            have : (cs ++ [0])[(p.fmod M).toNat]? = some 0 := by rw [i0, e0]; rfl
            rw [List.getElem?_eq_getElem hj] at this
            exact Option.some.inj this
          rw [z0] at big2
          exact absurd big2 (by decide)
        · exact h0
      have l0 : (((cs.map V.int).length : Nat) : Int) ≠ 0 := by rw [lm]; omega
      have ix2 := fmod_lt (x := p) (n := (((cs.map V.int).length : Nat) : Int)) (by rw [lm]; omega)
      refine ⟨_, rfl, _, rfl, _, _, rfl, rfl, ⟨by omega, by omega⟩, _, rfl, a, _, 1, _, rfl, rfl, SqL.of ha2, rfl, _, rfl, a, _, 2, _, rfl, rfl, SqL.of ha2, rfl, _, rfl, a, _, 1, _, rfl, rfl, SqL.of ha2, rfl, b, _, rfl, .inl (SqL.of hb2), _, _, rfl, rfl, l0, ?_⟩
      refine ⟨b, _, _, _, rfl, rfl, hb2, ixN_of ix2.1 ix2.2, ?_⟩
      refine ⟨_, rfl, _, rfl, _, _, rfl, rfl, (by show n ≠ 0; omega), ?_⟩
      refine k _ _ (fmod_lt n0).1 (fmod_lt n0).2 ⟨z, p, cs.set (p.fmod (((cs.map V.int).length : Nat) : Int)).toNat (cell.fdiv n), by rw [upd_ne nab]; exact ha2, ?_, by rw [List.length_set]; exact hc⟩ (kp2.trans Keep.at2)
      rw [upd_same, List.map_set]
    · refine ⟨_, rfl, a, _, 0, _, rfl, rfl, SqL.of ha2, rfl, _, _, rfl, rfl, .inr ⟨by decide, by decide⟩, _, rfl, _, _, rfl, rfl, .inr ⟨by decide, by decide⟩, _, _, rfl, rfl, _, _, rfl, rfl, _, _, rfl, rfl, (by show (0 : Int) < 2147483647; decide), ?_⟩
      refine ⟨_, rfl, a, _, _, 0, rfl, rfl, ha2, rfl, ?_⟩
      refine ⟨_, rfl, a, _, 2, _, rfl, rfl, SqL.of upd_same, rfl, _, _, rfl, rfl, _, rfl, a, _, _, 2, rfl, rfl, upd_same, rfl, ?_⟩
      refine ⟨_, rfl, a, _, 0, _, rfl, rfl, SqL.of upd_same, rfl, _, _, rfl, rfl, ⟨by decide, by decide⟩, _, rfl, _, _, rfl, rfl, (by show n ≠ 0; omega), ?_⟩
      refine k _ _ (fmod_lt n0).1 (fmod_lt n0).2 ⟨_, _, cs, upd_same, by rw [upd_ne nab.symm, upd_ne nab.symm]; exact hb2, hc⟩ (kp2.trans (Keep.at1.trans Keep.at1))
end
end K06

namespace K06
open PySem L2

/-! ### dicts with text keys -/
section
variable {β : Type} {R S : Hp → V → β → Prop} {H H' : Hp}
def PR (R : Hp → V → β → Prop) (H : Hp) (kv : Key × V) (p : Str × β) : Prop := kv.1 = .inr p.1 ∧ R H kv.2 p.2
def DictAt (R : Hp → V → β → Prop) (H : Hp) (d : Addr) (ps : List (Str × β)) : Prop := ∃ kvs, Rd H d (.dK kvs) ∧ Paired (PR R H) kvs ps
theorem pr_mono (m : ∀ v x, R H v x → R H' v x) : ∀ {kvs : List (Key × V)} {ps : List (Str × β)}, Paired (PR R H) kvs ps → Paired (PR R H') kvs ps
  | _, _, .nil => .nil
  | _, _, .cons ⟨e, h⟩ r => .cons ⟨e, m _ _ h⟩ (pr_mono m r)
theorem pr_look (f : Str) : ∀ {kvs : List (Key × V)} {ps : List (Str × β)}, Paired (PR R H) kvs ps → (ps.lookup f = none ∧ valV kvs (.inr f) = none) ∨ ∃ x v, ps.lookup f = some x ∧ valV kvs (.inr f) = some v ∧ R H v x
  | _, _, .nil => .inl ⟨rfl, rfl⟩
  | (k, v) :: kvs, (g, x) :: ps, .cons ⟨e, h⟩ r => by
    have e : k = .inr g := e
    subst e
    by_cases q : f = g
    · subst q
      exact .inr ⟨x, v, by simp [List.lookup], valV_pos rfl, h⟩
    · have n1 : ((f == g) : Bool) = false := by simpa using q
      have n2 : ¬ ((Sum.inr g : Key) = .inr f) := fun z => q (Sum.inr.inj z).symm
      rw [show valV ((Sum.inr g, v) :: kvs) (.inr f) = valV kvs (.inr f) from valV_neg n2]
      rw [show List.lookup f ((g, x) :: ps) = List.lookup f ps by simp [List.lookup, n1]]
      exact pr_look f r
theorem pr_has (f : Str) : ∀ {kvs : List (Key × V)} {ps : List (Str × β)}, Paired (PR R H) kvs ps → f ∉ ps.map (·.1) → (kvs.any fun kv => decide (kv.1 = (Sum.inr f : Key))) = false
  | _, _, .nil, _ => rfl
  | (k, v) :: kvs, (g, x) :: ps, .cons ⟨e, _⟩ r, hn => by
    have e : k = .inr g := e
    subst e
    rw [List.map_cons, List.mem_cons, not_or] at hn
    rw [List.any_cons, pr_has f r hn.2, Bool.or_false]
    exact decide_eq_false fun z => hn.1 (Sum.inr.inj z).symm
theorem pr_keys : ∀ {kvs : List (Key × V)} {ps : List (Str × β)}, Paired (PR R H) kvs ps → kvs.map (·.1) = (ps.map (·.1)).map Sum.inr
  | _, _, .nil => rfl
  | (k, v) :: kvs, (g, x) :: ps, .cons ⟨e, _⟩ r => by
    have e : k = .inr g := e
    subst e
    rw [List.map_cons, List.map_cons, List.map_cons, pr_keys r]
theorem pr_len {kvs : List (Key × V)} {ps : List (Str × β)} (h : Paired (PR R H) kvs ps) : kvs.length = ps.length := Paired.length h
theorem pr_snoc {kvs : List (Key × V)} {ps : List (Str × β)} {k : Str} {v : V} {x : β} (h : Paired (PR R H) kvs ps) (r : R H v x) : Paired (PR R H) (kvs ++ [(.inr k, v)]) (ps ++ [(k, x)]) := Paired.snoc h ⟨rfl, r⟩
theorem pr_put {kvs : List (Key × V)} {ps : List (Str × β)} {k : Str} {v : V} (h : Paired (PR R H) kvs ps) (n : k ∉ ps.map (·.1)) : putK kvs (.inr k) v = kvs ++ [(.inr k, v)] := by
  unfold putK
  rw [pr_has _ h n]
  rfl
end
theorem rd_mono {H H' : Hp} {d : Addr} {kvs : List (Key × V)} (k : KeepN H H') (h : Rd H d (.dK kvs)) : Rd H' d (.dK kvs) := by
  rcases h with h | ⟨o, h⟩
  · exact .inl (k d _ (fun _ e => nomatch e) h)
  · exact .inr ⟨o, k d _ (fun _ e => nomatch e) h⟩
/-- the dict at d is changed: tuples stay -/
theorem t_upd {K : PySem.W.Frag} {H : Hp} {d : Addr} {kvs : List (Key × V)} {o : HO} (hd : H d = some (.dK kvs)) {t : Addr} {xs : List V} (h : SqT K H t xs) : SqT K (upd H d o) t xs := by
  rcases h with (h | ⟨o, h⟩) | h
  · exact .inl (.inl (by rw [upd_ne (ne_of h hd (fun e => nomatch e))]; exact h))
  · exact .inl (.inr ⟨o, by rw [upd_ne (ne_of h hd (fun e => nomatch e))]; exact h⟩)
  · exact .inr h

/-! ### shapes -/
def ShR (K : PySem.W.Frag) (H : Hp) (v : V) (fs : List Str) : Prop := ∃ t, v = .ref t ∧ SqT K H t (fs.map V.str)
def ShapesAt (K : PySem.W.Frag) (H : Hp) (d : Addr) (sh : List (Str × List Str)) : Prop := ∃ kvs, H d = some (.dK kvs) ∧ Paired (PR (ShR K) H) kvs sh
abbrev tabs : List Str := [Str.ofString "ta", Str.ofString "tb", Str.ofString "tc"]
abbrev flds : List Str := [Str.ofString "k", Str.ofString "x", Str.ofString "y", Str.ofString "z"]
structure IsShapes (sh : List (Str × List Str)) : Prop where
  names : sh.map (·.1) = tabs.take sh.length
  few : sh.length ≤ 3
  fs : ∀ p ∈ sh, ∃ m, 1 ≤ m ∧ m ≤ 4 ∧ p.2 = flds.take m
theorem ShapesAt.keep {K : PySem.W.Frag} {H H' : Hp} (k : KeepN H H') {d : Addr} {sh : List (Str × List Str)} (h : ShapesAt K H d sh) : ShapesAt K H' d sh := by
  obtain ⟨kvs, hd, p⟩ := h
  exact ⟨kvs, k d _ (fun _ e => nomatch e) hd, pr_mono (fun v x ⟨t, e, q⟩ => ⟨t, e, k.t q⟩) p⟩
def spShapes (K : PySem.W.Frag) : Sp := fun vs H Q _ => ∃ (a b : Addr), vs = [.ref a, .int 3] ∧ HAt H a b ∧ ∀ (d : Addr) (H' : Hp) (sh : List (Str × List Str)), HAt H' a b → Keep a b H H' → H d = none → ShapesAt K H' d sh → IsShapes sh → 1 ≤ sh.length → Q (.ref d) H'
def spNumber : Sp := fun vs H Q _ => ∃ (a b : Addr), vs = [.ref a] ∧ HAt H a b ∧ ∀ (r : Int) (H' : Hp), -1000 ≤ r → r ≤ 1000 → HAt H' a b → Keep a b H H' → Q (.int r) H'

/-! ### trees -/
inductive Tr where
  | num (n : Int)
  | field (t f : Str)
  | bin (op : Str) (l r : Tr)
  | not (x : Tr)
def Tr.depth : Tr → Nat
  | .num _ => 0
  | .field _ _ => 0
  | .bin _ l r => max l.depth r.depth + 1
  | .not x => x.depth + 1
def TrAt (K : PySem.W.Frag) (H : Hp) : V → Tr → Prop
  | v, .num n => ∃ p, v = .ref p ∧ SqT K H p [.str (Str.ofString "num"), .int n]
  | v, .field t f => ∃ p, v = .ref p ∧ SqT K H p [.str (Str.ofString "field"), .str t, .str f]
  | v, .bin op l r => ∃ p x y, v = .ref p ∧ SqT K H p [.str op, x, y] ∧ TrAt K H x l ∧ TrAt K H y r
  | v, .not z => ∃ p x, v = .ref p ∧ SqT K H p [.str (Str.ofString "not"), x] ∧ TrAt K H x z
theorem TrAt.mono {K : PySem.W.Frag} {H H' : Hp} (m : ∀ t xs, SqT K H t xs → SqT K H' t xs) : ∀ {v : V} {t : Tr}, TrAt K H v t → TrAt K H' v t
  | _, .num _, ⟨p, e, h⟩ => ⟨p, e, m _ _ h⟩
  | _, .field _ _, ⟨p, e, h⟩ => ⟨p, e, m _ _ h⟩
  | _, .bin _ _ _, ⟨p, x, y, e, h, h1, h2⟩ => ⟨p, x, y, e, m _ _ h, TrAt.mono m h1, TrAt.mono m h2⟩
  | _, .not _, ⟨p, x, e, h, h1⟩ => ⟨p, x, e, m _ _ h, TrAt.mono m h1⟩
theorem TrAt.keep {K : PySem.W.Frag} {H H' : Hp} (k : KeepN H H') {v : V} {t : Tr} (h : TrAt K H v t) : TrAt K H' v t := TrAt.mono (fun _ _ q => k.t q) h
abbrev signs : List Str := [Str.ofString "=", Str.ofString "<", Str.ofString ">", Str.ofString "<=", Str.ofString ">="]
inductive IsTm (fl : List (Str × Str)) : Tr → Prop where
  | num {n : Int} : -1000 ≤ n → n ≤ 1000 → IsTm fl (.num n)
  | field {t f : Str} : (t, f) ∈ fl → IsTm fl (.field t f)
  | bin {op : Str} {l r : Tr} : op ∈ [Str.ofString "+", Str.ofString "-", Str.ofString "*"] → IsTm fl l → IsTm fl r → IsTm fl (.bin op l r)
inductive IsCd (fl : List (Str × Str)) : Tr → Prop where
  | cmp {op : Str} {l r : Tr} : op ∈ signs → IsTm fl l → IsTm fl r → IsCd fl (.bin op l r)
  | join {op : Str} {l r : Tr} : op ∈ [Str.ofString "and", Str.ofString "or"] → IsCd fl l → IsCd fl r → IsCd fl (.bin op l r)
  | not {x : Tr} : IsCd fl x → IsCd fl (.not x)

/-! ### the fields that there are: a list of pairs of texts -/
def FlR (K : PySem.W.Frag) (H : Hp) (v : V) (q : Str × Str) : Prop := ∃ p, v = .ref p ∧ SqT K H p [.str q.1, .str q.2]
def FlOk (fl : List (Str × Str)) : Prop := ∀ q ∈ fl, PyData.strOk q.1 = true ∧ PyData.strOk q.2 = true
def FlAt (K : PySem.W.Frag) (H : Hp) (l : Addr) (fl : List (Str × Str)) : Prop := ∃ vs, H l = some (.lst vs) ∧ Paired (FlR K H) vs fl ∧ FlOk fl
theorem fl_mono {K : PySem.W.Frag} {H H' : Hp} (m : ∀ t xs, SqT K H t xs → SqT K H' t xs) : ∀ {vs : List V} {fl : List (Str × Str)}, Paired (FlR K H) vs fl → Paired (FlR K H') vs fl
  | _, _, .nil => .nil
  | _, _, .cons ⟨p, e, h⟩ r => .cons ⟨p, e, m _ _ h⟩ (fl_mono m r)
theorem FlAt.keep {K : PySem.W.Frag} {H H' : Hp} {a b l : Addr} {fl : List (Str × Str)} (B : HAt H a b) (k : Keep a b H H') (na : l ≠ a) (nb : l ≠ b) (h : FlAt K H l fl) : FlAt K H' l fl := by
  obtain ⟨vs, hl, p, ok⟩ := h
  exact ⟨vs, k l _ na nb hl, fl_mono (fun _ _ q => (k.n B).t q) p, ok⟩
theorem FlAt.same {K : PySem.W.Frag} {H H' : Hp} {l : Addr} {fl : List (Str × Str)} (s : Same H H') (h : FlAt K H l fl) : FlAt K H' l fl := by
  obtain ⟨vs, hl, p, ok⟩ := h
  exact ⟨vs, s _ _ hl, fl_mono (fun _ _ q => (KeepN.of s).t q) p, ok⟩
def flD (q : Str × Str) : PyData := .tuple [.str q.1, .str q.2]
theorem fl_dp {K : PySem.W.Frag} {H : Hp} : ∀ {vs : List V} {fl : List (Str × Str)}, Paired (FlR K H) vs fl → DpAll K H vs (fl.map flD)
  | _, _, .nil => .nil
  | _, _, .cons ⟨p, e, h⟩ r => .cons (e ▸ .tup h (.cons (.str _) (.cons (.str _) .nil))) (fl_dp r)
theorem fl_lay : ∀ fl : List (Str × Str), FlOk fl → PyData.canLayAll0 (fl.map flD) = true ∧ PyData.depthAll (fl.map flD) ≤ 2
  | [], _ => by simp [PyData.canLayAll0, PyData.depthAll]
  | q :: r, ok => by
    obtain ⟨h1, h2⟩ := fl_lay r fun x m => ok x (List.mem_cons_of_mem _ m)
    obtain ⟨o1, o2⟩ := ok q List.mem_cons_self
    refine ⟨by simp [PyData.canLayAll0, PyData.canLay0, flD, h1, o1, o2], ?_⟩
    simp only [List.map_cons, PyData.depthAll, PyData.depth, flD]
    omega
theorem fl_shaped {fl : List (Str × Str)} (ok : FlOk fl) : SeqAt.shaped (.list (fl.map flD)) = true := by
  obtain ⟨h1, h2⟩ := fl_lay fl ok
  show (PyData.canLay0 (.list (fl.map flD)) && decide (PyData.depth (.list (fl.map flD)) ≤ 64)) = true
  rw [Bool.and_eq_true]
  refine ⟨by simp only [PyData.canLay0]; exact h1, decide_eq_true ?_⟩
  simp only [PyData.depth]
  omega
theorem eqv_nil (ds : List PyData) : PyData.eqv (.list ds) (.list []) = ds.isEmpty := by
  cases ds <;> simp [PyData.eqv, PyData.eqvAll]
theorem eqv_fl (fl : List (Str × Str)) : PyData.eqv (.list (fl.map flD)) (.list []) = fl.isEmpty := by
  rw [eqv_nil]
  cases fl <;> rfl
theorem fl_at {K : PySem.W.Frag} {H : Hp} : ∀ {vs : List V} {fl : List (Str × Str)} {i : Nat}, Paired (FlR K H) vs fl → i < fl.length → ∃ p q, vs[i]? = some (.ref p) ∧ q ∈ fl ∧ SqT K H p [.str q.1, .str q.2]
  | _, _, i, .nil, h => absurd h (Nat.not_lt_zero i)
  | _, q :: _, 0, .cons ⟨p, e, h⟩ _, _ => ⟨p, q, by rw [e]; rfl, List.mem_cons_self, h⟩
  | _, _, i + 1, .cons _ r, h => by
    obtain ⟨p, q, h1, h2, h3⟩ := fl_at (i := i) r (Nat.lt_of_succ_lt_succ h)
    exact ⟨p, q, h1, List.mem_cons_of_mem _ h2, h3⟩
def spTerm (K : PySem.W.Frag) (n : Nat) : Sp := fun vs H Q _ => ∃ (a b l : Addr) (fl : List (Str × Str)) (dp : Int), vs = [.ref a, .ref l, .int dp] ∧ 0 ≤ dp ∧ dp < n ∧ HAt H a b ∧ FlAt K H l fl ∧ l ≠ a ∧ l ≠ b ∧ fl.length ≤ 100 ∧
  ∀ (v : V) (t : Tr) (H' : Hp), HAt H' a b → Keep a b H H' → TrAt K H' v t → IsTm fl t → t.depth ≤ dp.toNat → Q v H'
def spCond (K : PySem.W.Frag) (n : Nat) : Sp := fun vs H Q _ => ∃ (a b l : Addr) (fl : List (Str × Str)) (dp : Int), vs = [.ref a, .ref l, .int dp] ∧ 0 ≤ dp ∧ dp < n ∧ HAt H a b ∧ FlAt K H l fl ∧ l ≠ a ∧ l ≠ b ∧ fl.length ≤ 100 ∧
  ∀ (v : V) (t : Tr) (H' : Hp), HAt H' a b → Keep a b H H' → TrAt K H' v t → IsCd fl t → t.depth ≤ dp.toNat + 2 → Q v H'
section
variable {P : Program} {w : World} {K : PySem.W.Frag} {mg : Str → Option Value} {base : Heap}
/-- a promise of nothing -/
theorem none_left {f : Addr} {fd : FuncData} {k : Nat} {ps : List Str} {sp : Sp} (no : ∀ vs H Q E, ¬ sp vs H Q E) : FnOk P w K mg base CX0 k f fd ps sp :=
  ⟨fun vs H Q E h => absurd h (no vs H Q E), fun A outer s H args us vs Q E _ _ _ _ h => absurd h (no vs H Q E)⟩
theorem Cal.mono {j k : Nat} {x : Str} {ps : List Str} {sp : Sp} {f : Addr} {fd : FuncData} (c : Cal P w K mg base j x ps sp f fd) (h : j ≤ k) : Cal P w K mg base k x ps sp f fd := ⟨c.g, c.kp, c.b, c.G.mono h⟩
theorem scShapes : FnScope ["_law_h", "_law_many", "_law_found", "_law_k"] ["_law_h", "_law_many"] (defScope sLshapes) := ⟨rfl, rfl, rfl, by decide +kernel, rfl, by decide +kernel, by decide +kernel⟩
theorem ok_shapes {f fn : Addr} {fd fdn : FuncData} (F : Fun K "_law_shapes" "_law_shapes" sLshapes f fd) (T : Txt mg) (Cnext : Cal P w K mg base 1 "_law_next" ["_law_h", "_law_many"] spNext fn fdn) : FnOk P w K mg base CX0 2 f fd ["_law_h", "_law_many"] (spShapes K) := by
  refine F.ok scShapes (fun vs H Q E h => ?_) (fun cdv A outer s H vs Q E hr h => ?_)
  · obtain ⟨a, b, rfl, _⟩ := h
    rfl
  · obtain ⟨a, b, rfl, B, k⟩ := h
    have hr1 : Room 1 _ := hr.mono (by decide)
    refine ⟨_, (pss_cons (ps_set (i := 2) scShapes.nd rfl (Or.inl rfl) pe_dnewK)
      (pss_cons (ps_for PassesOwn.never rfl (pi_range1 rfl T.range (pa_cons (pe_op op_add pe_int (pe_call Cnext.G hr1 rfl Cnext.g Cnext.kp Cnext.b .nil pass0 (pa_cons (pv 0) (pa_cons (pv 1) pa_nil)))) pa_nil)) (pg_name (i := 3) scShapes.nd rfl (Or.inl rfl))
        (pss_one (ps_dput (hu_of hr) (pv 2) (pe_op op_add_str pe_str (pe_ix ix_str pe_str (pv 3) (fun _ _ => rfl))) (pe_slice (RK.slT (K := K)) (pe_tup (pa_cons pe_str (pa_cons pe_str (pa_cons pe_str (pa_cons pe_str pa_nil))))) po_none (po_some (pe_op op_add pe_int (pe_call Cnext.G hr1 rfl Cnext.g Cnext.kp Cnext.b .nil pass0 (pa_cons (pv 0) (pa_cons pe_int pa_nil)))))) rfl)))
      (pss_one (ps_ret (pv 2))))), ?_⟩
    intro d hd
    have nd := B.ne hd
    have s0 := Same.new (o := .dK []) hd
    refine ⟨_, rfl, _, rfl, a, b, 3, rfl, by decide, by decide, B.same s0, fun m H1 m0 m3 B1 kp1 => ?_⟩
    refine ⟨_, _, rfl, rfl, _, rfl, by omega, by omega, ?_⟩
    have hd1 : H1 d = some (.dK []) := kp1 d _ nd.1 nd.2 upd_same
    refine for_range (lo := 0) (n := (1 + m).toNat) (fun i σ H' => ∃ v3 sh, σ = [some (.ref a), some (.int 3), some (.ref d), v3] ∧ HAt H' a b ∧ Keep a b H H' ∧ ShapesAt K H' d sh ∧ IsShapes sh ∧ sh.length = i)
      ⟨none, [], rfl, B1, (Keep.same s0).trans kp1, ⟨[], hd1, .nil⟩, ⟨rfl, Nat.zero_le _, fun p z => by cases z⟩, rfl⟩ ?_ ?_
    · rintro i σ H2 hi ⟨v3, sh, rfl, B2, kp2, S2, I2, li⟩
      have hi3 : i < 3 := by omega
      -- ("k", "x", "y", "z")[:1 + next(h, 4)]
      refine ⟨(by show 4 ≤ sizeLine; decide), fun p hp => ?_⟩
      have s3 := Same.new (o := .tup (flds.map V.str)) hp
      refine ⟨_, rfl, a, b, 4, rfl, by decide, by decide, B2.same s3, fun r H4 r0 r4 B4 kp4 => ⟨_, _, rfl, rfl, _, rfl, ?_⟩⟩
      have kn4 := kp4.n (B2.same s3)
      have hp4 : SqT K H4 p (flds.map V.str) := kn4.t (SqT.of upd_same)
      have S4 : ShapesAt K H4 d sh := (S2.keep (KeepN.of s3)).keep kn4
      have kp24 : Keep a b H H4 := kp2.trans ((Keep.same s3).trans kp4)
      have fin : ∀ (t : Addr) (H5 : Hp), Same H4 H5 → SqT K H5 t ((flds.take (1 + r).toNat).map V.str) → ∃ a_1 H6, V.ref d = V.ref a_1 ∧ DPut H5 a_1 (.str (tabs.getD i Str.empty)) (.ref t) H6 ∧
          ∃ v3 sh, [some (.ref a), some (.int 3), some (.ref d), some (V.int (0 + ((i : Nat) : Int)))] = [some (.ref a), some (.int 3), some (.ref d), v3] ∧ HAt H6 a b ∧ Keep a b H H6 ∧ ShapesAt K H6 d sh ∧ IsShapes sh ∧ sh.length = i + 1 := fun t H5 s5 ht => by
        obtain ⟨kvs, hd5, pr⟩ := S4.keep (KeepN.of s5)
        have lk : kvs.length ≤ 3 := by rw [pr_len pr, li]; omega
        have nin : tabs.getD i Str.empty ∉ sh.map (·.1) := by
          rw [I2.names, li]
          have h : i = 0 ∨ i = 1 ∨ i = 2 := by omega
          rcases h with rfl | rfl | rfl <;> decide +kernel
        refine ⟨d, _, rfl, DPut.k (k := .inr (tabs.getD i Str.empty)) hd5 (Nat.lt_of_le_of_lt lk (by decide)), _, sh ++ [(tabs.getD i Str.empty, flds.take (1 + r).toNat)], rfl, (B4.same s5).upd nd, ?_, ⟨_, upd_same, ?_⟩, ⟨?_, ?_, ?_⟩, ?_⟩
        · intro x o h1 h2 h
          rw [upd_ne (ne_of_none h hd)]
          exact s5 _ _ (kp24 x o h1 h2 h)
        · rw [pr_put pr nin]
          exact pr_snoc (pr_mono (fun v x ⟨t, e, q⟩ => ⟨t, e, t_upd hd5 q⟩) pr) ⟨t, rfl, t_upd hd5 ht⟩
        · rw [List.map_append, I2.names, li, List.length_append, li]
          have h : i = 0 ∨ i = 1 ∨ i = 2 := by omega
          rcases h with rfl | rfl | rfl <;> rfl
        · rw [List.length_append, li]
          show i + 1 ≤ 3
          omega
        · intro q m
          rcases List.mem_append.mp m with m | m
          · exact I2.fs q m
          · obtain rfl := List.mem_singleton.mp m
            exact ⟨(1 + r).toNat, by omega, by omega, rfl⟩
        · rw [List.length_append, li]
          rfl
      have key : ∀ (t : Addr) (H5 : Hp), Same H4 H5 → SqT K H5 t ((flds.take (1 + r).toNat).map V.str) → tVar 2 [some (.ref a), some (.int 3), some (.ref d), some (V.int (0 + ((i : Nat) : Int)))] H5 fun x H2 =>
          tOp (fun x y H Q => ∃ i j, x = .str i ∧ y = .str j ∧ i.length + j.length ≤ sizeLine ∧ Q (.str (i ++ j)) H) (tC (.str (Str.ofString "t"))) (tOp rIxS (tC (.str (Str.ofString "abc"))) (tVar 3)) [some (.ref a), some (.int 3), some (.ref d), some (V.int (0 + ((i : Nat) : Int)))] H2 fun y H3 =>
            ∃ a_1 H6, x = .ref a_1 ∧ DPut H3 a_1 y (.ref t) H6 ∧ ∃ v3 sh, [some (.ref a), some (.int 3), some (.ref d), some (V.int (0 + ((i : Nat) : Int)))] = [some (.ref a), some (.int 3), some (.ref d), v3] ∧ HAt H6 a b ∧ Keep a b H H6 ∧ ShapesAt K H6 d sh ∧ IsShapes sh ∧ sh.length = i + 1 := fun t H5 s5 ht => by
        have f5 := fin t H5 s5 ht
        have h : i = 0 ∨ i = 1 ∨ i = 2 := by omega
        rcases h with rfl | rfl | rfl
        · exact ⟨_, rfl, _, rfl, Str.ofString "abc", _, 97, rfl, rfl, by decide, by decide +kernel, _, _, rfl, rfl, by decide, f5⟩
        · exact ⟨_, rfl, _, rfl, Str.ofString "abc", _, 98, rfl, rfl, by decide, by decide +kernel, _, _, rfl, rfl, by decide, f5⟩
        · exact ⟨_, rfl, _, rfl, Str.ofString "abc", _, 99, rfl, rfl, by decide, by decide +kernel, _, _, rfl, rfl, by decide, f5⟩
      have hr4 : r = 0 ∨ r = 1 ∨ r = 2 ∨ r = 3 := by omega
      refine ⟨p, _, rfl, hp4, fun hw => ?_, fun hw q hq => ?_⟩
      · rcases hr4 with rfl | rfl | rfl | rfl
        · exact absurd hw.2 (by decide)
        · exact absurd hw.2 (by decide)
        · exact absurd hw.2 (by decide)
        · exact key p H4 (Same.refl _) hp4
      · have e : cutV (flds.map V.str) none (some (1 + r)) = (flds.take (1 + r).toNat).map V.str := by rcases hr4 with rfl | rfl | rfl | rfl <;> rfl
        show tVar 2 _ (upd H4 q (.tup (cutV (flds.map V.str) none (some (1 + r))))) _
        rw [e]
        exact key q _ (Same.new hq) (SqT.of upd_same)
    · rintro σ H' ⟨v3, sh, rfl, B', kp, S, I, li⟩
      exact ⟨_, rfl, k d H' sh B' kp hd S I (by omega)⟩
theorem scNumber : FnScope ["_law_h"] ["_law_h"] (defScope sLnumber) := ⟨rfl, rfl, rfl, by decide +kernel, rfl, by decide +kernel, by decide +kernel⟩
theorem ok_number {f fn : Addr} {fd fdn : FuncData} (F : Fun K "_law_number" "_law_number" sLnumber f fd) (Cnext : Cal P w K mg base 1 "_law_next" ["_law_h", "_law_many"] spNext fn fdn) : FnOk P w K mg base CX0 2 f fd ["_law_h"] spNumber := by
  refine F.ok scNumber (fun vs H Q E h => ?_) (fun cdv A outer s H vs Q E hr h => ?_)
  · obtain ⟨a, b, rfl, _⟩ := h
    rfl
  · obtain ⟨a, b, rfl, B, k⟩ := h
    have hr1 : Room 1 _ := hr.mono (by decide)
    refine ⟨_, (pss_one (ps_ret (pe_ix (RK.ixL (K := K)) (pe_lst (pa_cons (pe_call Cnext.G hr1 rfl Cnext.g Cnext.kp Cnext.b .nil pass0 (pa_cons (pv 0) (pa_cons pe_int pa_nil))) (pa_cons (pe_op op_sub (pe_call Cnext.G hr1 rfl Cnext.g Cnext.kp Cnext.b .nil pass0 (pa_cons (pv 0) (pa_cons pe_int pa_nil))) pe_int) (pa_cons (pe_op op_sub (pe_call Cnext.G hr1 rfl Cnext.g Cnext.kp Cnext.b .nil pass0 (pa_cons (pv 0) (pa_cons pe_int pa_nil))) pe_int) pa_nil)))) (pe_op op_fdiv (pe_call Cnext.G hr1 rfl Cnext.g Cnext.kp Cnext.b .nil pass0 (pa_cons (pv 0) (pa_cons pe_int pa_nil))) pe_int) (fun _ _ => rfl)))), ?_⟩
    refine ⟨_, rfl, a, b, 6, rfl, by decide, by decide, B, fun x H1 x0 x6 B1 kp1 => ⟨_, rfl, a, b, 13, rfl, by decide, by decide, B1, fun y H2 y0 y13 B2 kp2 => ⟨_, _, rfl, rfl, _, rfl, a, b, 2000, rfl, by decide, by decide, B2, fun z H3 z0 z2 B3 kp3 => ⟨_, _, rfl, rfl, (by show 3 ≤ sizeLine; decide), fun l hl => ?_⟩⟩⟩⟩
    have s4 := Same.new (o := .lst [.int x, .int (y - 4), .int (z - 999)]) hl
    have nl := B3.ne hl
    refine ⟨_, rfl, a, b, 7, rfl, by decide, by decide, B3.same s4, fun r H5 r0 r7 B5 kp5 => ⟨_, _, rfl, rfl, ⟨by decide, by decide⟩, ?_⟩⟩
    have kp : Keep a b H H5 := kp1.trans (kp2.trans (kp3.trans ((Keep.same s4).trans kp5)))
    have hl5 : H5 l = some (.lst [.int x, .int (y - 4), .int (z - 999)]) := kp5 l _ nl.1 nl.2 upd_same
    have h : r / 7 = 0 ∨ r / 7 = 1 ∨ r / 7 = 2 ∨ r / 3 = 0 ∨ r / 3 = 1 ∨ r / 3 = 2 := by omega
    have h3 : r / 3 = 0 ∨ r / 3 = 1 ∨ r / 3 = 2 := by omega
    rcases h3 with e | e | e
    · exact ⟨l, _, _, .int x, rfl, rfl, SqL.of hl5, by rw [e]; rfl, k _ _ (by omega) (by omega) B5 kp⟩
    · exact ⟨l, _, _, .int (y - 4), rfl, rfl, SqL.of hl5, by rw [e]; rfl, k _ _ (by omega) (by omega) B5 kp⟩
    · exact ⟨l, _, _, .int (z - 999), rfl, rfl, SqL.of hl5, by rw [e]; rfl, k _ _ (by omega) (by omega) B5 kp⟩
end
end K06

namespace K06
open PySem L2

theorem gn {i : Nat} {x : V} {σ : L2.St} {H : Hp} {Q : L2.St → Hp → Prop} (h : Q (σ.set i (some x)) H) : gName i x σ H Q := h
theorem cb1 {r : List V → Hp → VK → Prop} {ta : TE} {σ : L2.St} {H : Hp} {Q : VK} (h : ta σ H fun x H1 => r [x] H1 Q) : tCB r (tCons ta tNil) σ H Q := h
theorem sa1 {te : TE} {g : TG} {u : TS} {D : Ends} {σ : L2.St} {H : Hp} (h : te σ H fun x H1 => g x σ H1 (u D)) : tSeq (tAsg te g) u D σ H := h
theorem sif {c : TT} {t e u : TS} {D : Ends} {σ : L2.St} {H : Hp} (h : c σ H fun b H1 => if b = true then t { D with nx := u D } σ H1 else e { D with nx := u D } σ H1) : tSeq (tIfS c t e) u D σ H := h
theorem and2 {t u : TT} {σ : L2.St} {H : Hp} {Qb : Bool → Hp → Prop} {b c : Bool} (h1 : ∀ Q : Bool → Hp → Prop, Q b H → t σ H Q) (h2 : b = true → ∀ Q : Bool → Hp → Prop, Q c H → u σ H Q) (q : Qb (b && c) H) : tAnd t u σ H Qb := by
  refine h1 _ ?_
  cases b with
  | true => exact iteT (h2 rfl _ q)
  | false => exact iteF q
theorem or2 {t u : TT} {σ : L2.St} {H : Hp} {Qb : Bool → Hp → Prop} {b c : Bool} (h1 : ∀ Q : Bool → Hp → Prop, Q b H → t σ H Q) (h2 : b = false → ∀ Q : Bool → Hp → Prop, Q c H → u σ H Q) (q : Qb (b || c) H) : tOr t u σ H Qb := by
  refine h1 _ ?_
  cases b with
  | true => exact iteT q
  | false => exact iteF (h2 rfl _ q)
section
variable {P : Program} {w : World} {K : PySem.W.Frag} {mg : Str → Option Value} {base : Heap}
/-- ("field",) + fields[next(h, len(fields))] -/
theorem te_field {σ : L2.St} {H : Hp} {Q : VK} {a b l : Addr} {fl : List (Str × Str)} (h0 : σ[0]? = some (some (.ref a))) (h1 : σ[1]? = some (some (.ref l))) (B : HAt H a b) (Fl : FlAt K H l fl) (na : l ≠ a) (nb : l ≠ b) (h100 : fl.length ≤ 100) (ne : fl ≠ [])
    (k : ∀ (v : V) (q : Str × Str) (H' : Hp), q ∈ fl → HAt H' a b → Keep a b H H' → TrAt K H' v (.field q.1 q.2) → Q v H') :
    tOp (rCatA K) (tTup (tCons (tC (V.str (Str.ofString "field"))) tNil)) (tOp (rIxL K) (tVar 1) (tCall spNext [] E0 (tCons (tVar 0) (tCons (tCB (RK.rLenQ K) (tCons (tVar 1) tNil)) tNil)))) σ H Q := by
  refine ⟨(by show 1 ≤ sizeLine; decide), fun p hp => ?_⟩
  have s1 := Same.new (o := .tup [.str (Str.ofString "field")]) hp
  obtain ⟨vs, hl, pr, ok⟩ := Fl.same s1
  have len : vs.length = fl.length := Paired.length pr
  have pos : 0 < fl.length := List.length_pos_iff.mpr ne
  refine ⟨_, h1, _, h0, _, h1, l, _, rfl, .inl (SqL.of hl), a, b, (vs.length : Int), rfl, by omega, by omega, B.same s1, fun r H2 r0 r1 B2 kp2 => ?_⟩
  have hr : r.toNat < fl.length := by omega
  obtain ⟨p2, q, e, m, ht⟩ := fl_at pr hr
  have kn := kp2.n (B.same s1)
  refine ⟨l, vs, r, .ref p2, rfl, rfl, SqL.of (kp2 l _ na nb hl), atI_of r0 e, p, p2, _, _, rfl, rfl, kn.t (SqT.of upd_same), kn.t ht, (by show 1 + 2 ≤ sizeLine; decide), (fun z => by cases z), (fun _ z => by cases z), fun _ _ q' hq' => ?_⟩
  have s3 := Same.new (o := .tup ([V.str (Str.ofString "field")] ++ [V.str q.1, V.str q.2])) hq'
  exact k _ q _ m (B2.same s3) ((Keep.same s1).trans (kp2.trans (Keep.same s3))) ⟨q', rfl, SqT.of upd_same⟩
theorem scTerm : FnScope ["_law_h", "_law_fields", "_law_deep", "_law_way"] ["_law_h", "_law_fields", "_law_deep"] (defScope sLterm) := ⟨rfl, rfl, rfl, by decide +kernel, rfl, by decide +kernel, by decide +kernel⟩
theorem ok_term {n : Nat} {f fn fu : Addr} {fd fdn fdu : FuncData} (F : Fun K "_law_term" "_law_term" sLterm f fd) (T : Txt mg) (Cnext : Cal P w K mg base (n + 2) "_law_next" ["_law_h", "_law_many"] spNext fn fdn) (Cnumber : Cal P w K mg base (n + 2) "_law_number" ["_law_h"] spNumber fu fdu)
    (Cterm : Cal P w K mg base (n + 2) "_law_term" ["_law_h", "_law_fields", "_law_deep"] (spTerm K n) f fd) : FnOk P w K mg base CX0 (n + 3) f fd ["_law_h", "_law_fields", "_law_deep"] (spTerm K (n + 1)) := by
  refine F.ok scTerm (fun vs H Q E h => ?_) (fun cdv A outer s H vs Q E hr h => ?_)
  · obtain ⟨a, b, l, fl, dp, rfl, _⟩ := h
    rfl
  · obtain ⟨a, b, l, fl, dp, rfl, d0, dn, B, Fl, na, nb, h100, k⟩ := h
    have hr1 : Room (n + 2) _ := hr
    refine ⟨_, (pss_cons (ps_set (i := 3) scTerm.nd rfl (Or.inl rfl) (pe_call Cnext.G hr1 rfl Cnext.g Cnext.kp Cnext.b .nil pass0 (pa_cons (pv 0) (pa_cons pe_int pa_nil))))
      (pss_cons (ps_if (PW.pt (pw_and (pt_cmpR op_lt (pv 3) pe_int (nomark _)) (pw_and1 (pt_cmpR op_gt (pv 2) pe_int (nomark _))))) (pss_one (ps_ret (pe_tup (pa_cons (pe_ix ix_str pe_str (pv 3) (fun _ _ => rfl)) (pa_cons (pe_call Cterm.G hr1 rfl Cterm.g Cterm.kp Cterm.b .nil pass0 (pa_cons (pv 0) (pa_cons (pv 1) (pa_cons (pe_op op_sub (pv 2) pe_int) pa_nil)))) (pa_cons (pe_call Cterm.G hr1 rfl Cterm.g Cterm.kp Cterm.b .nil pass0 (pa_cons (pv 0) (pa_cons (pv 1) (pa_cons (pe_op op_sub (pv 2) pe_int) pa_nil)))) pa_nil)))))) pss_nil)
      (pss_cons (ps_if (PW.pt (pw_or (pt_cmpR op_lt (pv 3) pe_int (nomark _)) (pw_or1 (pt_cmpR (RK.eqD (K := K) hr.units) (pv 1) (pe_lst pa_nil) (nomark _))))) (pss_one (ps_ret (pe_tup (pa_cons pe_str (pa_cons (pe_call Cnumber.G hr1 rfl Cnumber.g Cnumber.kp Cnumber.b .nil pass0 (pa_cons (pv 0) pa_nil)) pa_nil))))) pss_nil)
      (pss_one (ps_ret (pe_op (RK.catT (K := K)) (pe_tup (pa_cons pe_str pa_nil)) (pe_ix (RK.ixL (K := K)) (pv 1) (pe_call Cnext.G hr1 rfl Cnext.g Cnext.kp Cnext.b .nil pass0 (pa_cons (pv 0) (pa_cons (pe_callB (RK.lenQ (K := K)) (by rfl) T.len PySem.boot_len (pa_cons (pv 1) pa_nil)) pa_nil))) (fun _ _ => rfl)))))))), ?_⟩
    refine ⟨_, rfl, a, b, 8, rfl, by decide, by decide, B, fun r H1 r0 r8 B1 kp1 => ?_⟩
    have Fl1 := Fl.keep B kp1 na nb
    refine gn ?_
    dsimp only
    refine sif ?_
    refine and2 (b := decide (r < 3)) (c := decide (0 < dp)) (fun Q q => ⟨_, rfl, _, _, rfl, rfl, _, rfl, q⟩) (fun _ Q q => ⟨_, rfl, _, _, rfl, rfl, _, rfl, q⟩) ?_
    cases hb : (decide (r < 3) && decide (0 < dp)) with
    | true =>
      rw [Bool.and_eq_true, decide_eq_true_eq, decide_eq_true_eq] at hb
      refine iteT ?_
      obtain ⟨c, hc, hop⟩ : ∃ c, atI (Str.ofString "+-*").cps.toList r = some c ∧ (⟨#[c]⟩ : Str) ∈ [Str.ofString "+", Str.ofString "-", Str.ofString "*"] := by
        have h : r = 0 ∨ r = 1 ∨ r = 2 := by omega
        rcases h with rfl | rfl | rfl
        · exact ⟨43, by decide +kernel, by decide +kernel⟩
        · exact ⟨45, by decide +kernel, by decide +kernel⟩
        · exact ⟨42, by decide +kernel, by decide +kernel⟩
      refine ⟨_, rfl, Str.ofString "+-*", r, c, rfl, rfl, by decide, hc, _, rfl, _, rfl, _, rfl, _, _, rfl, rfl, a, b, l, fl, dp - 1, rfl, by omega, by omega, B1, Fl1, na, nb, h100, fun v1 t1 H2 B2 kp2 T2 I2 e2 => ?_⟩
      refine ⟨_, rfl, _, rfl, _, rfl, _, _, rfl, rfl, a, b, l, fl, dp - 1, rfl, by omega, by omega, B2, Fl1.keep B1 kp2 na nb, na, nb, h100, fun v2 t2 H3 B3 kp3 T3 I3 e3 => ⟨(by show 3 ≤ sizeLine; decide), fun p hp => ?_⟩⟩
      have s4 := Same.new (o := .tup [.str ⟨#[c]⟩, v1, v2]) hp
      refine k _ (.bin ⟨#[c]⟩ t1 t2) _ (B3.same s4) (kp1.trans (kp2.trans (kp3.trans (Keep.same s4)))) ⟨p, v1, v2, rfl, SqT.of upd_same, (T2.keep (kp3.n B2)).keep (KeepN.of s4), T3.keep (KeepN.of s4)⟩ (.bin hop I2 I3) ?_
      show max t1.depth t2.depth + 1 ≤ dp.toNat
      omega
    | false =>
      refine iteF ?_
      have num : ∀ Hc, HAt Hc a b → Keep a b H Hc → tTup (tCons (tC (V.str (Str.ofString "num"))) (tCons (tCall spNumber [] E0 (tCons (tVar 0) tNil)) tNil)) [some (.ref a), some (.ref l), some (.int dp), some (.int r)] Hc Q := fun Hc Bc kpc =>
        ⟨_, rfl, a, b, rfl, Bc, fun x H2 x0 x1 B2 kp2 => ⟨(by show 2 ≤ sizeLine; decide), fun p hp => k _ (.num x) _ (B2.same (Same.new hp)) (kpc.trans (kp2.trans (Keep.same (Same.new hp)))) ⟨p, rfl, SqT.of upd_same⟩ (.num x0 x1) (Nat.zero_le _)⟩⟩
      by_cases c5 : r < 5
      · refine ⟨_, rfl, _, _, rfl, rfl, _, rfl, ?_⟩
        rw [show decide (r < 5) = true from decide_eq_true c5]
        exact iteT (iteT (num H1 B1 kp1))
      · refine ⟨_, rfl, _, _, rfl, rfl, _, rfl, ?_⟩
        rw [show decide (r < 5) = false from decide_eq_false c5]
        refine iteF ⟨_, rfl, (by show 0 ≤ sizeLine; decide), fun e he => ?_⟩
        have s2 := Same.new (o := .lst []) he
        have Fl2 := Fl1.same s2
        obtain ⟨vs, hl, pr, ok⟩ := id Fl2
        refine ⟨_, _, .lst (SqL.of hl) (fl_dp pr), .lst (SqL.of upd_same) .nil, fl_shaped ok, rfl, _, rfl, ?_⟩
        rw [eqv_fl]
        cases hfl : fl.isEmpty with
        | true => exact iteT (num _ (B1.same s2) (kp1.trans (Keep.same s2)))
        | false =>
          refine iteF (te_field (K := K) (a := a) (b := b) (l := l) (fl := fl) rfl rfl (B1.same s2) Fl2 na nb h100 (fun z => by rw [z] at hfl; cases hfl) fun v q H' m B' kp' T' => ?_)
          exact k v _ H' B' (kp1.trans ((Keep.same s2).trans kp')) T' (.field m) (Nat.zero_le _)
theorem all_term {f fn fu : Addr} {fd fdn fdu : FuncData} (F : Fun K "_law_term" "_law_term" sLterm f fd) (T : Txt mg) (Cnext : Cal P w K mg base 1 "_law_next" ["_law_h", "_law_many"] spNext fn fdn) (Cnumber : Cal P w K mg base 2 "_law_number" ["_law_h"] spNumber fu fdu)
    (g : mg "_law_term" = some (.ref f)) (b : Binds K fd ["_law_h", "_law_fields", "_law_deep"] []) : ∀ n : Nat, FnOk P w K mg base CX0 (n + 2) f fd ["_law_h", "_law_fields", "_law_deep"] (spTerm K n)
  | 0 => none_left fun vs H Q E h => by
    obtain ⟨_, _, _, _, _, _, h0, h1, _⟩ := h
    omega
  | n + 1 => ok_term F T (Cnext.mono (by omega)) (Cnumber.mono (by omega)) ⟨g, F.kp, b, all_term F T Cnext Cnumber g b n⟩
theorem scCond : FnScope ["_law_h", "_law_fields", "_law_deep", "_law_way", "_law_word_here", "_law_some_here", "_law_k", "_law_field", "_law_pair"] ["_law_h", "_law_fields", "_law_deep"] (defScope sLcond) := ⟨rfl, rfl, rfl, by decide +kernel, rfl, by decide +kernel, by decide +kernel⟩
theorem ok_cond {n : Nat} {f fn ft : Addr} {fd fdn fdt : FuncData} (F : Fun K "_law_cond" "_law_cond" sLcond f fd) (T : Txt mg) (Cnext : Cal P w K mg base (n + 4) "_law_next" ["_law_h", "_law_many"] spNext fn fdn) (Cterm : Cal P w K mg base (n + 4) "_law_term" ["_law_h", "_law_fields", "_law_deep"] (spTerm K 2) ft fdt)
    (Ccond : Cal P w K mg base (n + 4) "_law_cond" ["_law_h", "_law_fields", "_law_deep"] (spCond K n) f fd) : FnOk P w K mg base CX0 (n + 5) f fd ["_law_h", "_law_fields", "_law_deep"] (spCond K (n + 1)) := by
  refine F.ok scCond (fun vs H Q E h => ?_) (fun cdv A outer s H vs Q E hr h => ?_)
  · obtain ⟨a, b, l, fl, dp, rfl, _⟩ := h
    rfl
  · obtain ⟨a, b, l, fl, dp, rfl, d0, dn, B, Fl, na, nb, h100, k⟩ := h
    have hr1 : Room (n + 4) _ := hr
    refine ⟨_, (pss_cons (ps_set (i := 3) scCond.nd rfl (Or.inl rfl) (pe_call Cnext.G hr1 rfl Cnext.g Cnext.kp Cnext.b .nil pass0 (pa_cons (pv 0) (pa_cons pe_int pa_nil))))
      (pss_cons (ps_if (PW.pt (pw_and (pt_cmpR op_lt (pv 3) pe_int (nomark _)) (pw_and1 (pt_cmpR op_gt (pv 2) pe_int (nomark _))))) (pss_cons (ps_set (i := 4) scCond.nd rfl (Or.inl rfl) (pe_ix (RK.ixL (K := K)) (pe_lst (pa_cons pe_str (pa_cons pe_str (pa_cons pe_str (pa_cons pe_str pa_nil))))) (pv 3) (fun _ _ => rfl)))
        (pss_cons (ps_set (i := 5) scCond.nd rfl (Or.inl rfl) (pe_callTy (RK.tupQ (K := K)) (by rfl) T.tuple (by decide +kernel) (pa_cons (pe_lc (own := [("_law_k", 6)]) rfl scCond.nd (pi_range1 rfl T.range (pa_cons (pe_ifExp (pt_cmpR op_eq (pv 4) pe_str (nomark _)) pe_int pe_int) pa_nil)) (blkOk_by (N := ["_law_h", "_law_fields", "_law_deep", "_law_way", "_law_word_here", "_law_some_here", "_law_k", "_law_field", "_law_pair"]) (sc := defScope sLcond) (by decide +kernel)) (fun _ _ _ _ _ => (pg_name (i := 6) scCond.nd rfl (Or.inl rfl))) (fun _ _ _ _ _ => pts_nil) (fun _ _ _ _ _ => (pe_call Ccond.G hr1 rfl Ccond.g Ccond.kp Ccond.b .nil pass0 (pa_cons (pv 0) (pa_cons (pv 1) (pa_cons (pe_op op_sub (pv 2) pe_int) pa_nil)))))) pa_nil)))
        (pss_one (ps_ret (pe_op (RK.catT (K := K)) (pe_tup (pa_cons (pv 4) pa_nil)) (pv 5)))))) pss_nil)
      (pss_cons (ps_set (i := 4) scCond.nd rfl (Or.inl rfl) (pe_ix (RK.ixL (K := K)) (pe_lst (pa_cons pe_str (pa_cons pe_str (pa_cons pe_str (pa_cons pe_str (pa_cons pe_str pa_nil)))))) (pe_call Cnext.G hr1 rfl Cnext.g Cnext.kp Cnext.b .nil pass0 (pa_cons (pv 0) (pa_cons pe_int pa_nil))) (fun _ _ => rfl)))
      (pss_cons (ps_if (PW.pt (pw_and (pt_cmpR op_gt (pe_call Cnext.G hr1 rfl Cnext.g Cnext.kp Cnext.b .nil pass0 (pa_cons (pv 0) (pa_cons pe_int pa_nil))) pe_int (nomark _)) (pw_and1 (pt_cmpR (RK.neD (K := K) hr.units) (pv 1) (pe_lst pa_nil) (nomark _))))) (pss_cons (ps_set (i := 7) scCond.nd rfl (Or.inl rfl) (pe_op (RK.catT (K := K)) (pe_tup (pa_cons pe_str pa_nil)) (pe_ix (RK.ixL (K := K)) (pv 1) (pe_call Cnext.G hr1 rfl Cnext.g Cnext.kp Cnext.b .nil pass0 (pa_cons (pv 0) (pa_cons (pe_callB (RK.lenQ (K := K)) (by rfl) T.len PySem.boot_len (pa_cons (pv 1) pa_nil)) pa_nil))) (fun _ _ => rfl))))
        (pss_cons (ps_set (i := 8) scCond.nd rfl (Or.inl rfl) (pe_tup (pa_cons (pv 7) (pa_cons (pe_tup (pa_cons pe_str (pa_cons (pe_call Cnext.G hr1 rfl Cnext.g Cnext.kp Cnext.b .nil pass0 (pa_cons (pv 0) (pa_cons pe_int pa_nil))) pa_nil))) pa_nil))))
        (pss_one (ps_ret (pe_op (RK.catT (K := K)) (pe_tup (pa_cons (pv 4) pa_nil)) (pe_ifExp (pt_cmpR op_eq (pe_call Cnext.G hr1 rfl Cnext.g Cnext.kp Cnext.b .nil pass0 (pa_cons (pv 0) (pa_cons pe_int pa_nil))) pe_int (nomark _)) (pv 8) (L2.pe_revP (K := K) (pv 8)))))))) pss_nil)
      (pss_one (ps_ret (pe_tup (pa_cons (pv 4) (pa_cons (pe_call Cterm.G hr1 rfl Cterm.g Cterm.kp Cterm.b .nil pass0 (pa_cons (pv 0) (pa_cons (pv 1) (pa_cons pe_int pa_nil)))) (pa_cons (pe_call Cterm.G hr1 rfl Cterm.g Cterm.kp Cterm.b .nil pass0 (pa_cons (pv 0) (pa_cons (pv 1) (pa_cons pe_int pa_nil)))) pa_nil)))))))))), ?_⟩
    refine ⟨_, rfl, a, b, 8, rfl, by decide, by decide, B, fun r H1 r0 r8 B1 kp1 => ?_⟩
    have Fl1 := Fl.keep B kp1 na nb
    refine gn ?_
    dsimp only
    refine sif ?_
    refine and2 (b := decide (r < 4)) (c := decide (0 < dp)) (fun Q q => ⟨_, rfl, _, _, rfl, rfl, _, rfl, q⟩) (fun _ Q q => ⟨_, rfl, _, _, rfl, rfl, _, rfl, q⟩) ?_
    cases hb : (decide (r < 4) && decide (0 < dp)) with
    | true =>
      rw [Bool.and_eq_true, decide_eq_true_eq, decide_eq_true_eq] at hb
      refine iteT ?_
      -- word = [..][way]
      refine ⟨(by show 4 ≤ sizeLine; decide), fun p hp => ?_⟩
      have s2 := Same.new (o := .lst [.str (Str.ofString "and"), .str (Str.ofString "and"), .str (Str.ofString "or"), .str (Str.ofString "not")]) hp
      obtain ⟨word, cnt, hw, hc2, hdec, hkind⟩ : ∃ (word : Str) (cnt : Nat), atI [V.str (Str.ofString "and"), .str (Str.ofString "and"), .str (Str.ofString "or"), .str (Str.ofString "not")] r = some (.str word) ∧ cnt ≤ 2 ∧
          decide (V.str word = V.str (Str.ofString "not")) = decide (cnt = 1) ∧ ((cnt = 1 ∧ word = Str.ofString "not") ∨ (cnt = 2 ∧ word ∈ [Str.ofString "and", Str.ofString "or"])) := by
        have h : r = 0 ∨ r = 1 ∨ r = 2 ∨ r = 3 := by omega
        rcases h with rfl | rfl | rfl | rfl
        · exact ⟨_, 2, rfl, by decide, by decide +kernel, .inr ⟨rfl, by decide +kernel⟩⟩
        · exact ⟨_, 2, rfl, by decide, by decide +kernel, .inr ⟨rfl, by decide +kernel⟩⟩
        · exact ⟨_, 2, rfl, by decide, by decide +kernel, .inr ⟨rfl, by decide +kernel⟩⟩
        · exact ⟨_, 1, rfl, by decide, by decide +kernel, .inl ⟨rfl, rfl⟩⟩
      refine ⟨_, rfl, p, _, r, .str word, rfl, rfl, SqL.of upd_same, hw, ?_⟩
      have B2 := B1.same s2
      have Fl2 := Fl1.same s2
      refine ⟨_, rfl, rfl, _, rfl, ?_⟩
      rw [hdec]
      have cases1 : ∀ {σ : L2.St} {H : Hp} {Qx : VK}, Qx (.int (cnt : Int)) H → (if decide (cnt = 1) = true then tC (.int 1) σ H Qx else tC (.int 2) σ H Qx) := fun {σ H Qx} q => by
        rcases hkind with ⟨e, _⟩ | ⟨e, _⟩ <;> subst e <;> exact q
      refine cases1 ⟨(cnt : Int), rfl, by omega, by omega, fun D hD => ?_⟩
      have nD := B2.ne hD
      refine lc_range (lo := 0) (n := cnt) (fun i H' => ∃ (vs : List V) (ts : List Tr), HAt H' a b ∧ Keep a b (upd H1 p (.lst [.str (Str.ofString "and"), .str (Str.ofString "and"), .str (Str.ofString "or"), .str (Str.ofString "not")])) H' ∧ H' D = some (.lst vs) ∧ Paired (TrAt K H') vs ts ∧ (∀ t ∈ ts, IsCd fl t ∧ t.depth ≤ dp.toNat + 1) ∧ ts.length = i)
        ⟨[], [], B2.same (Same.new hD), Keep.same (Same.new hD), upd_same, .nil, (fun t z => by cases z), rfl⟩ ?_ ?_
      · rintro i H3 hi ⟨vs, ts, B3, kp3, hD3, pr, hts, li⟩
        have Fl3 := Fl2.keep B2 kp3 na nb
        refine ⟨rfl, _, rfl, _, rfl, _, rfl, _, _, rfl, rfl, a, b, l, fl, dp - 1, rfl, by omega, by omega, B3, Fl3, na, nb, h100, fun v t H4 B4 kp4 T4 I4 e4 => ?_⟩
        have hD4 := kp4 D _ nD.1 nD.2 hD3
        have lv : vs.length = i := (Paired.length pr).trans li
        refine ⟨vs, hD4, Nat.lt_of_le_of_lt (show vs.length ≤ 2 by omega) (by decide), vs ++ [v], ts ++ [t], B4.upd nD, ?_, upd_same, ?_, ?_, ?_⟩
        · intro x o h1 h2 h
          rw [upd_ne (ne_of_none h hD)]
          exact kp4 x o h1 h2 (kp3 x o h1 h2 h)
        · exact Paired.snoc (Paired.mapP pr fun _ _ q => (q.keep (kp4.n B3)).keep (KeepN.lst hD4)) (T4.keep (KeepN.lst hD4))
        · intro t' m
          rcases List.mem_append.mp m with m | m
          · exact hts t' m
          · obtain rfl := List.mem_singleton.mp m
            exact ⟨I4, by omega⟩
        · rw [List.length_append, li]
          rfl
      · rintro H3 ⟨vs, ts, B3, kp3, hD3, pr, hts, li⟩
        refine ⟨D, vs, rfl, .inl ⟨SqL.of hD3, fun q hq => ?_⟩⟩
        have s4 := Same.new (o := .tup vs) hq
        refine ⟨_, rfl, (by show 1 ≤ sizeLine; decide), fun p5 hp5 => ?_⟩
        have s5 := Same.new (o := .tup [.str word]) hp5
        have lv : vs.length = cnt := (Paired.length pr).trans li
        refine ⟨_, rfl, p5, q, _, _, rfl, rfl, SqT.of upd_same, SqT.of (s5 _ _ upd_same), (by show 1 + vs.length ≤ sizeLine; exact Nat.le_trans (show 1 + vs.length ≤ 3 by omega) (by decide)), (fun z => by cases z), (fun _ z => ?_), fun _ _ p6 hp6 => ?_⟩
        · rw [z] at lv
          rcases hkind with ⟨e, _⟩ | ⟨e, _⟩ <;> subst e <;> cases lv
        · have s6 := Same.new (o := .tup ([V.str word] ++ vs)) hp6
          have s46 := s4.trans (s5.trans s6)
          have kp : Keep a b H _ := kp1.trans ((Keep.same s2).trans (kp3.trans (Keep.same s46)))
          rcases hkind with ⟨e, rfl⟩ | ⟨e, hword⟩
          · subst e
            cases pr with
            | nil => cases li
            | @cons v t vs2 ts2 h1 h2 =>
              cases h2 with
              | cons _ _ => exact absurd lv (by simp)
              | nil =>
                obtain ⟨i1, e1⟩ := hts t List.mem_cons_self
                exact k _ (.not t) _ (B3.same s46) kp ⟨p6, v, rfl, SqT.of upd_same, h1.keep (KeepN.of s46)⟩ (.not i1) (by show t.depth + 1 ≤ _; omega)
          · subst e
            cases pr with
            | nil => cases li
            | @cons v t vs2 ts2 h1 h2 =>
              cases h2 with
              | nil => cases li
              | @cons v' t' vs3 ts3 h3 h4 =>
                cases h4 with
                | cons _ _ => exact absurd lv (by simp)
                | nil =>
                  obtain ⟨i1, e1⟩ := hts t List.mem_cons_self
                  obtain ⟨i2, e2⟩ := hts t' (List.mem_cons_of_mem _ List.mem_cons_self)
                  exact k _ (.bin word t t') _ (B3.same s46) kp ⟨p6, v, v', rfl, SqT.of upd_same, h1.keep (KeepN.of s46), h3.keep (KeepN.of s46)⟩ (.join hword i1 i2) (by show max t.depth t'.depth + 1 ≤ _; omega)
    | false =>
      refine iteF ?_
      refine ⟨(by show 5 ≤ sizeLine; decide), fun p hp => ?_⟩
      have s2 := Same.new (o := .lst (signs.map V.str)) hp
      have np := B1.ne hp
      refine ⟨_, rfl, a, b, 5, rfl, by decide, by decide, B1.same s2, fun x H3 x0 x5 B3 kp3 => ?_⟩
      have hp3 : H3 p = some (.lst (signs.map V.str)) := kp3 p _ np.1 np.2 upd_same
      obtain ⟨word, hw, hword⟩ : ∃ word : Str, atI (signs.map V.str) x = some (.str word) ∧ word ∈ signs := by
        have h : x = 0 ∨ x = 1 ∨ x = 2 ∨ x = 3 ∨ x = 4 := by omega
        rcases h with rfl | rfl | rfl | rfl | rfl
        · exact ⟨_, rfl, by decide +kernel⟩
        · exact ⟨_, rfl, by decide +kernel⟩
        · exact ⟨_, rfl, by decide +kernel⟩
        · exact ⟨_, rfl, by decide +kernel⟩
        · exact ⟨_, rfl, by decide +kernel⟩
      have kp03 : Keep a b H H3 := kp1.trans ((Keep.same s2).trans kp3)
      have Fl3 := Fl.keep B kp03 na nb
      refine ⟨p, _, x, .str word, rfl, rfl, SqL.of hp3, hw, ?_⟩
      have terms : ∀ Hc, HAt Hc a b → Keep a b H Hc → tTup (tCons (tVar 4) (tCons (tCall (spTerm K 2) [] E0 (tCons (tVar 0) (tCons (tVar 1) (tCons (tC (.int 1)) tNil)))) (tCons (tCall (spTerm K 2) [] E0 (tCons (tVar 0) (tCons (tVar 1) (tCons (tC (.int 1)) tNil)))) tNil)))
          [some (.ref a), some (.ref l), some (.int dp), some (.int r), some (.str word), none, none, none, none] Hc Q := fun Hc Bc kpc => by
        have Flc := Fl.keep B kpc na nb
        refine ⟨_, rfl, _, rfl, _, rfl, a, b, l, fl, 1, rfl, by decide, by decide, Bc, Flc, na, nb, h100, fun v1 t1 H4 B4 kp4 T4 I4 e4 => ?_⟩
        refine ⟨_, rfl, _, rfl, a, b, l, fl, 1, rfl, by decide, by decide, B4, Flc.keep Bc kp4 na nb, na, nb, h100, fun v2 t2 H5 B5 kp5 T5 I5 e5 => ⟨(by show 3 ≤ sizeLine; decide), fun p6 hp6 => ?_⟩⟩
        have s6 := Same.new (o := .tup [.str word, v1, v2]) hp6
        refine k _ (.bin word t1 t2) _ (B5.same s6) (kpc.trans (kp4.trans (kp5.trans (Keep.same s6)))) ⟨p6, v1, v2, rfl, SqT.of upd_same, (T4.keep (kp5.n B4)).keep (KeepN.of s6), T5.keep (KeepN.of s6)⟩ (.cmp hword I4 I5) ?_
        have e4' : t1.depth ≤ 1 := e4
        have e5' : t2.depth ≤ 1 := e5
        show max t1.depth t2.depth + 1 ≤ _
        omega
      refine ⟨_, rfl, a, b, 3, rfl, by decide, by decide, B3, fun y H4 y0 y3 B4 kp4 => ⟨_, _, rfl, rfl, _, rfl, ?_⟩⟩
      have kp04 := kp03.trans kp4
      have Fl4 := Fl.keep B kp04 na nb
      refine ite2 (fun _ => ?_) (fun _ => iteF (terms H4 B4 kp04))
      refine ⟨_, rfl, (by show 0 ≤ sizeLine; decide), fun e he => ?_⟩
      have s5 := Same.new (o := .lst []) he
      have Fl5 := Fl4.same s5
      obtain ⟨vs, hl, pr, ok⟩ := id Fl5
      refine ⟨_, _, .lst (SqL.of hl) (fl_dp pr), .lst (SqL.of upd_same) .nil, fl_shaped ok, rfl, _, rfl, ?_⟩
      rw [eqv_fl]
      have kp05 := kp04.trans (Keep.same s5)
      cases hfl : fl.isEmpty with
      | true => exact iteF (terms _ (B4.same s5) kp05)
      | false =>
        refine iteT (te_field (K := K) (a := a) (b := b) (l := l) (fl := fl) rfl rfl (B4.same s5) Fl5 na nb h100 (fun z => by rw [z] at hfl; cases hfl) fun v q H6 m B6 kp6 T6 => ?_)
        refine ⟨_, rfl, _, rfl, a, b, 8, rfl, by decide, by decide, B6, fun z H7 z0 z8 B7 kp7 => ⟨(by show 2 ≤ sizeLine; decide), fun p8 hp8 => ⟨(by show 2 ≤ sizeLine; decide), fun p9 hp9 => ?_⟩⟩⟩
        have s8 := Same.new (o := .tup [.str (Str.ofString "num"), .int z]) hp8
        have s9 := Same.new (o := .tup [v, .ref p8]) hp9
        have s89 := s8.trans s9
        have T9 := (T6.keep (kp7.n B6)).keep (KeepN.of s89)
        have N9 : TrAt K _ (.ref p8) (.num z) := ⟨p8, rfl, SqT.of (s9 _ _ upd_same)⟩
        refine ⟨_, rfl, (by show 1 ≤ sizeLine; decide), fun pa hpa => ?_⟩
        have sa := Same.new (o := .tup [.str word]) hpa
        have B10 := (B7.same s89).same sa
        have kp10 : Keep a b H _ := kp05.trans (kp6.trans (kp7.trans (Keep.same (s89.trans sa))))
        refine ⟨_, rfl, a, b, 2, rfl, by decide, by decide, B10, fun u H11 u0 u2 B11 kp11 => ⟨rfl, _, rfl, ?_⟩⟩
        have kn11 := (KeepN.of sa).trans (kp11.n B10)
        have T11 := T9.keep kn11
        have N11 := N9.keep kn11
        have hpair : SqT K H11 p9 [v, .ref p8] := kn11.t (SqT.of upd_same)
        have hword1 : SqT K H11 pa [.str word] := (kp11.n B10).t (SqT.of upd_same)
        have kp011 : Keep a b H H11 := kp10.trans kp11
        have fin : ∀ (pc : Addr) (v1 v2 : V) (t1 t2 : Tr) (H12 : Hp), Same H11 H12 → SqT K H12 pc [v1, v2] → TrAt K H12 v1 t1 → TrAt K H12 v2 t2 → IsTm fl t1 → IsTm fl t2 → t1.depth = 0 → t2.depth = 0 → rCatA K (.ref pa) (.ref pc) H12 Q := fun pc v1 v2 t1 t2 H12 s12 hpc a1 a2 i1 i2 e1 e2 =>
          ⟨pa, pc, _, _, rfl, rfl, (KeepN.of s12).t hword1, hpc, (by show 1 + 2 ≤ sizeLine; decide), (fun z => by cases z), (fun _ z => by cases z), fun _ _ pd hpd => by
            have sd := Same.new (o := .tup ([V.str word] ++ [v1, v2])) hpd
            refine k _ (.bin word t1 t2) _ ((B11.same s12).same sd) (kp011.trans (Keep.same (s12.trans sd))) ⟨pd, v1, v2, rfl, SqT.of upd_same, a1.keep (KeepN.of sd), a2.keep (KeepN.of sd)⟩ (.cmp hword i1 i2) ?_
            show max t1.depth t2.depth + 1 ≤ _
            rw [e1, e2]
            omega⟩
        refine ite2 (fun _ => ?_) (fun _ => ?_)
        · exact ⟨_, rfl, fin p9 _ _ _ _ H11 (Same.refl _) hpair T11 N11 (.field m) (.num (by omega) (by omega)) rfl rfl⟩
        · refine ⟨_, rfl, p9, _, _, rfl, hpair, fun pe hpe => ?_⟩
          have se := Same.new (o := .tup [.ref p8, v]) hpe
          exact fin pe _ _ _ _ _ se (SqT.of upd_same) (N11.keep (KeepN.of se)) (T11.keep (KeepN.of se)) (.num (by omega) (by omega)) (.field m) rfl rfl
end
end K06

namespace K06
open PySem L2

theorem pair_app {α β : Type} {R : α → β → Prop} : ∀ {a c : List α} {b d : List β}, Paired R a b → Paired R c d → Paired R (a ++ c) (b ++ d)
  | _, _, _, _, .nil, q => q
  | _, _, _, _, .cons h t, q => .cons h (pair_app t q)
def flOf (sh : List (Str × List Str)) (ts : List Str) : List (Str × Str) := ts.flatMap fun t => ((sh.lookup t).getD []).map fun f => (t, f)
def spSome (K : PySem.W.Frag) : Sp := fun vs H Q _ => ∃ (v0 : V) (d l : Addr) (sh : List (Str × List Str)) (ts : List Str), vs = [v0, .ref d, .ref l] ∧ ShapesAt K H d sh ∧ SqL K H l (ts.map V.str) ∧ (∀ t ∈ ts, ∃ fs, sh.lookup t = some fs ∧ fs.length ≤ 4) ∧ ts.length ≤ 3 ∧ FlOk (flOf sh ts) ∧
  ∀ (r : Addr) (H' : Hp), Same H H' → H r = none → FlAt K H' r (flOf sh ts) → (flOf sh ts).length ≤ 12 → Q (.ref r) H'
section
variable {P : Program} {w : World} {K : PySem.W.Frag} {mg : Str → Option Value} {base : Heap}
theorem scSome : FnScope ["_law_h", "_law_shapes_here", "_law_tables", "_law_found", "_law_table", "_law_field"] ["_law_h", "_law_shapes_here", "_law_tables"] (defScope sLsome) := ⟨rfl, rfl, rfl, by decide +kernel, rfl, by decide +kernel, by decide +kernel⟩
theorem ok_some {f : Addr} {fd : FuncData} (F : Fun K "_law_some" "_law_some" sLsome f fd) : FnOk P w K mg base CX0 1 f fd ["_law_h", "_law_shapes_here", "_law_tables"] (spSome K) := by
  refine F.ok scSome (fun vs H Q E h => ?_) (fun cdv A outer s H vs Q E hr h => ?_)
  · obtain ⟨v0, d, l, sh, ts, rfl, _⟩ := h
    rfl
  · obtain ⟨v0, d, l, sh, ts, rfl, S, hl, hts, t3, ok, k⟩ := h
    refine ⟨_, (pss_cons (ps_set (i := 3) scSome.nd rfl (Or.inl rfl) (pe_lst pa_nil))
      (pss_cons (ps_for PassesOwn.never rfl (RK.piL (K := K) (pv 2)) (pg_name (i := 4) scSome.nd rfl (Or.inr rfl))
        (pss_one (ps_set (i := 3) scSome.nd rfl (Or.inl rfl) (pe_op op_cat (pv 3) (pe_lc (own := [("_law_field", 5)]) rfl scSome.nd (RK.piT (K := K) (pe_dget (hu_of hr) (pv 1) (pv 4) (fun _ _ => rfl))) (blkOk_by (N := ["_law_h", "_law_shapes_here", "_law_tables", "_law_found", "_law_table", "_law_field"]) (sc := defScope sLsome) (by decide +kernel)) (fun _ _ _ _ _ => (pg_name (i := 5) scSome.nd rfl (Or.inl rfl))) (fun _ _ _ _ _ => pts_nil) (fun _ _ _ _ _ => (pe_tup (pa_cons (pv 4) (pa_cons (pv 5) pa_nil)))))))))
      (pss_one (ps_ret (pv 3))))), ?_⟩
    have lt : (ts.map V.str).length = ts.length := List.length_map ..
    refine ⟨(by show 0 ≤ sizeLine; decide), fun p hp => ?_⟩
    have s0 := Same.new (o := .lst []) hp
    refine ⟨_, rfl, l, rfl, ⟨_, s0.seq hl⟩, for_list (K := K) (a := l) (xs := ts.map V.str) (fun i σ H' => ∃ (r : Addr) (v4 v5 : Option V) (vs : List V), σ = [some v0, some (.ref d), some (.ref l), some (.ref r), v4, v5] ∧ Same H H' ∧ H r = none ∧ H' r = some (.lst vs) ∧ Paired (FlR K H') vs (flOf sh (ts.take i)) ∧ vs.length ≤ 4 * i)
      ⟨p, none, none, [], rfl, s0, hp, upd_same, .nil, Nat.le_refl _⟩ (fun i σ H' _ ⟨_, _, _, _, _, sm, _⟩ => sm.seq hl) ?_ ?_⟩
    · rintro i y σ H1 hi ⟨r, v4, v5, vs, rfl, sm, r0, hr1, pr, lv⟩
      have hi1 : i < ts.length := by have q := (List.getElem?_eq_some_iff.mp hi).1; omega
      obtain rfl : y = .str ts[i] := by rw [List.getElem?_map, List.getElem?_eq_getElem hi1] at hi; exact (Option.some.inj hi).symm
      obtain ⟨fs, hfs, f4⟩ := hts ts[i] (List.getElem_mem hi1)
      obtain ⟨kvs, hd, prs⟩ := S.keep (KeepN.of sm)
      have tk : flOf sh (ts.take (i + 1)) = flOf sh (ts.take i) ++ fs.map fun f => (ts[i], f) := by
        rw [List.take_add_one, List.getElem?_eq_getElem hi1]
        unfold flOf
        rw [List.flatMap_append]
        simp [hfs]
      rcases pr_look ts[i] prs with ⟨e1, _⟩ | ⟨x, v, e1, e2, t, rfl, ht⟩
      · rw [hfs] at e1
        cases e1
      obtain rfl : fs = x := by rw [hfs] at e1; exact Option.some.inj e1
      refine ⟨_, rfl, _, rfl, _, rfl, d, _, rfl, .inl ⟨kvs, .inr ts[i], .inl hd, rfl, e2.symm⟩, t, rfl, ⟨_, ht⟩, fun D hD => ?_⟩
      have nrD : r ≠ D := ne_of_none hr1 hD
      refine lc_tup (K := K) (a := t) (xs := fs.map V.str) (fun j H2 => Same H1 H2 ∧ ∃ ws, H2 D = some (.lst ws) ∧ Paired (FlR K H2) ws ((fs.take j).map fun f => (ts[i], f)) ∧ ws.length = j)
        ⟨Same.new hD, [], upd_same, .nil, rfl⟩ (fun j H2 _ ⟨s2, _⟩ => (KeepN.of s2).t ht) ?_ ?_
      · rintro j x H2 hx ⟨s2, ws, hD2, pw, lw⟩
        have hj : j < fs.length := by have q := (List.getElem?_eq_some_iff.mp hx).1; rw [List.length_map] at q; exact q
        obtain rfl : x = .str fs[j] := by rw [List.getElem?_map, List.getElem?_eq_getElem hj] at hx; exact (Option.some.inj hx).symm
        refine ⟨rfl, _, rfl, _, rfl, (by show 2 ≤ sizeLine; decide), fun q hq => ?_⟩
        have s3 := Same.new (o := .tup [.str ts[i], .str fs[j]]) hq
        have hD3 := s3 _ _ hD2
        refine ⟨ws, hD3, Nat.lt_of_le_of_lt (show ws.length ≤ 4 by omega) (by decide), fun b o e => ?_, ws ++ [.ref q], upd_same, ?_, by rw [List.length_append, lw]; rfl⟩
        · rw [upd_ne (ne_of_none e hD)]
          exact s3 _ _ (s2 _ _ e)
        · have tk2 : fs.take (j + 1) = fs.take j ++ [fs[j]] := by rw [List.take_add_one, List.getElem?_eq_getElem hj]; rfl
          rw [tk2, List.map_append]
          exact Paired.snoc (fl_mono (fun _ _ z => (KeepN.lst hD3).t ((KeepN.of s3).t z)) pw) ⟨q, rfl, (KeepN.lst hD3).t (SqT.of upd_same)⟩
      · rintro H2 ⟨s2, ws, hD2, pw, lw⟩
        rw [List.length_map] at lw
        rw [List.length_map, List.take_length] at pw
        refine ⟨r, D, vs, ws, rfl, rfl, s2 _ _ hr1, hD2, Nat.le_trans (show vs.length + ws.length ≤ 16 by omega) (by decide), fun q hq => ?_⟩
        have s3 := Same.new (o := .lst (vs ++ ws)) hq
        have s13 := s2.trans s3
        have q0 : H q = none := by
          cases e : H q with
          | none => rfl
          | some o => rw [s2 _ _ (sm _ _ e)] at hq; cases hq
        refine ⟨q, _, _, vs ++ ws, rfl, sm.trans s13, q0, upd_same, ?_, by rw [List.length_append]; omega⟩
        rw [tk]
        exact pair_app (fl_mono (fun _ _ z => (KeepN.of s13).t z) pr) (fl_mono (fun _ _ z => (KeepN.of s3).t z) pw)
    · rintro σ H' ⟨r, v4, v5, vs, rfl, sm, r0, hr1, pr, lv⟩
      rw [lt, List.take_length] at pr
      have le : (flOf sh ts).length ≤ 12 := by rw [← (Paired.length pr)]; omega
      exact ⟨_, rfl, k r H' sm r0 ⟨vs, hr1, pr, ok⟩ le⟩
end
end K06

set_option linter.all false
set_option maxHeartbeats 1000000
namespace K06
open PySem L2
/-! ### what is written, pure -/
abbrev joins : List Str := [Str.ofString "or", Str.ofString "and", Str.ofString "=", Str.ofString "<", Str.ofString ">", Str.ofString "<=", Str.ofString ">=", Str.ofString "+", Str.ofString "-", Str.ofString "*"]
def opl (op : Str) : Nat := if op = Str.ofString "or" then 1 else if op = Str.ofString "and" then 2 else if op = Str.ofString "+" ∨ op = Str.ofString "-" then 5 else if op = Str.ofString "*" then 6 else 4
def lv : Tr → Nat
  | .num _ => 7
  | .field _ _ => 7
  | .not _ => 3
  | .bin op _ _ => opl op
def isBin : Tr → Bool
  | .bin _ _ _ => true
  | _ => false
def kind : Tr → Str
  | .num _ => Str.ofString "num"
  | .field _ _ => Str.ofString "field"
  | .not _ => Str.ofString "not"
  | .bin op _ _ => op
/-- (t), if it must be -/
def wrap (b : Bool) (t : Str) : Str := if b = true then ((Str.empty ++ Str.ofString "(") ++ t) ++ Str.ofString ")" else t
def seg (op p : Str) : Str := (((Str.empty ++ Str.ofString " ") ++ op) ++ Str.ofString " ") ++ p
def fieldText (t f : Str) : Str := if t = Str.ofString "" then f else ((Str.empty ++ t) ++ Str.ofString ".") ++ f
def tx : Tr → Str
  | .num n => Str.ofString (toString n)
  | .field t f => fieldText t f
  | .not x => Str.ofString "not " ++ wrap (decide (lv x < 3)) (tx x)
  | .bin op l r => wrap (isBin l && decide (lv l < opl op)) (tx l) ++ seg op (wrap (decide (lv r < opl op + 1)) (tx r))
def brL (t : Tr) (L : Nat) : Str := wrap (isBin t && decide (lv t < L)) (tx t)
def st (t : Tr) : Str := wrap (isBin t) (tx t)
def br (t : Tr) (L : Nat) : Str := wrap (decide (lv t < L)) (tx t)
inductive Wr : Tr → Prop where
  | num {n : Int} : -1000000 ≤ n → n ≤ 1000000 → Wr (.num n)
  | field {t f : Str} : PyData.strOk t = true → PyData.strOk f = true → Wr (.field t f)
  | not {x : Tr} : Wr x → Wr (.not x)
  | bin {op : Str} {l r : Tr} : op ∈ joins → Wr l → Wr r → Wr (.bin op l r)
def tsz : Tr → Nat
  | .num n => (Str.ofString (toString n)).length
  | .field t f => t.length + f.length + 1
  | .not x => tsz x + 6
  | .bin op l r => op.length + tsz l + tsz r + 6
theorem wrap_len (b : Bool) (t : Str) : (wrap b t).length ≤ t.length + 2 := by
  unfold wrap
  split
  · rw [Str.length_append, Str.length_append, Str.length_append]
    have a : (Str.ofString "(").length = 1 := by decide +kernel
    have c : (Str.ofString ")").length = 1 := by decide +kernel
    have e : Str.empty.length = 0 := rfl
    omega
  · omega
theorem seg_len (op p : Str) : (seg op p).length = op.length + p.length + 2 := by
  unfold seg
  rw [Str.length_append, Str.length_append, Str.length_append, Str.length_append]
  have a : (Str.ofString " ").length = 1 := by decide +kernel
  have e : Str.empty.length = 0 := rfl
  omega
theorem tx_len : ∀ {t : Tr}, Wr t → (tx t).length ≤ tsz t
  | _, .num _ _ => Nat.le_refl _
  | _, .field _ _ => by
    unfold tx tsz fieldText
    split
    · omega
    · rw [Str.length_append, Str.length_append, Str.length_append]
      have a : (Str.ofString ".").length = 1 := by decide +kernel
      have e : Str.empty.length = 0 := rfl
      omega
  | _, .not (x := x) h => by
    have i := tx_len h
    have w := wrap_len (decide (lv x < 3)) (tx x)
    unfold tx tsz
    rw [Str.length_append]
    have a : (Str.ofString "not ").length = 4 := by decide +kernel
    omega
  | _, .bin (op := op) (l := l) (r := r) _ hl hr => by
    have i := tx_len hl
    have j := tx_len hr
    have w := wrap_len (isBin l && decide (lv l < opl op)) (tx l)
    have v := wrap_len (decide (lv r < opl op + 1)) (tx r)
    unfold tx tsz
    rw [Str.length_append, seg_len]
    omega
theorem brL0 (t : Tr) : brL t 0 = tx t := by
  unfold brL wrap
  rw [decide_eq_false (Nat.not_lt_zero _), Bool.and_false]
  rfl
theorem empty_app (x : Str) : Str.empty ++ x = x := TL.ext_tl (by rw [TL.tl_append]; rfl)
theorem app_assoc (x y z : Str) : (x ++ y) ++ z = x ++ (y ++ z) := TL.ext_tl (by rw [TL.tl_append, TL.tl_append, TL.tl_append, TL.tl_append, List.append_assoc])
end K06

set_option Elab.async false
set_option linter.all false
set_option maxRecDepth 100000
set_option maxHeartbeats 4000000
/-! an own exception over ValueError (its bases may be own classes) whose __init__ says super().__init__(e, ..) first -/
namespace SIX
open PySem PySem.W PySem.Calls PyProof.Rows L2 NdefX ClX
structure SupT (P : Program) (K : PySem.W.Frag) (D cc cda : Addr) : Prop where
  cell : ∃ cl cld csl, K.lookup cc = some ⟨cl, cld, .cell (some (.ref D)), csl⟩
  code : ∃ ccl cdd vs ccs file tf, K.lookup cda = some ⟨ccl, cdd, .fields vs, ccs⟩ ∧ vs[2]? = some (.str file tf) ∧ ((P.main.file : Str) == file) = true
  st : nsIn K cStatics "thirdparty.any" = some none
  mro : ∃ cd, clsIn K D = some cd ∧ alongIn K "__init__" ((cd.mro.dropWhile (· != .ref D)).drop 1) = some (some (.builtin "ValueError.__init__"))
  self : mroIn K D (.ref D) = some true
  ve : subIn K (.ref D) (.type "ValueError") = some true
  oex : OexC K D
theorem cells_one {cc D : Addr} {h : Heap} {H : Hp} (hn : H cc = none) (hc : h.IsCell cc (some (.ref D))) : CellsAt [("__class__", cc)] ["__class__"] [some (V.ref D)] h H := by
  have one : ∀ {y : Str} {c : Addr}, ([("__class__", cc)] : List (Str × Addr)).lookup y = some c → y = "__class__" ∧ c = cc := fun {y c} e => by
    have := PySem.mem_of_lookup e
    have := List.mem_singleton.mp this
    injection this with a b
    exact ⟨a, b⟩
  refine ⟨rfl, fun y c e => ?_, fun x y c e1 e2 => (one e1).1.trans (one e2).1.symm, fun i y e => ?_⟩
  · rw [(one e).2]; exact ⟨hn, _, hc⟩
  · cases i with
    | zero =>
      obtain rfl := Option.some.inj e
      refine ⟨cc, by simp [List.lookup], fun v hv => ?_⟩
      obtain rfl := Option.some.inj (Option.some.inj hv)
      exact ⟨.ref D, rfl, hc⟩
    | succ i => cases e
/-- the wrapper of ValueError.__init__ at u, bound to the exception at a, is called: the exception's arguments are laid anew -/
theorem run_mw {P : Program} {w : World} {A : Around} {E : Value → Shared → Prop} {Q : Value → Shared → Prop} {a u t0 D N : Addr} {ws : List Value} {nm qn : Str} {bs bm sub : List Value} {sn : List Str} {ab : Bool} {col : Option Bool} {dd : Option Addr} {c0 c1 c2 c3 c5 : Option Value} {s : Shared}
    (hu : s.heap.get? u = some (kxs_mw "ValueError.__init__" a)) (hD : s.heap.get? D = some (excClassObj nm qn D N bs bm true sn sub ab col dd c0 c1 c2 c3 c5 "ValueError.__new__")) (hx : s.heap.get? a = some (excRec (.ref D) t0 none .none .none (.bool false))) (hz : ws.length ≤ sizeLine)
    (q : ∀ h' t1, (∀ b o, b ≠ a → s.heap.get? b = some o → h'.get? b = some o) → h'.get? a = some (excRec (.ref D) t1 none .none .none (.bool false)) → Q .none { s with heap := h' }) : wpAny (model P w) A (call (.ref u) ws) Q E s := by
  obtain ⟨h, g, d, t, os⟩ := s
  have VE := PySem.F.excBase_ValueError
  apply wpAny_call
  apply codeAny_of_tree
  change wpAny _ _ (callAny (.ref u) { pos := ws }) _ _ _
  unfold callAny
  apply wpAny_bind
  apply wpAny_load hu
  dsimp only [kxs_mw]
  rw [if_pos (by decide)]
  refine wpAny_bind (check_bound_init VE.toExcCallFacts hD hx rfl (wpAny_bind (wpAny_pure (wpAny_pure ⟨plainId_quiet VE.init.plain _, codeAny_builtin VE.initEntry ?_⟩))))
  exact exc_init_tree (cls := .ref D) (t0 := t0) (dv := none) (c2 := .none) (c3 := .none) (b4 := .bool false) hx hz fun h' k e _ => q h' _ k e
theorem upd_id {H : Hp} {a : Addr} {o : HO} (h : H a = some o) : upd H a o = H := funext fun b => if e : b = a then by rw [e, upd_same, h] else upd_ne e
theorem ok_sup {CX : CXT} {P : Program} {w : World} {K : Frag} {mg : Str → Option Value} {base : Heap} {k : Nat} {f cc D : Addr} {F : NF} {dV kV doc pm ct oc : Value} {an od : Option Addr} {osl : Array (Option Value)} {N ps : List Str} {sp : Sp} {ar : Arg} {p0 p1 p2 p3 p4 : Pos} {e : Expr} {es : List Expr} {rest : List Stmt}
    (lk : K.lookup f = some ⟨oc, od, .func (fnX F.name F.qual F.params F.body F.scope F.cl dV kV doc pm an (.ref F.c) ct), osl⟩) (hcd : codeIn K (.ref F.c) F.qual = true) (hcl : F.cl = [(("__class__" : Str), cc)]) (T : SupT P K D cc F.c) (hm : mg "super" = none)
    (S : NScope N ps ["__class__"] F.scope) (hks : F.scope.names.lookup ("super" : Str) = some .globalImplicit) (htop : (P.main.scope.names.lookup ("super" : Str)).isSome = false) (hp : (F.params.posonlyargs ++ F.params.args).head? = some ar) (har : ps[0]? = some ar.arg)
    (hbody : F.body = .Expr (.Call (.Attribute (.Call (.Name "super" p0) [] [] p1) "__init__" p2) (e :: es) [] p3) p4 :: rest)
    {pl : Env → Sem Bool} (hev : ∀ env : Env, eval (.Call (.Attribute (.Call (.Name "super" p0) [] [] p1) "__init__" p2) (e :: es) [] p3) env = (do
      let ov ← attributeBase (.Call (.Name "super" p0) [] [] p1) "__init__" env (eval (.Call (.Name "super" p0) [] [] p1) env)
      standAt p2.atName
      let (f, first) ← holding [ov] (getMethod ov "__init__" (pl env))
      callWith p3 f first (backTo p3 (starEach (e :: es) env)) []))
    (he : ∀ env : Env, starEach (e :: es) env = (false, eval e env) :: starEach es env) (hpl : ∀ env : Env, (backTo p3 (starEach es env)).any (·.1) = false)
    (len : ∀ vs H Q E, sp vs H Q E → vs.length = ps.length) (hrun : ∀ (A : Around) (outer : List Env) (s : Shared) (H : Hp) (vs : List V) (Q : VK) (E : XK), Room k (A.deeper (envF F f s.heap.objs.size)) → sp vs H Q E → ∃ a vs', vs = .ref a :: vs' ∧ H a = some (exo a D none) ∧ ∃ ta t, PA (ncx CX P w K mg base N F f A outer s H E) (e :: es) ta ∧ PSs (ncx CX P w K mg base N F f A outer s H E) rest t ∧
      ta (startF N vs [some (.ref D)]) H fun ws H1 => ws.length ≤ 1000 ∧ H1 a = some (exo a D none) ∧ t { nx := fun _ H' => Q .non H', rt := Q } (startF N vs [some (.ref D)]) H1) :
    FnOk P w K mg base CX (k + 1) f (fnX F.name F.qual F.params F.body F.scope F.cl dV kV doc pm an (.ref F.c) ct) ps sp := by
  refine FnOk.mk len fun A outer s H args us vs Q E hr e0 hb r hsp => ?_
  have hl : vs.length = ps.length := len vs H Q E hsp
  obtain ⟨a, vs', rfl, ea, ta, t, ha, ht, hq⟩ := hrun A outer s H vs Q E (hr.deeper _) hsp
  have old : ∀ b o, base.get? b = some o → s.heap.get? b = some o := fun b o y => (e0.bs b o y).1
  have KX := e0.mod.kin.keeps old
  have lim := e0.mod.nolimit.keeps old
  obtain ⟨cl, cld, csl, hcell⟩ := T.cell
  have C : CellsAt F.cl ["__class__"] [some (V.ref D)] s.heap H := by
    rw [hcl]
    exact cells_one (e0.bs _ _ (e0.mod.kin _ _ hcell)).2 ⟨_, KX _ _ hcell, rfl⟩
  refine ks_codeAny_call_defAt (fd := fnX F.name F.qual F.params F.body F.scope F.cl dV kV doc pm an (.ref F.c) ct) (body := F.body) (binds := ps.zip us) hr.depth (KX _ _ lk) rfl lim (codeRec_of KX hcd) rfl hb S.nocell (fun ⟨n, _⟩ hy => S.par n (List.of_mem_zip hy).1) (fun h₁ hns kp => ?_) S.co S.gen S.kind
  have I : Inv (ncx CX P w K mg base N F f A outer s H E) [] (startF N (.ref a :: vs') [some (.ref D)]) H { s with heap := h₁, toks := s.toks + (ps.zip us).length } := inv_startN S hr.hd e0 hl r C hns kp
  show PySem.wpAt (model P w) (A.deeper (envF F f s.heap.objs.size)) (.func F.body (envF F f s.heap.objs.size)) (execs F.body (envF F f s.heap.objs.size)) _ _ _
  rw [hbody]
  have KX1 : K.In h₁ := I.kIn
  obtain ⟨ccl, cdd, cvs, ccs, file, tf, hcode, hvs, hfile⟩ := T.code
  obtain ⟨cd, hcls, halong⟩ := T.mro
  have hkc : F.scope.names.lookup ("__class__" : Str) = some .free := S.frk _ (List.mem_singleton.mpr rfl)
  obtain ⟨mb, mb1, mb2⟩ := I.mod.blt
  have hs0 : us[0]? = some (.ref a) := by
    cases r with
    | cons ra rv =>
      obtain rfl : _ = Value.ref a := ra
      rfl
  have ndP : ps.Nodup := by
    have q := S.nd.sublist (List.take_sublist (ps.length + 1) N)
    rw [show ps.length + 1 = ps.length + [("__class__" : Str)].length from rfl, S.pre] at q
    exact (List.nodup_append.mp q).left
  have hself : (ps.zip us).reverse.lookup ar.arg = some (.ref a) := zip_look ndP har hs0
  have hka : F.scope.names.lookup ar.arg = some .local := S.par _ (List.mem_of_getElem? har)
  obtain ⟨t0, hx⟩ := exo_at I.hok ea
  obtain ⟨nm, qn, N', bs, bm, sn, sub, ab, col, dd, c0, c1, c2, c3, c5, hDK, hbm⟩ := T.oex.cls
  have hD := KX1 _ _ hDK
  refine ks_wpAt_execs_cons (ks_wpAt_Expr_any (hi := by show interactive _ = false; unfold interactive; rw [show (envF F f s.heap.objs.size).scope.kind = .function from S.kind]; rfl) (ks_wpAt_MethodCall (ks_wpAt_super_base (f := f) (cc := F.c) (env := envF F f s.heap.objs.size) hks hkc (by decide) rfl (KX1 _ _ lk) rfl hp rfl (KX1 _ _ hcode) rfl hvs hfile htop ?_) (hev _)))
  refine ks_loadName_global S.kind hks (Calls.loadGlobal_builtin (I.mod.glob.keeps I.bk) hm (mb1.keeps I.bk) ((mb2 _ (by decide)).trans (by first | rfl | kernel_rfl)) ⟨rfl, ?_⟩)
  refine wpAny_loadName_free (c := cc) S.kind hkc (by show F.cl.lookup _ = _; rw [hcl]; simp [List.lookup]) ⟨_, KX1 _ _ hcell, rfl⟩ ?_
  refine wpAny_loadName_local S.kind hka hns hself ?_
  refine ks_wpAny_isType_cls hD rfl ⟨rfl, ?_⟩
  refine ks_wpAny_call_super hD rfl hx rfl (fun c e => by cases e) (looks_mroIn KX1 T.self) (fun h2 e2 k2 => ?_)
  have I2 := pin_new (t' := s.toks + (ps.zip us).length) I k2 (Nat.le_refl _) e2 (fun v z => nomatch z)
  have KX2 : K.In h2 := I2.kIn
  have hx2 := k2 _ _ hx
  have J2 : InstAt h2 a _ D none := ⟨hx2, rfl, rfl, trivial⟩
  have hI : Looks (model P w) h2 (isInstance (.ref a) (.type "ValueError")) true := J2.type.andThen (looks_subIn KX2 T.ve)
  have hxD : a ≠ D := ks_ne KX2 J2 hcls
  refine kxs_getMethod kxs_ValueError e2 (looks_opaque KX2 T.st) (l₀ := cd.mro) (fun A Q E s k q => wpAny_bind ((looks_clsIn KX2 hcls) A _ E s k (wpAny_pure q))) rfl KX2 halong hI hxD rfl ?_
  have I3 := pin_new (t' := s.toks + (ps.zip us).length + 1) I2 (h' := h2.push (kxs_mw "ValueError.__init__" a)) (fun _ _ z => Heap.get?_push_of_some _ z) (Nat.le_refl _) (Heap.get?_push_size h2 rfl) (fun v z => nomatch z)
  show wpAny _ _ (callWith p3 _ [] (backTo p3 (starEach (e :: es) (envF F f s.heap.objs.size))) []) _ _ _
  have ha' := ha.run p3 _ _ (startF N (.ref a :: vs') [some (.ref D)]) H _ I3 hq
  have he' := he (envF F f s.heap.objs.size)
  have ha' : wpAny _ _ (spliced (backTo p3 (starEach (e :: es) (envF F f s.heap.objs.size)))) _ _ _ := ha'
  rw [he'] at ha' ⊢
  have hpl' := hpl (envF F f s.heap.objs.size)
  refine kxs_callWith (i := "ValueError.__init__") (x := a) (by show (false || (backTo p3 (starEach es (envF F f s.heap.objs.size))).any (·.1)) = false; rw [hpl']; rfl) (evalArgs_plain (thn ha' fun us' s4 q4 => ?_))
  obtain ⟨ws, H4, I4, r4, l4, ea4, q4⟩ := q4
  refine ⟨pin_at I4, ?_⟩
  obtain ⟨t4, hx4⟩ := exo_at I4.hok ea4
  have hz : us'.length ≤ sizeLine := by have := r4.length; rw [sizeLine_eq]; omega
  refine run_mw (pin_at I4) (I4.kIn _ _ hDK) hx4 hz fun h' t1 k' e' => ?_
  have J := I4.write (t' := s4.toks) (x := a) (e := a) (o := exo a D none) (by rw [ea4]; exact True.intro) (.inl rfl) k' ⟨_, e'⟩ (exo_ok e')
  rw [upd_id ea4] at J
  refine PySem.wpAt_of_wpAny (wpAny_mono (ht.run _ _ (startF N (.ref a :: vs') [some (.ref D)]) H4 _ J q4) (fun fl s' z => ?_) fun _ _ z => z)
  match fl, z with
  | .ret _, ⟨v, _, H', J', rv, q⟩ => exact ⟨v, H', J'.os, J'.bare, J'.base, J'.hok, rv, q⟩
  | .next, ⟨_, H', J', q⟩ => exact ⟨.non, H', J'.os, J'.bare, J'.base, J'.hok, rfl, q⟩
  | .brk, ⟨_, _, _, q⟩ => exact q.elim
  | .cont, ⟨_, _, _, q⟩ => exact q.elim
end SIX

set_option Elab.async false
set_option linter.all false
set_option maxRecDepth 100000
set_option maxHeartbeats 2000000
/-! such an exception made with words alone: C(k = v) -/
namespace SIX
open PySem PySem.HandSPX
section
variable {M : Model} {prog : Program} {w : World} {A : Around} {E : Value → Shared → Prop} {R : Result → Shared → Prop} {h : Heap} {g : Array GenState} {d : Drawn} {t : Nat} {os : OsState}
variable {nm q : Str} {C N : Addr} {bs bm bmB : List Value} {hdct : Bool} {sn : List Str} {sub : List Value} {ab : Bool} {col : Option Bool} {dd : Option Addr} {k0 k1 k2 k3 k5 : Option Value} {kn : Str} {v : Value}
theorem words_new (hT : ∀ X : String, bm.contains (.type X) = bmB.contains (.type X)) (F : ExcBaseFacts "ValueError" "ValueError.__new__" "ValueError.__init__" bmB)
    (hC : h.get? C = some (excClassObj nm q C N bs bm hdct sn sub ab col dd k0 k1 k2 k3 k5 "ValueError.__new__")) {Q : Unit → Shared → Prop} (ok : Q () ⟨h, g, d, t, os⟩) : wpAny M A (checkBuiltinCall "ValueError.__new__" ⟨[.ref C], [(kn, v)]⟩) Q E ⟨h, g, d, t, os⟩ := by
  have isB : (Value.ref C :: bm).contains (.type "ValueError") = true := by rw [List.contains_cons, hT, F.hasB, Bool.or_true]
  have st := F.noStar
  simp only [F.newRow, F.newSplit, F.newKind, checkBuiltinCall]
  repeat (first
    | refine wpAny_loadPart_at hC ?_
    | (refine wpAny_isSubtype_exc hC ?_; rw [isB])
    | refine wpAny_staticBase_exc hC ?_
    | refine wpAny_madeBy_exc hC ?_
    | simp only [bne_self_eq_false, Bool.false_eq_true, if_false]
    | wp_step)
  exact ok
theorem words_made (hT : ∀ X : String, bm.contains (.type X) = bmB.contains (.type X)) (F : ExcBaseFacts "ValueError" "ValueError.__new__" "ValueError.__init__" bmB)
    (hC : h.get? C = some (excClassObj nm q C N bs bm hdct sn sub ab col dd k0 k1 k2 k3 k5 "ValueError.__new__")) (ok : R (.ok (.ret (.ref (h.objs.size + 1)))) ⟨(h.push (W.kdv_tup [])).push (excO C h.objs.size), g, d, t, os⟩) :
    codeAny (model prog w) A (.builtin "ValueError.__new__" ⟨[.ref C], [(kn, v)]⟩) R ⟨h, g, d, t, os⟩ := by
  have en := F.ends
  have mro : ∀ X : String, (Value.ref C :: bm).contains (.type X) = bmB.contains (.type X) := fun X => by rw [List.contains_cons, hT]; rfl
  have isB : (Value.ref C :: bm).contains (.type "ValueError") = true := (mro _).trans F.hasB
  have noA : (Value.ref C :: bm).contains (.type "AttributeError") = false := (mro _).trans F.noAttr
  have noN : (Value.ref C :: bm).contains (.type "NameError") = false := (mro _).trans F.noName
  refine codeAny_builtinAt (b := Builtin.«BaseException.__new__») F.entry ?_
  unfold Builtin.«BaseException.__new__»; apply wpAt_bind
  change PySem.wpAt _ _ _ (stack >>= _) _ _ _
  refine wpAt_bind (wpAt_stack fun top below => wpAt_of_wpAny ?_)
  wp_walk
  refine wpAt_of_wpAny ?_
  rw [F.owner]
  repeat (first
    | with_reducible refine wpAny_madeHere_exc F.canon hC ?_
    | with_reducible refine wpAny_loadPart_at hC ?_
    | (with_reducible refine wpAny_isSubtype_exc hC ?_
       first | rw [isB] | rw [noA] | rw [noN])
    | wp_step)
  change R _ _
  rw [Heap.size_push]
  exact ok
theorem words_type (hT : ∀ X : String, bm.contains (.type X) = bmB.contains (.type X)) (F : ExcBaseFacts "ValueError" "ValueError.__new__" "ValueError.__init__" bmB) {fI : Addr} {Q : Fin → Shared → Prop}
    (hC : h.get? C = some (excClassObj nm q C N bs bm hdct sn sub ab col dd k0 k1 k2 k3 k5 "ValueError.__new__")) (hi : W.Looks (model prog w) h (typeLookup (.ref C) "__init__") (some (.ref fI))) (hb : ∀ self, W.Looks (model prog w) h (bindSpecial (.ref fI) self) (.ref fI, [self]))
    (go : codeAny (model prog w) A (.call (.ref fI) ⟨[.ref (h.objs.size + 1)], [(kn, v)]⟩) (fun r s' => match r with | .ok (.ret u) => u = .none ∧ Q (.done (.ret (.ref (h.objs.size + 1)))) s' | .ok _ => False | .error x => E x s') ⟨(h.push (W.kdv_tup [])).push (excO C h.objs.size), g, d, t, os⟩) :
    wpAny (model prog w) A (Builtin.«type.__call__» ⟨[.ref C], [(kn, v)]⟩) Q E ⟨h, g, d, t, os⟩ := by
  repeat (first
    | with_reducible refine wpAny_loadPart_at hC ?_
    | with_reducible refine wpAny_madeBy_exc hC ?_
    | wp_step)
  refine codeAny_call_builtin_code (Code.quiet_builtin _ F.quiet) (words_new hT F hC (words_made hT F hC ?_))
  show wpAny _ _ _ _ _ _
  have up : ∀ b o, h.get? b = some o → ((h.push (W.kdv_tup [])).push (excO C h.objs.size)).get? b = some o := fun b o e => Heap.get?_push_of_some _ (Heap.get?_push_of_some _ e)
  have atE : ((h.push (W.kdv_tup [])).push (excO C h.objs.size)).get? (h.objs.size + 1) = some (excO C h.objs.size) := by heap_get
  have own : (Value.ref C :: bm).contains (.ref C) = true := by simp
  have hC' := up _ _ hC
  unfold isInstance
  repeat (first
    | with_reducible refine wpAny_loadPart_at atE ?_
    | (with_reducible refine wpAny_isSubtype_exc hC' ?_
       rw [own])
    | wp_step)
  change wpAny _ _ (typeLookup (.ref C) _) _ _ _
  refine (hi.keeps up).at (wpAny_holding (wpAny_bind (((hb (.ref (h.objs.size + 1))).keeps up).at ?_)))
  refine wpAny_bind (wpAny_call (codeAny_mono go fun r s' z => ?_))
  match r, z with
  | .error _, z => exact z
  | .ok (.ret _), ⟨rfl, z⟩ => first | exact wpAny_pure (wpAny_pure z) | (wp_walk; exact z)
  | .ok .next, z => exact z.elim
  | .ok .brk, z => exact z.elim
  | .ok .cont, z => exact z.elim
theorem words_call (hT : ∀ X : String, bm.contains (.type X) = bmB.contains (.type X)) (F : ExcBaseFacts "ValueError" "ValueError.__new__" "ValueError.__init__" bmB) {fI : Addr}
    (hC : h.get? C = some (excClassObj nm q C N bs bm hdct sn sub ab col dd k0 k1 k2 k3 k5 "ValueError.__new__")) (hi : W.Looks (model prog w) h (typeLookup (.ref C) "__init__") (some (.ref fI))) (hb : ∀ self, W.Looks (model prog w) h (bindSpecial (.ref fI) self) (.ref fI, [self]))
    (go : codeAny (model prog w) (A.under (.builtin "type.__call__" ⟨[.ref C], [(kn, v)]⟩)) (.call (.ref fI) ⟨[.ref (h.objs.size + 1)], [(kn, v)]⟩) (W.InitBack (h.objs.size + 1) R) ⟨(h.push (W.kdv_tup [])).push (excO C h.objs.size), g, d, t, os⟩) :
    codeAny (model prog w) A (.call (.ref C) ⟨[.ref C].tail, [(kn, v)]⟩) R ⟨h, g, d, t, os⟩ := by
  have l1 := tc_lookup
  have l2 := tc_bind (.ref C)
  have ty : (⟨h, g, d, t, os⟩ : Shared).TypeIs (.ref C) "type" := ⟨_, hC, rfl⟩
  refine codeAny_of_tree ?_
  change wpAny _ _ (callAny (.ref C) _) _ _ _
  repeat (any_goals (first
    | assumption
    | with_reducible refine wpAny_loadPart_at hC ?_
    | wp_step))
  refine ⟨rfl, codeAny_call_builtin_at (Code.quiet_builtin _ (by decide +kernel)) entry_typeCall (wpAny_check_type_call_sub hC (words_type hT F hC hi hb (codeAny_mono go fun r s' z => ?_)))⟩
  match r, z with
  | .error _, z => exact z
  | .ok (.ret _), z => exact z
  | .ok .next, z => exact z
  | .ok .brk, z => exact z
  | .ok .cont, z => exact z
end
end SIX

set_option Elab.async false
set_option linter.all false
set_option maxRecDepth 100000
set_option maxHeartbeats 2000000
/-! `raise C(k = e)` where C is an own exception over ValueError whose own __init__ keeps sp -/
namespace SIX
open PySem PySem.Spec PyProof.Rows L2
/-- C(k = e): what of the exception is known behind it: its class, its dict -/
def tMkW (C : Addr) (sp : Sp) (gV : List V → List V → List V) (tk : TA) : L2.St → Hp → XK → Prop := tMkO C (fun vs H Q E => vs.length = 2 ∧ sp (gV (vs.take 1) (vs.drop 1)) H Q E) [] tk
theorem pmk_words {X : Cx} {CX : CXT} {x kn : Str} {C fI : Addr} {k : Nat} {fd : FuncData} {ps : List Str} {sp : Sp} {g : List Value → List Value → List Value} {gV : List V → List V → List V} {kws : List Keyword} {tk : TA} {p pos : Pos} (T : OexC X.K C) (iC : PySem.W.findIn X.K (.ref C) "__init__" = some (some (.ref fI))) (tI : PySem.W.typeIn X.K (.ref fI) = some (.type "function"))
    (F1 : FnOk X.prog X.w X.K X.mg X.base CX k fI fd ps sp) (hr : Room (k + 1) X.A) (hb : KBn X.K fd ps 1 [kn] g gV) (hx : Passes CX X (fun _ _ _ => False)) (hg : Gl X x) (hm : X.mg x = some (.ref C)) (hkw : PK X kws tk)
    (hall : (backToKw pos (keywordEach kws X.env)).all (·.1.isSome) = true := by rfl) (hks : (backToKw pos (keywordEach kws X.env)).filterMap (·.1) = [kn] := by rfl) (hdb : (x == ("__debug__" : Str)) = false := by decide)
    (hpl : ((backTo pos (starEach [] X.env)).any (·.1) ||
      (backToKw pos (keywordEach kws X.env)).any (·.1.isNone)) = false := by rfl) :
    PMk X (.Call (.Name x p) [] kws pos) (tMkW C sp gV tk) := by
  intro pins s σ H Q I q
  obtain ⟨nm, qn, N, bs, bm, sn, sub, ab, col, dd, c0, c1, c2, c3, c5, hC, hbm⟩ := T.cls
  refine wpAny_Call_Name_kw (ld_glob I hg hm (PySem.W.callWith_KW0 (h₀ := X.base) I.ok.mod.kin T.kC hall ?_ hpl) hdb)
  refine thn (hkw.run pos pins s σ H _ I q) fun ws s2 z => ?_
  obtain ⟨zs, H2, I2, rz, _, q1⟩ := z
  have l1 : zs.length = 1 := by
    obtain ⟨l, _⟩ := q1 _ (I2.hok.fresh (Nat.le_refl _))
    rw [List.append_nil, List.length_cons] at l
    omega
  have q2 : ∀ a, H2 a = none → sp (gV [.ref a] zs) _ _ _ := fun a n => by have := (q1 a n).2; rw [List.append_nil] at this; exact this
  refine ⟨I2.kIn, ?_⟩
  rw [hks]
  obtain ⟨w1, rfl⟩ : ∃ w1, ws = [w1] := List.length_eq_one_iff.mp (rz.length.symm.trans l1)
  obtain ⟨hp, gs, dr, tk, os⟩ := s2
  have new : H2 (hp.objs.size + 1) = none := I2.hok.fresh (Nat.le_succ hp.objs.size)
  have q3 := q2 (hp.objs.size + 1) new
  have up : ∀ b o, hp.get? b = some o → ((hp.push (PySem.W.kdv_tup [])).push (PySem.HandSPX.excO C hp.objs.size)).get? b = some o := fun b o y => Heap.get?_push_of_some _ (Heap.get?_push_of_some _ y)
  have atE : ((hp.push (PySem.W.kdv_tup [])).push (PySem.HandSPX.excO C hp.objs.size)).get? (hp.objs.size + 1) = some (PySem.HandSPX.excO C hp.objs.size) := by heap_get
  have I3 := I2.laid (t' := tk) (a := hp.objs.size + 1) (o := exo (hp.objs.size + 1) C none) up (Nat.le_succ hp.objs.size) (exo_ok atE)
  have r1 : Vals [V.ref (hp.objs.size + 1)] [Value.ref (hp.objs.size + 1)] := .cons rfl .nil
  have bt := hb.to ⟨(hp.push (PySem.W.kdv_tup [])).push (PySem.HandSPX.excO C hp.objs.size), gs, dr, tk, os⟩ [Value.ref (hp.objs.size + 1)] [w1] I3.kIn rfl rfl
  have kin := I2.kIn
  change wpAny _ _ (call (.ref C) [] [(kn, w1)]) _ _ _
  refine wpAny_call (words_call (fun Y => PySem.HandSPX.refsVE_contains Y bm hbm) PySem.F.excBase_ValueError (kin _ _ hC) (PySem.W.looks_findIn kin iC) (fun self => PySem.W.bind_fn kin self tI)
    (codeAny_mono (F1.run _ X.stack _ _ ⟨[Value.ref (hp.objs.size + 1)], [(kn, w1)]⟩ _ _ _ (fun _ _ _ => False) (hr.make C [] [(kn, w1)]) (I3.env0.make C [] [(kn, w1)]) bt (hb.rel r1 rz) q3) fun r s' z => ?_))
  match r, z with
  | .error er, z => exact hx pins σ _ _ er s' I3 z
  | .ok (.ret u), ⟨v, H4, os2, bare2, un2, hok2, rv, ev, d, fs, ea, ed, hd1, q4⟩ =>
    subst ev
    obtain ⟨hq, gq, dq, tq, oq⟩ := s'
    exact ⟨rv, mk_end (raises_own T.exC T.tyC) I2 (Nat.le_succ hp.objs.size) up un2 hok2 os2 bare2 ea ed hd1 q4⟩
  | .ok .next, z => exact False.elim z
  | .ok .brk, z => exact False.elim z
  | .ok .cont, z => exact False.elim z
end SIX

set_option Elab.async false
set_option linter.all false
set_option maxRecDepth 100000
set_option maxHeartbeats 2000000
/-! a list comprehension whose items are calls that may raise: [f(..) for t in it] -/
namespace LCX
open PySem PySem.Spec PyProof.Rows L2
/-! ### the run of a comprehension: its block's names go, then the value, or the error flies on from the same frame -/
def Fin (M : Model) (A : Around) (E : Value → Shared → Prop) (Q : Value → Shared → Prop) (acc : Value) (C : Addr) (F : Option Addr) (r : Result) (s' : Shared) : Prop :=
  (∃ m, s'.heap.Ns C m) ∧ ∀ h', Heap.SameBut C s'.heap h' → match r with
    | .ok _ => Q acc { s' with heap := h' }
    | .error x => ∀ ce : Env, ce.frame = F → wpAny M A (PySem.passOn "comprehension.variables-let-go" x ce : Sem Value) (fun _ _ => False) E { s' with heap := h' }
theorem comp_fin {M : Model} {A : Around} {E : Value → Shared → Prop} {Q : Value → Shared → Prop} {s : Shared} {env : Env} {elt tg iter : Expr} {scope : Scope} {pos pos' : Pos} {first : Sem Value} {cl : List (Str × Addr)}
    (hc : closureFor scope env = pure cl) (hs : ∀ x, foldedSetIterable iter env x = pure x) (hk : scope.kind = .function) (hl : ∀ y ∈ scope.names, y.2 = .local → scope.names.lookup y.1 = some .local)
    (go : wpAny M A first (fun x s1 => wpAny M A (pyIter x) (fun it s2 => wpAny M A (newList []) (fun acc s3 => wpAny M A (newFunctionEnv scope env.globals cl [] env.qual none .none (some env)) (fun ce s4 =>
      codeAny M A (.compStart (.ListComp elt [⟨tg, iter, [], 0⟩] scope pos) 0 it acc { ce with scope := relabel scope env }) (Fin M A E Q acc ce.locals ce.frame) s4) E s3) E s2) E s1) E s) :
    wpAny M A (comprehension (.ListComp elt [⟨tg, iter, [], 0⟩] scope pos) scope env pos' (newList []) false first none) Q E s := by
  have okE : ∀ {α : Type} {t : Sem α} {R R' : α → Shared → Prop} {s : Shared}, wpAny M A t R E s → (∀ a s, R a s → R' a s) → wpAny M A t R' E s := fun h k => wpAny_mono h k fun _ _ z => z
  unfold comprehension
  rw [hc]
  apply wpAny_bind
  refine okE go fun x s1 g1 => ?_
  dsimp only [clausesOf]
  apply wpAny_bind; apply wpAny_standAt
  apply wpAny_bind; refine wpAny_of_eq (hs x) ?_
  apply wpAny_bind; apply wpAny_holding
  refine okE g1 fun it s2 g2 => ?_
  apply wpAny_standIf
  apply wpAny_bind
  refine okE g2 fun acc s3 g3 => ?_
  apply wpAny_bind; apply wpAny_pure
  apply wpAny_bind
  refine okE g3 fun ce s4 g4 => ?_
  have gone : ∀ {co : List (Str × NameKind) → List Value} (s' : Shared) (m : Str → Option Value) (R : Unit → Shared → Prop), s'.heap.Ns ce.locals m → (∀ h', Heap.SameBut ce.locals s'.heap h' → R () { s' with heap := h' }) →
      wpAny M A (comprehension.letGo { ce with scope := relabel scope env } co (scope.names.filter fun x => (x.2 == .local || x.2 == .cell) && x.1 != (".0" : Str)).reverse) R E s' := fun {co} s' m R hn k =>
    wpAny_comp_letGo (cenv := { ce with scope := relabel scope env }) hk _ s' m (fun y hy e => lookup_relabel_local (hl y (List.mem_filter.mp (List.mem_reverse.mp hy)).1 e)) hn fun h' _ _ sb => k h' sb
  apply wpAny_holding
  apply wpAny_bind; apply wpAny_attempt; apply wpAny_holding
  refine wpAny_run (codeAny_mono g4 fun r s' fin => ?_)
  obtain ⟨⟨m, hn⟩, fin⟩ := fin
  cases r with
  | ok _ =>
    apply wpAny_bind; apply wpAny_holding
    exact gone s' m _ hn fun h' sb => wpAny_pure (fin h' sb)
  | error x =>
    apply wpAny_bind; apply wpAny_holding
    exact gone s' m _ hn fun h' sb => wpAny_mono (fin h' sb _ rfl) (fun _ _ z => z.elim) fun _ _ z => z
theorem note_frame {x : Value} {e e' : Env} (h : e.frame = e'.frame) : noteFrame x e = noteFrame x e' := by
  unfold noteFrame PySem.frameOf
  rw [h]
/-- what is held at this frame is passed on from it -/
theorem held_on {M : Model} {A : Around} {E : Value → Shared → Prop} {s : Shared} {B : Heap} {l : List Env} {a L : Addr} {Z : Obj → Prop} {ce : Env} (hh : HandSPX.HeldZ B l a Z L s.heap) (hf : ce.frame = some L)
    (hE : ∀ h', HandSPX.HeldZ B l a Z L h' → s.heap.UpToSlots h' → E (.ref a) { s with heap := h' }) : wpAny M A (PySem.passOn "comprehension.variables-let-go" (.ref a) ce : Sem Value) (fun _ _ => False) E s := by
  obtain ⟨_, _, _, oe, vs, T, oT, ts, he, hz, hd, h1, h2⟩ := id hh
  unfold PySem.passOn
  refine wpAny_bind (wpAny_field he hd h1 ?_)
  rw [if_neg (show ¬ ((Value.ref T == Value.none) = true) from by simp), hf]
  first
    | exact wpAny_bind (HandSPX.setFlight_onZ hh fun h' hh' up => wpAny_throw (hE h' hh' up))
    | exact wpAny_bind (wpAny_pure (wpAny_bind (HandSPX.setFlight_onZ hh fun h' hh' up => wpAny_throw (hE h' hh' up))))
/-- X within the comprehension: errors go to xe -/
abbrev inn (X : Cx) (s : Shared) (H : Hp) (scope : Scope) (ce : Env) (fp : List Addr) (xe : Value → Shared → Prop) : Cx := { X.blk s H scope ce fp with xe := xe }
theorem inn_of {X : Cx} {s : Shared} {H : Hp} {scope : Scope} {ce : Env} {fp : List Addr} {pins : List (Addr × Obj)} {σ : L2.St} {H' : Hp} {s' : Shared} (I : Inv (X.blk s H scope ce fp) pins σ H' s') (xe : Value → Shared → Prop) : Inv (inn X s H scope ce fp xe) pins σ H' s' := by
  obtain ⟨⟨o1, o2, o3, o4, o5, o6, o7, o8, o9, o10, o11, o12, o13, o14, o15, o16, o17, o18⟩, i1, i2, i3, i4, i5, i6, i7, i8, i9, i10⟩ := I
  exact ⟨⟨o1, o2, o3, o4, o5, o6, o7, o8, o9, o10, o11, o12, o13, o14, o15, o16, o17, o18⟩, i1, i2, i3, i4, i5, i6, i7, i8, i9, i10⟩
/-- a held exception over a smaller ground -/
theorem held_less {B B' : Heap} {l : List Env} {a L C : Addr} {Z : Obj → Prop} {h h' : Heap} (hh : HandSPX.HeldZ B l a Z L h) (k : ∀ b o, B'.get? b = some o → B.get? b = some o ∧ b ≠ C) (sb : Heap.SameBut C h h') (nC : ∃ o, B.get? C = some o ∧ ∀ vs, o.data ≠ .fields vs) (hl : ∀ b ∈ frs l, b ≠ C) : HandSPX.HeldZ B' l a Z L h' ∧ B'.StaysIn h' := by
  obtain ⟨f1, f2, f3, oe, vs, T, oT, ts, he, hz, hd, h1, hnT, hTe, hT, hdT, h3⟩ := hh
  obtain ⟨oC, eC, dC⟩ := nC
  have nB : ∀ {b}, B.get? b = none → B'.get? b = none := fun {b} n => by
    cases q : B'.get? b with
    | none => rfl
    | some o => rw [(k b o q).1] at n; cases n
  have st : B'.StaysIn h' := fun b o e => by
    obtain ⟨e1, e2⟩ := k b o e
    rw [sb.2 b e2]
    exact f1 b o e1
  have aC : a ≠ C := fun z => by rw [z, eC] at f2; cases f2
  have tC : T ≠ C := fun z => by rw [z, eC] at hnT; cases hnT
  refine ⟨⟨st, nB f2, ?_, oe, vs, T, oT, ts, (sb.2 a aC).trans he, hz, hd, h1, nB hnT, hTe, (sb.2 T tC).trans hT, hdT, h3⟩, st⟩
  clear st
  revert f3 hl
  intro hl f3
  induction l with
  | nil => trivial
  | cons env rest ih =>
    obtain ⟨hk, ⟨L', o, hf, hn, ho, hd'⟩, hr⟩ := f3
    have m : L' ∈ frs (env :: rest) := by unfold frs; rw [List.filterMap_cons, hf]; exact List.mem_cons_self ..
    refine ⟨hk, ⟨L', o, hf, nB hn, (sb.2 L' (hl L' m)).trans ho, hd'⟩, ih (fun b hb => hl b ?_) hr⟩
    unfold frs; rw [List.filterMap_cons, hf]; exact List.mem_cons_of_mem _ hb
/-- the exception leaves the block: it is in X's air -/
theorem left {X : Cx} {W : WX} {E : XK} {pins : List (Addr × Obj)} {σ σ' : L2.St} {H3 H9 : Hp} {s3 s9 s' s'' : Shared} {scope : Scope} {ce : Env} {fp : List Addr} {pins9 : List (Addr × Obj)} {xe : Value → Shared → Prop}
    (I3 : Inv X pins σ H3 s3) (I9 : Inv (inn X s3 H3 scope ce fp xe) pins9 σ' H9 s9) (hW : ∀ cls d H, E cls d H → W cls d σ H)
    (f3 : ∀ b ∈ fp, (b ∈ X.ex ∨ X.s_0.heap.objs.size ≤ b) ∧ b ≠ X.env.locals ∧ (∀ x c, X.env.cells.lookup x = some c → c ≠ b) ∧ ∀ p ∈ X.pn ++ pins, p.1 ≠ b) (hC : s3.heap.objs.size ≤ ce.locals)
    {a : Addr} {B : Heap} {H' : Hp} {cls : Value} {d : Option Addr} (hok : HOk X.prog X.w H' B) (ub : UB (frs X.stack) H9 H' s9.heap B s'.heap) (na : H' a = none) (os : s'.os = s9.os) (ag : AllBare s''.gens) (hE : E cls d H') (ho : s''.os = s'.os)
    (up : ∀ b o, s'.heap.get? b = some o → (∀ vs, o.data ≠ .fields vs) → b ≠ ce.locals → ∃ sl, s''.heap.get? b = some { o with slots := sl })
    (fl : ∀ B' : Heap, (∀ b o, B'.get? b = some o → B.get? b = some o ∧ b ≠ ce.locals) → B'.StaysIn s''.heap ∧ Sky B' X.stack a (Zc cls d) X.env.locals s''.heap) : XE X W (.ref a) s'' := by
  have nfC : ∀ b ∈ frs X.stack, b ≠ ce.locals := fun b hb z => by
    obtain ⟨_, o, e, _⟩ := I3.stack.mem hb
    rw [z] at e
    exact absurd (Nat.lt_of_lt_of_le (Heap.lt_size e) hC) (Nat.lt_irrefl _)
  have cnone : H' ce.locals = none := by
    obtain ⟨m, ⟨o, _, _, ho, _⟩, _⟩ := I9.loc
    exact ub.free ce.locals o ho I9.free
  obtain ⟨B', b1, b2⟩ := restrict B fun b => decide (b ≠ ce.locals)
  have kB : ∀ b o, B'.get? b = some o → B.get? b = some o ∧ b ≠ ce.locals := fun b o e => by
    by_cases hb : b = ce.locals
    · rw [b2 b (by simp [hb])] at e; cases e
    · rw [b1 b (by simp [hb])] at e
      exact ⟨e, hb⟩
  have toB : ∀ b o, B.get? b = some o → b ≠ ce.locals → B'.get? b = some o := fun b o e hb => by rw [b1 b (by simp [hb])]; exact e
  obtain ⟨st, sky⟩ := fl B' kB
  have hok' : HOk X.prog X.w H' B' := fun b o hq => (hok b o hq).stay (fun c u hc r => toB c u r fun z => by
      subst z
      rcases hc with hc | hc
      · rw [hc, hq] at cnone; cases cnone
      · rw [hc] at cnone; cases cnone) (fun _ r => r) fun _ _ r => r
  obtain ⟨Gd, inG, offG⟩ := restrict s''.heap fun b => (B'.get? b).isSome || decide (b ∈ frs X.stack)
  have ofB : ∀ b o, B'.get? b = some o → Gd.get? b = some o := fun b o e => by
    rw [inG b (by simp [e])]
    exact st b o e
  have ofF : ∀ b, b ∈ frs X.stack → Gd.get? b = s''.heap.get? b := fun b hb => inG b (by simp [hb])
  have backG : ∀ b o, Gd.get? b = some o → s''.heap.get? b = some o ∧ ((B'.get? b).isSome = true ∨ b ∈ frs X.stack) := fun b o e => by
    cases hq : ((B'.get? b).isSome || decide (b ∈ frs X.stack)) with
    | false => rw [offG b hq] at e; cases e
    | true =>
      rw [inG b hq] at e
      exact ⟨e, by simpa [Bool.or_eq_true] using hq⟩
  have lt3 : ∀ b o, s3.heap.get? b = some o → b ≠ ce.locals := fun b o e z => by
    rw [z] at e
    exact absurd (Nat.lt_of_lt_of_le (Heap.lt_size e) hC) (Nat.lt_irrefl _)
  have base : Un (frs X.stack) fp H3 H9 s3.heap s9.heap := I9.base
  have nst : ∀ b o, s9.heap.get? b = some o → b ∈ frs X.stack → ∀ vs, o.data ≠ .fields vs := fun b o e hb vs z => by
    obtain ⟨_, o', e', hd⟩ := (show s9.heap.FunFrames X.base (frs X.stack |> fun _ => X.stack) from I9.stack).mem hb
    rw [e] at e'; cases e'
    exact hd vs z
  have slots : ∀ b o, s9.heap.get? b = some o → b ∈ frs X.stack → ∃ sl, s''.heap.get? b = some { o with slots := sl } := fun b o e hb => by
    obtain ⟨sl, hq⟩ := ub.slot b o e hb
    obtain ⟨sl2, q2⟩ := up b _ hq (nst b o e hb) (nfC b hb)
    exact ⟨sl2, q2⟩
  refine ⟨a, B', { s3 with heap := Gd, gens := s''.gens, drawn := s''.drawn, toks := s''.toks }, pins, σ, H', cls, d, rfl, ?_, fun b o e hb => ?_, Heap.UpToSlots.of_keeps fun b o e => (backG b o e).1, sky, na, ?_, ag, hW _ _ _ hE⟩
  · refine I3.call (ch := fp) ⟨fun b o e n hb hx => ?_, fun b o e n hb hx => ?_, fun b o e n hx => ?_, fun b o e hx => ?_, fun b xs e => ub.tups b xs (base.tups b xs e), fun b o xs e => ub.frzs b o xs (base.frzs b o xs e), fun b ps e => ?_⟩ (hok'.kept ofB) ag f3
    · exact ofB b o (toB b o (ub.keep b o (base.keep b o e n hb hx) (base.free b o e n hx) hb) (lt3 b o e))
    · obtain ⟨sl, hq⟩ := base.slot b o e n hb hx
      obtain ⟨sl2, q2⟩ := slots b _ hq hb
      exact ⟨sl2, by rw [ofF b hb]; exact q2⟩
    · obtain ⟨o', e'⟩ := base.there b o e hx
      exact ub.free b o' e' (base.free b o e n hx)
    · obtain ⟨o', e'⟩ := base.there b o e hx
      by_cases hb : b ∈ frs X.stack
      · obtain ⟨sl, hq⟩ := slots b o' e' hb
        exact ⟨_, by rw [ofF b hb]; exact hq⟩
      · obtain ⟨o2, hq⟩ := ub.there b o' e' hb
        exact ⟨o2, ofB b o2 (toB b o2 hq (lt3 b o e))⟩
    · obtain ⟨x1, e1⟩ := base.tbls b ps e
      obtain ⟨x2, e2⟩ := ub.tbls b _ e1
      exact ⟨x1 ++ x2, by rw [e2, Array.append_assoc]⟩
  · obtain ⟨e', h⟩ := backG b o e
    rcases h with h | h
    · obtain ⟨o', hq⟩ := Option.isSome_iff_exists.mp h
      have z := st b o' hq
      rw [e'] at z; cases z
      exact hq
    · exact absurd h hb
  · exact ho.trans (os.trans I9.os)
section
variable {X : Cx} {pins : List (Addr × Obj)} {σ σ0 : L2.St} {H3 : Hp} {s3 : Shared} {scope : Scope} {ce : Env} {fp : List Addr} {xe : Value → Shared → Prop} {tg elt : Expr} {J : It} {it D : Addr} {tn : Nat → Heap → Prop} {E : XK} {W0 : WX}
/-- what the block needs of the frame: its objects may turn, its names stand behind all -/
structure Base (X : Cx) (pins : List (Addr × Obj)) (σ : L2.St) (H3 : Hp) (s3 : Shared) (ce : Env) (fp : List Addr) : Prop where
  inv : Inv X pins σ H3 s3
  fp : ∀ b ∈ fp, FpOk X pins H3 b
  loc : ce.locals = s3.heap.objs.size
  fr : ce.frame = X.env.frame
  stk : X.stack = X.env :: X.outer
  own : X.env.frame = some X.env.locals
theorem Base.turns (b : Base X pins σ H3 s3 ce fp) : ∀ x ∈ fp, (x ∈ X.ex ∨ X.s_0.heap.objs.size ≤ x) ∧ x ≠ X.env.locals ∧ (∀ y c, X.env.cells.lookup y = some c → c ≠ x) ∧ ∀ p ∈ X.pn ++ pins, p.1 ≠ x := fun x hx => by
  obtain ⟨_, f1, _, f3, f4, f5⟩ := b.fp x hx
  exact ⟨f3, f1, f4, f5⟩
theorem Base.frames (b : Base X pins σ H3 s3 ce fp) : ∀ x ∈ frs X.stack, x ≠ ce.locals := fun x hx z => by
  obtain ⟨_, o, e, _⟩ := b.inv.stack.mem hx
  rw [z, b.loc] at e
  exact Nat.lt_irrefl _ (Heap.lt_size e)
/-- the block's end: we are in the frame again -/
theorem Base.back (b : Base X pins σ H3 s3 ce fp) {H' : Hp} {s' : Shared} (I : Inv (inn X s3 H3 scope ce fp xe) [] σ0 H' s') : Inv X pins σ H' s' ∧ (∃ m, s'.heap.Ns s3.heap.objs.size m) ∧ FpOk X pins H' s3.heap.objs.size := by
  have un : Un (frs X.stack) fp H3 H' s3.heap s'.heap := I.base
  have gone : H' ce.locals = none := I.free
  have ns : ∃ m, s'.heap.Ns ce.locals m := I.loc.imp fun _ z => z.1
  rw [b.loc] at gone ns
  exact ⟨b.inv.call' I.os un I.hok I.bare b.turns, ns, b.inv.fpOk (Nat.le_refl _) gone⟩
/-- a call in the block raises: the error is the frame's -/
theorem Base.raises (b : Base X pins σ H3 s3 ce fp) (tk : Takes X W0) (hW : ∀ cls d H, E cls d H → W0 cls d σ H) {Q : Value → Shared → Prop} {acc : Value} {pins9 : List (Addr × Obj)} {σ9 : L2.St} {H9 : Hp} {s9 s' : Shared} {e : Value}
    (I : Inv (inn X s3 H3 scope ce fp xe) pins9 σ9 H9 s9) (cx : L2.CX X.prog X.w X.stack H9 s9 E e s') :
    notedBy (model X.prog X.w) X.A ce (fun e s' => Fin (model X.prog X.w) X.A X.xe Q acc s3.heap.objs.size X.env.frame (.error e) s') e s' := by
  obtain ⟨a, B, H', cls, d, rfl, fl, hok, ub, na, os, ag, hE⟩ := cx
  unfold notedBy
  rw [note_frame b.fr]
  rw [b.stk] at fl
  obtain ⟨m, ⟨oC, es, ep, hoC, rC⟩, _⟩ := I.loc
  have bC : B.get? ce.locals = some oC := ub.keep _ _ hoC I.free fun hb => b.frames _ hb rfl
  have dC : ∀ vs, oC.data ≠ .fields vs := fun vs z => by rw [rC.1] at z; cases z
  refine HandSPX.looks_onZ Zc.steady (by rw [← b.stk]; exact b.inv.ok.frames) b.own fl fun h1 hh up1 => ?_
  refine ⟨⟨m, oC, es, ep, by rw [← b.loc]; exact hh.1 _ _ bC, rC⟩, fun h' sb ce' fr' => ?_⟩
  rw [← b.loc] at sb
  obtain ⟨B0, b1, b2⟩ := restrict B fun x => decide (x ≠ ce.locals)
  have kB : ∀ x o, B0.get? x = some o → B.get? x = some o ∧ x ≠ ce.locals := fun x o q => by
    by_cases hx : x = ce.locals
    · rw [b2 x (by simp [hx])] at q; cases q
    · rw [b1 x (by simp [hx])] at q; exact ⟨q, hx⟩
  have held := (held_less hh kB sb ⟨oC, bC, dC⟩ (by rw [← b.stk]; exact b.frames)).1
  refine held_on (s := { s' with heap := h' }) held (fr'.trans b.own) fun h2 hh2 up2 => ?_
  refine tk _ _ (left (s' := s') (s'' := { s' with heap := h2 }) b.inv I (fun cls d H h => hW cls d H h) b.turns (Nat.le_of_eq b.loc.symm) hok ub na os ag hE rfl (fun x o q hnf hx => ?_) fun B' kB' => ?_)
  · obtain ⟨sl, q1⟩ := up1 x o q hnf
    obtain ⟨sl2, q2⟩ := up2 x _ (show h'.get? x = _ from (sb.2 x hx).trans q1) hnf
    exact ⟨sl2, q2⟩
  · have sub : ∀ x o, B'.get? x = some o → B0.get? x = some o := fun x o q => by
      obtain ⟨q1, q2⟩ := kB' x o q
      rw [b1 x (by simp [q2])]; exact q1
    obtain ⟨g1, g2, g3, g4⟩ := hh2
    have no : ∀ {x}, B0.get? x = none → B'.get? x = none := fun {x} n => by
      cases q : B'.get? x with
      | none => rfl
      | some o => rw [sub x o q] at n; cases n
    have stays : B'.StaysIn h2 := fun x o q => g1 x o (sub x o q)
    refine ⟨stays, .inr (.inr ?_)⟩
    rw [b.stk]
    obtain ⟨oe, vs, T', oT, ts, t1, t2, t3, t4, t5, t6, t7, t8, t9⟩ := g4
    refine ⟨stays, no g2, ?_, oe, vs, T', oT, ts, t1, t2, t3, t4, no t5, t6, t7, t8, t9⟩
    have all : ∀ l : List Env, h2.FunFrames B0 l → h2.FunFrames B' l := fun l => by
      induction l with
      | nil => exact fun _ => trivial
      | cons v r ih => exact fun ⟨y1, ⟨L', o, y2, y3, y4, y5⟩, y6⟩ => ⟨y1, ⟨L', o, y2, no y3, y4, y5⟩, ih y6⟩
    exact all _ g3
/-- the block between two turns -/
def Mid (X : Cx) (s3 : Shared) (H3 : Hp) (scope : Scope) (ce : Env) (fp : List Addr) (xe : Value → Shared → Prop) (σ0 : L2.St) (tn : Nat → Heap → Prop) (i : Nat) (H : Hp) (s : Shared) : Prop :=
  Inv (inn X s3 H3 scope ce fp xe) [] σ0 H s ∧ tn i s.heap ∧ ∀ b ∈ fp, H b = none
theorem Mid.ok {i : Nat} {H : Hp} {s : Shared} (m : Mid X s3 H3 scope ce fp xe σ0 tn i H s) : ∀ b ∈ fp, FpOk (inn X s3 H3 scope ce fp xe) [] H b := fun b hb => by
  obtain ⟨I, _, n⟩ := m
  obtain ⟨x1, x2⟩ := I.ok.exf b hb
  exact ⟨n b hb, x1, I.ok.exfs b hb, .inl hb, x2, fun p hp => by cases hp⟩
/-- one turn: the next item, its item of the new list -/
theorem Mid.turn {i : Nat} {H : Hp} {s : Shared} {vs : List Nat} {g : TG} {te : TE} {Nx : Hp → Prop} (m : Mid X s3 H3 scope ce fp xe (wipe σ vs) tn i H s) (T : Turn X.prog X.w X.K tg J fp it tn) (hc : X.calm = true) (go : J.go i H)
    (pg : PG (inn X s3 H3 scope ce fp xe) tg g) (pe : PE (inn X s3 H3 scope ce fp xe) elt te)
    (step : ∀ x H', J.yld i H x H' → g x (wipe σ vs) H' fun σ2 H2 => wipe σ2 vs = wipe σ vs ∧ te σ2 H2 fun y H4 => ∃ acc, H4 D = some (.lst acc) ∧ acc.length < sizeLine ∧ Nx (upd H4 D (.lst (acc ++ [y])))) :
    wpAny (model X.prog X.w) X.A (pyNext (.ref it)) (fun r s1 => ∃ v, r = some v ∧ wpAny (model X.prog X.w) X.A (letOwnedTupleGo tg (.ref it) v) (fun _ s2 => wpAny (model X.prog X.w) X.A (assign tg ce v) (fun _ s3' =>
      wpAny (model X.prog X.w) X.A (eval elt ce) (fun z s4 => wpAny (model X.prog X.w) X.A (call (.builtin "list.append") [.ref D, z]) (fun _ s5 => ∃ H', Nx H' ∧ Mid X s3 H3 scope ce fp xe (wipe σ vs) tn (i + 1) H' s5) xe s4) xe s3') xe s2) xe s1) xe s := by
  refine thn (T.item (inn X s3 H3 scope ce fp xe) rfl rfl rfl hc i [] s (wipe σ vs) H xe m.1 m.ok m.2.1 go) fun r s1 ⟨v, er, h1⟩ => ⟨v, er, ?_⟩
  refine thn h1 fun _ s2 ⟨x, H1, I1, rv, yl, t1, n1⟩ => ?_
  have m1 : Mid X s3 H3 scope ce fp xe (wipe σ vs) tn (i + 1) H1 s2 := ⟨I1, t1, n1⟩
  have P1 := I1.pinned m1.ok (T.obj _ _ t1)
  refine thn (pg.run _ s2 _ H1 x v _ P1 rv (step x H1 yl)) fun _ s4 ⟨σ2, H2, I2, w2, q2⟩ => ?_
  refine thn (pe.run _ s4 σ2 H2 _ I2 q2) fun z s5 ⟨y, H4, I4, ry, acc, a1, a2, nx⟩ => ?_
  refine app_ok (X := inn X s3 H3 scope ce fp xe) I4 a1 a2 ry fun s6 I6 => ⟨_, nx, ?_, ?_, ?_⟩
  · refine (I6.unpinned (pins := [])).weak (by rw [← w2, wipe_length]) fun j u e => ?_
    rw [← w2] at e
    exact (wipe_some e).1
  · refine T.keep _ _ _ t1 fun b hb o e => ?_
    exact (I6.pin (b, o) (List.mem_append_right _ (List.mem_append_right _ (mem_pinsAt hb e)))).1
  · intro b hb
    obtain ⟨o, e, _⟩ := T.obj _ _ t1 b hb
    exact (I6.pin (b, o) (List.mem_append_right _ (List.mem_append_right _ (mem_pinsAt hb e)))).2.1
end
section
variable {X : Cx}
/-- [f(..) for t in it] as a value, Z what is known of the block -/
theorem pe_lcZ {E : XK} {W0 : WX} {elt tg iter : Expr} {scope : Scope} {own : List (Str × Nat)} {pos : Pos} {wi : TI} {g : TG} {te : TE}
    (tk : Takes X W0) (hW : ∀ cls d σ H, E cls d H → W0 cls d σ H) (hst : X.stack = X.env :: X.outer) (hfr : X.env.frame = some X.env.locals)
    (hc : X.calm = true) (hN : X.N.Nodup) (hi : PI X tg iter wi) (ok : BlkOk X.N X.env.scope scope own)
    (hg : ∀ (s : Shared) (H : Hp) (C : Addr) (cl : List (Str × Addr)) (fp : List Addr) (xe : Value → Shared → Prop), PG (inn X s H scope (compEnvC scope cl C X.env) fp xe) tg g)
    (Z : Env → Prop) (hZ : ∀ (pins : List (Addr × Obj)) (σ : L2.St) (H : Hp) (s : Shared), Inv X pins σ H s → Z (compEnvC scope (cellsFrom (s.heap.objs.size + 1) scope.names (cloFrom X.env.cells scope.names [])) s.heap.objs.size X.env))
    (he : ∀ (s : Shared) (H : Hp) (C : Addr) (cl : List (Str × Addr)) (fp : List Addr) (xe : Value → Shared → Prop), Z (compEnvC scope cl C X.env) → Passes (L2.CX X.prog X.w) (inn X s H scope (compEnvC scope cl C X.env) fp xe) E → PE (inn X s H scope (compEnvC scope cl C X.env) fp xe) elt te)
    (hs : ∀ x, foldedSetIterable iter X.env x = pure x := by intro _; rfl) :
    PE X (.ListComp elt [⟨tg, iter, [], 0⟩] scope pos) (tLc wi g tYes te (own.map (·.2))) := by
  refine ⟨fun pins s σ H Q I h => ?_⟩
  rw [eval_ListComp]
  have cells : ∀ y ∈ scope.names, y.2 = .free → ∃ c, X.env.cells.lookup y.1 = some c := fun y hy e => I.ok.has _ ((ok.free y hy e).symm.elim .inr .inl)
  refine comp_fin (closure_ok cells) hs ok.kind (fun y hy e => by rw [ok.uniq y hy, e]) (thn (hi.run pins s σ H _ I h) fun xv s1 hx => thn hx fun itv s2 h2 => ?_)
  obtain ⟨it, fp, tn, J, H2, rfl, I2, T, t2, f2, q⟩ := h2
  refine wpAny_newObj_type (newEnv_comp ?_) (by show 0 ≤ sizeLine; decide)
  have hD : H2 s2.heap.objs.size = none := I2.hok.fresh (Nat.le_refl _)
  obtain ⟨W, ⟨m0, w0⟩, turn⟩ := q _ hD
  generalize eD : s2.heap.objs.size = D at *
  have lay : ∀ b o, s2.heap.get? b = some o → (s2.heap.push { cls := .type "list", data := .seq ([] : List Value).toArray }).get? b = some o := fun b o e => Heap.get?_push_of_some _ e
  have I3 : Inv X pins σ (upd H2 D (.lst [])) { s2 with heap := s2.heap.push { cls := .type "list", data := .seq ([] : List Value).toArray } } := by
    refine I2.laid (t' := s2.toks) lay (Nat.le_of_eq eD) ⟨Nat.zero_le _, [], 0, .nil, ?_⟩
    rw [← eD]; exact Heap.get?_push_size _ rfl
  have sz : (s2.heap.push { cls := .type "list", data := .seq ([] : List Value).toArray }).objs.size = s2.heap.objs.size + 1 := Heap.size_push ..
  have f3 : ∀ b ∈ fp, FpOk X pins (upd H2 D (.lst [])) b ∧ b < (s2.heap.push { cls := .type "list", data := .seq ([] : List Value).toArray }).objs.size := fun b hb => by
    obtain ⟨o, e, _⟩ := T.obj _ _ t2 b hb
    have lt := Heap.lt_size e
    exact ⟨⟨by rw [upd_ne (Nat.ne_of_lt (eD ▸ lt))]; exact (f2 b hb).1, (f2 b hb).2⟩, by rw [sz]; exact Nat.lt_succ_of_lt (eD ▸ lt)⟩
  have t3 := T.keep _ _ _ t2 fun b _ o e => lay b o e
  generalize es3 : ({ s2 with heap := s2.heap.push { cls := .type "list", data := .seq ([] : List Value).toArray } } : Shared) = s3 at *
  have h3 : s2.heap.push { cls := .type "list", data := .seq ([] : List Value).toArray } = s3.heap := by rw [← es3]
  rw [h3] at f3 t3
  have I4 := block_start I3 ok hN (hfp := f3)
  have tgt := hg s3 (upd H2 D (.lst [])) s3.heap.objs.size (cellsFrom (s3.heap.objs.size + 1) scope.names (cloFrom X.env.cells scope.names [])) fp
  have itm := he s3 (upd H2 D (.lst [])) s3.heap.objs.size (cellsFrom (s3.heap.objs.size + 1) scope.names (cloFrom X.env.cells scope.names [])) fp
  have hz := hZ _ _ _ _ I3
  generalize ec : compEnvC scope (cellsFrom (s3.heap.objs.size + 1) scope.names (cloFrom X.env.cells scope.names [])) s3.heap.objs.size X.env = ce at I4 tgt itm hz
  have b : Base X pins σ (upd H2 D (.lst [])) s3 ce fp := ⟨I3, fun x hx => (f3 x hx).1, by rw [← ec]; rfl, by rw [← ec]; rfl, hst, hfr⟩
  show codeAny _ _ (.compStart (.ListComp elt [⟨tg, iter, [], 0⟩] scope pos) 0 (.ref it) (.ref D) (compEnvC scope (cellsFrom (s3.heap.objs.size + 1) scope.names (cloFrom X.env.cells scope.names [])) s3.heap.objs.size X.env)) (Fin (model X.prog X.w) X.A X.xe (EP X pins σ Q) (.ref D) s3.heap.objs.size X.env.frame) _
  rw [ec]
  have tgt := tgt (notedBy (model X.prog X.w) X.A ce fun e s' => Fin (model X.prog X.w) X.A X.xe (EP X pins σ Q) (.ref D) s3.heap.objs.size X.env.frame (.error e) s')
  have itm := itm (notedBy (model X.prog X.w) X.A ce fun e s' => Fin (model X.prog X.w) X.A X.xe (EP X pins σ Q) (.ref D) s3.heap.objs.size X.env.frame (.error e) s') hz fun _ _ _ _ _ _ I cx => b.raises tk (fun cls d H h => hW cls d σ H h) I cx
  have mid0 : Mid X s3 (upd H2 D (.lst [])) scope ce fp (notedBy (model X.prog X.w) X.A ce fun e s' => Fin (model X.prog X.w) X.A X.xe (EP X pins σ Q) (.ref D) s3.heap.objs.size X.env.frame (.error e) s') (wipe σ (own.map (·.2))) tn 0 (upd H2 D (.lst [])) { s3 with heap := pushCells (s3.heap.push { cls := .type "dict", data := .dict #[] }) scope.names } := by
    exact ⟨inn_of I4 _, T.keep _ _ _ t3 fun b _ o e => pushCells_keeps _ _ _ _ (Heap.get?_push_of_some _ e), fun x hx => (f3 x hx).1.1⟩
  generalize ex : (notedBy (model X.prog X.w) X.A ce fun e s' => Fin (model X.prog X.w) X.A X.xe (EP X pins σ Q) (.ref D) s3.heap.objs.size X.env.frame (.error e) s') = xb at tgt itm mid0
  generalize ({ s3 with heap := pushCells (s3.heap.push { cls := .type "dict", data := .dict #[] }) scope.names } : Shared) = s4 at mid0 ⊢
  have loop : codeAny (model X.prog X.w) X.A (.compLoop (.ListComp elt [⟨tg, iter, [], 0⟩] scope pos) 0 (.ref it) (.ref D) ce) (Fin (model X.prog X.w) X.A X.xe (EP X pins σ Q) (.ref D) s3.heap.objs.size X.env.frame) s4 := by
    refine compLoop_any (fun n s' => ∃ i H', Mid X s3 (upd H2 D (.lst [])) scope ce fp xb (wipe σ (own.map (·.2))) tn i H' s' ∧ W i n H') ?_ m0 ⟨0, _, mid0, w0⟩
    rw [ex]
    rintro n s' ⟨i, H', m, w⟩
    rcases turn i n H' w with ⟨stop, fine⟩ | ⟨go, Nx, lower, step⟩
    · refine thn (T.done (inn X s3 _ scope ce fp xb) rfl rfl rfl hc i [] s' _ H' xb m.1 m.ok m.2.1 stop) fun r s5 ⟨er, I5⟩ => ?_
      subst er
      obtain ⟨I6, ns, fpo⟩ := b.back I5
      obtain ⟨f0, f1, f2', f3', f4, f5⟩ := fpo
      exact ⟨ns, fun h'' sb => ⟨.ref D, H', I6.turned (t' := s5.toks) (fun x o hx e => (sb.2 x hx).trans e) f0 f1 f3' f4 f5, rfl, fine⟩⟩
    · refine thn (m.turn (D := D) (Nx := Nx) T hc go tgt itm fun x H1 yl => ?_) fun r s5 ⟨v, er, h5⟩ => ?_
      · have st := step x H1 yl
        exact st
      · subst er
        refine thn h5 fun _ s6 h6 => thn h6 fun _ s7 h7 => wpAny_tests_nil ?_
        rw [if_pos rfl]
        refine thn h7 fun z s8 h8 => thn h8 fun _ s9 ⟨H9, nx, m9⟩ => ?_
        obtain ⟨n', lt, w'⟩ := lower H9 nx
        exact ⟨n', lt, i + 1, H9, m9, w'⟩
  exact codeAny_compStart_list loop (T.self X.A 0 _ _ _ mid0.2.1 loop)
/-- [f(..) for t in it] as a value -/
theorem pe_lcX {E : XK} {W0 : WX} {elt tg iter : Expr} {scope : Scope} {own : List (Str × Nat)} {pos : Pos} {wi : TI} {g : TG} {te : TE}
    (tk : Takes X W0) (hW : ∀ cls d σ H, E cls d H → W0 cls d σ H) (hst : X.stack = X.env :: X.outer) (hfr : X.env.frame = some X.env.locals)
    (hc : X.calm = true) (hN : X.N.Nodup) (hi : PI X tg iter wi) (ok : BlkOk X.N X.env.scope scope own)
    (hg : ∀ (s : Shared) (H : Hp) (C : Addr) (cl : List (Str × Addr)) (fp : List Addr) (xe : Value → Shared → Prop), PG (inn X s H scope (compEnvC scope cl C X.env) fp xe) tg g)
    (he : ∀ (s : Shared) (H : Hp) (C : Addr) (cl : List (Str × Addr)) (fp : List Addr) (xe : Value → Shared → Prop), Passes (L2.CX X.prog X.w) (inn X s H scope (compEnvC scope cl C X.env) fp xe) E → PE (inn X s H scope (compEnvC scope cl C X.env) fp xe) elt te)
    (hs : ∀ x, foldedSetIterable iter X.env x = pure x := by intro _; rfl) : PE X (.ListComp elt [⟨tg, iter, [], 0⟩] scope pos) (tLc wi g tYes te (own.map (·.2))) :=
  pe_lcZ tk hW hst hfr hc hN hi ok hg (fun _ => True) (fun _ _ _ _ _ => trivial) (fun s H C cl fp xe _ => he s H C cl fp xe) hs
theorem block_cells {pins : List (Addr × Obj)} {σ : L2.St} {H : Hp} {s : Shared} {scope : Scope} {own : List (Str × Nat)} (I : Inv X pins σ H s) (ok : BlkOk X.N X.env.scope scope own) (hfn : ∀ x, X.fn x = true) {x : Str} {c : Addr}
    (e : (cellsFrom (s.heap.objs.size + 1) scope.names (cloFrom X.env.cells scope.names [])).lookup x = some c) : X.base.objs.size ≤ c ∧ c ∉ frs X.stack := by
  have up : X.base.objs.size ≤ s.heap.objs.size := Nat.le_trans I.ok.bsz I.sz
  have e1 := PySem.mem_of_lookup e
  rw [← Heap.size_push s.heap { cls := .type "dict", data := .dict #[] }] at e1
  rcases cells_mem e1 with hm | ⟨_, h2, _⟩
  · rcases cloFrom_mem hm with hm | ⟨h1, rfl⟩
    · cases hm
    · obtain ⟨c, hc⟩ : ∃ c, X.env.cells.lookup x = some c := (ok.free _ h1 rfl).elim (fun k => I.ok.has _ (.inl k)) fun k => I.ok.has _ (.inr k)
      rw [hc]
      have ab := I.ok.cab x c (hfn x) hc
      refine ⟨Nat.le_trans I.ok.bsz ab, fun hb => ?_⟩
      rcases List.mem_cons.mp (I.stkSub _ hb) with z | z
      · exact I.cne x c hc z
      · obtain ⟨_, o, ho, _⟩ := I.ok.funs.mem z
        exact absurd (Nat.lt_of_lt_of_le (Heap.lt_size ho) ab) (Nat.lt_irrefl _)
  · rw [Heap.size_push] at h2
    refine ⟨Nat.le_trans up (Nat.le_of_succ_le h2), fun hb => ?_⟩
    obtain ⟨_, o, ho, _⟩ := I.stack.mem hb
    exact absurd (Nat.lt_of_lt_of_le (Heap.lt_size ho) (Nat.le_of_succ_le h2)) (Nat.lt_irrefl _)
/-- the same, in a def: the block's cells stand above all and are no frame's -/
theorem pe_lcV {E : XK} {W0 : WX} {elt tg iter : Expr} {scope : Scope} {own : List (Str × Nat)} {pos : Pos} {wi : TI} {g : TG} {te : TE}
    (tk : Takes X W0) (hW : ∀ cls d σ H, E cls d H → W0 cls d σ H) (hst : X.stack = X.env :: X.outer) (hfr : X.env.frame = some X.env.locals) (hfn : ∀ x, X.fn x = true)
    (hc : X.calm = true) (hN : X.N.Nodup) (hi : PI X tg iter wi) (ok : BlkOk X.N X.env.scope scope own)
    (hg : ∀ (s : Shared) (H : Hp) (C : Addr) (cl : List (Str × Addr)) (fp : List Addr) (xe : Value → Shared → Prop), PG (inn X s H scope (compEnvC scope cl C X.env) fp xe) tg g)
    (he : ∀ (s : Shared) (H : Hp) (C : Addr) (cl : List (Str × Addr)) (fp : List Addr) (xe : Value → Shared → Prop), (∀ x c, cl.lookup x = some c → X.base.objs.size ≤ c ∧ c ∉ frs X.stack) → PE (inn X s H scope (compEnvC scope cl C X.env) fp xe) elt te)
    (hs : ∀ x, foldedSetIterable iter X.env x = pure x := by intro _; rfl) : PE X (.ListComp elt [⟨tg, iter, [], 0⟩] scope pos) (tLc wi g tYes te (own.map (·.2))) :=
  pe_lcZ tk hW hst hfr hc hN hi ok hg (fun ce => ∀ x c, ce.cells.lookup x = some c → X.base.objs.size ≤ c ∧ c ∉ frs X.stack) (fun pins σ H s I x c e => block_cells I ok hfn e) (fun s H C cl fp xe z _ => he s H C cl fp xe z) hs
end
end LCX

set_option linter.all false
set_option maxHeartbeats 4000000
namespace NE
open PySem PySem.Spec PyProof.Rows L2 HT
variable {X : Cx}
/-- xs != [] -/
def rNe0 (K : PySem.W.Frag) : R2 := fun x y H Q => ∃ a b xs, x = .ref a ∧ y = .ref b ∧ SqL K H a xs ∧ H b = some (.lst []) ∧ Q (.bl (!xs.isEmpty)) H
theorem op_ne0 {K : PySem.W.Frag} (hu : X.A.units + 2 < cLine) (hK : X.K = K := by rfl) : OpR X (compareOp .NotEq) (rNe0 K) := by
  subst hK
  intro pins s σ H x y v u Q I rx ry h
  obtain ⟨a, b, xs, rfl, rfl, ha, hb, q⟩ := h
  obtain rfl : v = Value.ref a := rx
  obtain rfl : u = Value.ref b := ry
  obtain ⟨its, r, hl, _⟩ := I.list ha
  obtain ⟨its2, r2, hl2, _⟩ := I.list (SqL.of hb)
  cases r2
  cases xs with
  | nil =>
    cases r
    exact (SeqAt.RcNeAt.lists hl.isList hl2.isList rfl (by omega) (e := fun _ => true) (fun j h1 => absurd h1 (by simp))) X.prog X.w _ _ ⟨.bl false, H, I, rfl, q⟩
  | cons x xs =>
    cases r
    exact (SeqAt.RcNeAt.lists_lengths hl.isList hl2.isList (by simp) (by omega)) X.prog X.w _ _ ⟨.bl true, H, I, rfl, q⟩
end NE

set_option linter.all false
set_option maxRecDepth 100000
set_option maxHeartbeats 4000000
namespace NE
open PySem PySem.Spec PyProof.Rows L2 HT
variable {X : Cx}
/-- t != () -/
def rNeT (K : PySem.W.Frag) : R2 := fun x y H Q => ∃ a b xs, x = .ref a ∧ y = .ref b ∧ SqT K H a xs ∧ SqT K H b [] ∧ Q (.bl (!xs.isEmpty)) H
theorem op_neT {K : PySem.W.Frag} (hu : X.A.units + 2 < cLine) (hK : X.K = K := by rfl) : OpR X (compareOp .NotEq) (rNeT K) := by
  subst hK
  intro pins s σ H x y v u Q I rx ry h
  obtain ⟨a, b, xs, rfl, rfl, ha, hb, q⟩ := h
  obtain rfl : v = Value.ref a := rx
  obtain rfl : u = Value.ref b := ry
  obtain ⟨its, r, hl, _⟩ := I.tuple ha
  obtain ⟨its2, r2, hl2, _⟩ := I.tuple hb
  cases r2
  have z : (!((List.range (min its.toArray.size ([] : List Value).toArray.size)).all (fun _ => true) && its.toArray.size == ([] : List Value).toArray.size)) = !xs.isEmpty := by
    cases r with
    | nil => rfl
    | cons _ _ => simp
  refine (SeqAt.RcNeAt.tuples hl hl2 (by omega) (e := fun _ => true) (fun j h1 h2 => absurd h2 (by simp))) X.prog X.w _ _ ?_
  rw [z]
  exact ⟨.bl (!xs.isEmpty), H, I, rfl, q⟩
end NE

set_option linter.all false
set_option maxHeartbeats 4000000
namespace EQL
open PySem PySem.Spec PyProof.Rows L2 HT
variable {X : Cx}
/-- xs == [] -/
def rEq0L (K : PySem.W.Frag) : R2 := fun x y H Q => ∃ a b xs, x = .ref a ∧ y = .ref b ∧ SqL K H a xs ∧ H b = some (.lst []) ∧ Q (.bl xs.isEmpty) H
theorem op_eq0L {K : PySem.W.Frag} (hu : X.A.units + 2 < cLine) (hK : X.K = K := by rfl) : OpR X (compareOp .Eq) (rEq0L K) := by
  subst hK
  intro pins s σ H x y v u Q I rx ry h
  obtain ⟨a, b, xs, rfl, rfl, ha, hb, q⟩ := h
  obtain rfl : v = Value.ref a := rx
  obtain rfl : u = Value.ref b := ry
  obtain ⟨its, r, hl, _⟩ := I.list ha
  obtain ⟨its2, r2, hl2, _⟩ := I.list (SqL.of hb)
  cases r2
  cases xs with
  | nil =>
    cases r
    exact (SeqAt.RcAt.lists hl.isList hl2.isList rfl (by omega) (e := fun _ => true) (fun j h1 => absurd h1 (by simp))) X.prog X.w _ _ ⟨.bl true, H, I, rfl, q⟩
  | cons x xs =>
    cases r
    exact (SeqAt.RcAt.lists_lengths hl.isList hl2.isList (by simp) (by omega)) X.prog X.w _ _ ⟨.bl false, H, I, rfl, q⟩
end EQL

set_option linter.all false
set_option maxHeartbeats 4000000
namespace GS
open PySem L2 HX
theorem akT {K : PySem.W.Frag} {H : Hp} {a : Addr} {xs : List V} (h : SqT K H a xs) : TyX K H (.ref a) (.type "tuple") := by
  rcases h with (h | ⟨o, h⟩) | ⟨o, its, n, h, c, _⟩
  · exact .base (.tup h)
  · exact .fTuple h
  · exact .kTuple h c
theorem akL {K : PySem.W.Frag} {H : Hp} {a : Addr} {xs : List V} (h : SqL K H a xs) : TyX K H (.ref a) (.type "list") := by
  rcases h with (h | ⟨o, h⟩) | ⟨o, its, n, h, c, _⟩
  · exact .base (.lst h)
  · exact .base (.frz h)
  · exact .kList h c
def akLeaf : V → Bool
  | .non => true
  | .int _ => true
  | .str _ => true
  | _ => false
/-- two that are alike, n deep (the law's form by a tuple of kinds) -/
def Ak (K : PySem.W.Frag) (H : Hp) : Nat → V → V → Prop
  | 0, v, w => v = w ∧ akLeaf v = true
  | n + 1, v, w => (v = w ∧ akLeaf v = true) ∨ ∃ (a b : Addr) (xs ys : List V), v = .ref a ∧ w = .ref b ∧ ((SqT K H a xs ∧ SqT K H b ys) ∨ (SqL K H a xs ∧ SqL K H b ys)) ∧ xs.length ≤ 100000 ∧ Paired (Ak K H n) xs ys
theorem ak_sqT {K : PySem.W.Frag} {H H' : Hp} {p : Addr} {xs : List V} (k : Same H H') (h : SqT K H p xs) : SqT K H' p xs := h.imp (fun z => z.elim (fun z => .inl (k _ _ z)) fun ⟨o, z⟩ => .inr ⟨o, k _ _ z⟩) id
theorem ak_sqL {K : PySem.W.Frag} {H H' : Hp} {p : Addr} {xs : List V} (k : Same H H') (h : SqL K H p xs) : SqL K H' p xs := h.imp (fun z => z.elim (fun z => .inl (k _ _ z)) fun ⟨o, z⟩ => .inr ⟨o, k _ _ z⟩) id
theorem Ak.up {K : PySem.W.Frag} {H H' : Hp} (s : Same H H') : ∀ {n : Nat} {v w : V}, Ak K H n v w → Ak K H' n v w
  | 0, _, _, h => h
  | n + 1, _, _, h => by
    rcases h with h | ⟨a, b, xs, ys, e1, e2, h3, h4, h5⟩
    · exact .inl h
    · refine .inr ⟨a, b, xs, ys, e1, e2, ?_, h4, pw_imp (fun _ _ q => Ak.up s q) h5⟩
      rcases h3 with ⟨x, y⟩ | ⟨x, y⟩
      · exact .inl ⟨ak_sqT s x, ak_sqT s y⟩
      · exact .inr ⟨ak_sqL s x, ak_sqL s y⟩
def spAk (K : PySem.W.Frag) (n : Nat) : Sp := fun vs H Q _ => ∃ v w, vs = [v, w] ∧ Ak K H n v w ∧ ∀ H', Same H H' → Q (.bl true) H'
theorem ak_both {α β : Type} {R : α → β → Prop} : ∀ {xs : List α} {ys : List β} {i : Nat}, Paired R xs ys → i < xs.length → ∃ x y, xs[i]? = some x ∧ ys[i]? = some y ∧ R x y
  | _, _, 0, .cons h _, _ => ⟨_, _, rfl, rfl, h⟩
  | _, _, i + 1, .cons _ r, l => ak_both (i := i) r (by rw [List.length_cons] at l; omega)
section
variable {P : Program} {w : World} {K : PySem.W.Frag} {mg : Str → Option Value} {base : Heap}
theorem scAk : FnScope ["_law_found", "_law_due_here", "_law_k"] ["_law_found", "_law_due_here"] (defScope s_l_alike) := ⟨rfl, rfl, rfl, by decide +kernel, rfl, by decide +kernel, by decide +kernel⟩
theorem ok_ak {n j : Nat} {f : Addr} {fd : FuncData} (F : Fun K "_law_alike" "_law_alike" s_l_alike f fd) (T : Txt mg) (Calike : ∀ m, n = m + 1 → Cal P w K mg base j "_law_alike" ["_law_found", "_law_due_here"] (spAk K m) f fd) : FnOk P w K mg base CX0 (j + 1) f fd ["_law_found", "_law_due_here"] (spAk K n) := by
  have kI : PySem.W.kitOne K (.type "int") (.type "int") = some true := by unfold PySem.W.kitOne; rw [if_pos (by decide)]
  have kS : PySem.W.kitOne K (.type "str") (.type "str") = some true := by unfold PySem.W.kitOne; rw [if_pos (by decide)]
  have kT : PySem.W.kitOne K (.type "tuple") (.type "tuple") = some true := by unfold PySem.W.kitOne; rw [if_pos (by decide)]
  have kL : PySem.W.kitOne K (.type "list") (.type "list") = some true := by unfold PySem.W.kitOne; rw [if_pos (by decide)]
  have kIb : PySem.W.kitOne K (.type "int") (.type "bool") = some false := by first | rfl | decide +kernel
  have kIs : PySem.W.kitOne K (.type "int") (.type "str") = some false := by first | rfl | decide +kernel
  have kIt : PySem.W.kitOne K (.type "int") (.type "tuple") = some false := by first | rfl | decide +kernel
  have kIl : PySem.W.kitOne K (.type "int") (.type "list") = some false := by first | rfl | decide +kernel
  have kSt : PySem.W.kitOne K (.type "str") (.type "tuple") = some false := by first | rfl | decide +kernel
  have kSl : PySem.W.kitOne K (.type "str") (.type "list") = some false := by first | rfl | decide +kernel
  have kNs : PySem.W.kitOne K (.type "NoneType") (.type "str") = some false := by first | rfl | decide +kernel
  have kNt : PySem.W.kitOne K (.type "NoneType") (.type "tuple") = some false := by first | rfl | decide +kernel
  have kNl : PySem.W.kitOne K (.type "NoneType") (.type "list") = some false := by first | rfl | decide +kernel
  have kTl : PySem.W.kitOne K (.type "tuple") (.type "list") = some false := by first | rfl | decide +kernel
  have kLt : PySem.W.kitOne K (.type "list") (.type "tuple") = some false := by first | rfl | decide +kernel
  have aI : PySem.W.kitAny K (.type "int") [.type "tuple", .type "list"] = some false := by unfold PySem.W.kitAny; rw [kIt]; dsimp only; unfold PySem.W.kitAny; rw [kIl]; rfl
  have aS : PySem.W.kitAny K (.type "str") [.type "tuple", .type "list"] = some false := by unfold PySem.W.kitAny; rw [kSt]; dsimp only; unfold PySem.W.kitAny; rw [kSl]; rfl
  have aN : PySem.W.kitAny K (.type "NoneType") [.type "tuple", .type "list"] = some false := by unfold PySem.W.kitAny; rw [kNt]; dsimp only; unfold PySem.W.kitAny; rw [kNl]; rfl
  have aT : PySem.W.kitAny K (.type "tuple") [.type "tuple", .type "list"] = some true := by unfold PySem.W.kitAny; rw [kT]
  have aL : PySem.W.kitAny K (.type "list") [.type "tuple", .type "list"] = some true := by unfold PySem.W.kitAny; rw [kLt]; dsimp only; unfold PySem.W.kitAny; rw [kL]
  have cls : Paired ClsV [.ty "tuple", .ty "list"] [.type "tuple", .type "list"] := .cons (.ty _) (.cons (.ty _) .nil)
  refine F.ok scAk (fun vs H Q E h => ?_) (fun cdv A outer s H vs Q E hr h => ?_)
  · obtain ⟨v, w, rfl, _⟩ := h
    rfl
  · obtain ⟨v, w', rfl, al, k⟩ := h
    have hr1 : Room j _ := hr
    have leafCase : (v = w' ∧ akLeaf v = true) → ∃ t, PSs (cxOf CX0 P w K mg base ["_law_found", "_law_due_here", "_law_k"] "_law_alike" (defScope s_l_alike) f cdv A outer s H E).nox (defBody s_l_alike) t ∧ t { nx := fun _ H' => Q .non H', rt := Q } (L2.start ["_law_found", "_law_due_here", "_law_k"] [v, w']) H := by
      rintro ⟨rfl, hl⟩
      refine ⟨_, (pss_cons (ps_if (pt_val (pe_callB (RK.isiT (K := K)) (by rfl) T.isinstance (by decide +kernel) (pa_cons (pv 1) (pa_cons (pe_tup (pa_cons (pe_bltn (v := .ty "tuple") (u := .type "tuple") (by rfl) T.tuple (by decide +kernel) rfl) (pa_cons (pe_bltn (v := .ty "list") (u := .type "list") (by rfl) T.list (by decide +kernel) rfl) pa_nil))) pa_nil)))) (pss_cons ps_never (pss_cons ps_never (pss_one ps_never))) pss_nil)
        (pss_cons (ps_if (PW.pt (pw_or (pt_cmpR op_isN (pv 1) pe_non (nomark _)) (pw_or1 (pt_val (pe_callB (RK.isi (K := K)) (by rfl) T.isinstance (by decide +kernel) (pa_cons (pv 1) (pa_cons (pe_bltn (v := .ty "str") (u := .type "str") (by rfl) T.str (by decide +kernel) rfl) pa_nil))))))) (pss_one (ps_ret (pe_and (pe_cmpR op_eq (pv 0) (pv 1) (nomark _)) (pe_one (pe_cmpR op_eq (pe_callB (RK.isi (K := K)) (by rfl) T.isinstance (by decide +kernel) (pa_cons (pv 0) (pa_cons (pe_bltn (v := .ty "str") (u := .type "str") (by rfl) T.str (by decide +kernel) rfl) pa_nil))) (pe_callB (RK.isi (K := K)) (by rfl) T.isinstance (by decide +kernel) (pa_cons (pv 1) (pa_cons (pe_bltn (v := .ty "str") (u := .type "str") (by rfl) T.str (by decide +kernel) rfl) pa_nil))) (nomark _)))))) pss_nil)
        (pss_one (ps_ret (pe_and (pe_callB (RK.isi (K := K)) (by rfl) T.isinstance (by decide +kernel) (pa_cons (pv 0) (pa_cons (pe_bltn (v := .ty "int") (u := .type "int") (by rfl) T.int (by decide +kernel) rfl) pa_nil))) (pe_and (pe_cmpR op_eq (pe_callB (RK.isi (K := K)) (by rfl) T.isinstance (by decide +kernel) (pa_cons (pv 0) (pa_cons (pe_bltn (v := .ty "bool") (u := .type "bool") (by rfl) T.bool (by decide +kernel) rfl) pa_nil))) (pe_callB (RK.isi (K := K)) (by rfl) T.isinstance (by decide +kernel) (pa_cons (pv 1) (pa_cons (pe_bltn (v := .ty "bool") (u := .type "bool") (by rfl) T.bool (by decide +kernel) rfl) pa_nil))) (nomark _)) (pe_one (pe_cmpR op_eq (pv 0) (pv 1) (nomark _))))))))), ?_⟩
      cases v with
      | non =>
        refine sif ⟨_, rfl, by show 2 ≤ sizeLine; decide, fun p hp => ⟨_, p, _, _, _, false, rfl, upd_same, cls, .base .non, aN, _, rfl, iteF ?_⟩⟩
        dsimp only [tNext]
        have sm := same_new (o := .tup [.ty "tuple", .ty "list"]) hp
        refine sif ⟨_, rfl, rfl, _, rfl, iteT ?_⟩
        refine ⟨_, rfl, _, rfl, rfl, ?_⟩
        refine ⟨_, rfl, ?_⟩
        rw [decide_eq_true rfl]
        refine iteT ⟨_, rfl, _, _, _, _, false, rfl, .ty "str", .base .non, kNs, _, rfl, _, _, _, _, false, rfl, .ty "str", .base .non, kNs, rfl, k _ sm⟩
      | int i =>
        refine sif ⟨_, rfl, by show 2 ≤ sizeLine; decide, fun p hp => ⟨_, p, _, _, _, false, rfl, upd_same, cls, .base (.int i), aI, _, rfl, iteF ?_⟩⟩
        dsimp only [tNext]
        have sm := same_new (o := .tup [.ty "tuple", .ty "list"]) hp
        refine sif ⟨_, rfl, rfl, _, rfl, iteF ?_⟩
        refine ⟨_, rfl, _, _, _, _, false, rfl, .ty "str", .base (.int i), kIs, _, rfl, iteF ?_⟩
        dsimp only [tNext]
        refine ⟨_, rfl, _, _, _, _, true, rfl, .ty "int", .base (.int i), kI, _, rfl, iteT ?_⟩
        refine ⟨_, rfl, _, _, _, _, false, rfl, .ty "bool", .base (.int i), kIb, _, rfl, _, _, _, _, false, rfl, .ty "bool", .base (.int i), kIb, rfl, ?_⟩
        refine ⟨_, rfl, iteT ?_⟩
        refine ⟨_, rfl, _, rfl, rfl, ?_⟩
        rw [decide_eq_true rfl]
        exact k _ sm
      | str x =>
        refine sif ⟨_, rfl, by show 2 ≤ sizeLine; decide, fun p hp => ⟨_, p, _, _, _, false, rfl, upd_same, cls, .base (.str x), aS, _, rfl, iteF ?_⟩⟩
        dsimp only [tNext]
        have sm := same_new (o := .tup [.ty "tuple", .ty "list"]) hp
        refine sif ⟨_, rfl, rfl, _, rfl, iteF ?_⟩
        refine ⟨_, rfl, _, _, _, _, true, rfl, .ty "str", .base (.str x), kS, _, rfl, iteT ?_⟩
        refine ⟨_, rfl, _, rfl, rfl, ?_⟩
        refine ⟨_, rfl, ?_⟩
        rw [decide_eq_true rfl]
        refine iteT ⟨_, rfl, _, _, _, _, true, rfl, .ty "str", .base (.str x), kS, _, rfl, _, _, _, _, true, rfl, .ty "str", .base (.str x), kS, rfl, k _ sm⟩
      | _ => cases hl
    cases n with
    | zero => exact leafCase al
    | succ m =>
      rcases al with al | ⟨a, b, xs, ys, rfl, rfl, kind, few, pw⟩
      · exact leafCase al
      have Ca := Calike m rfl
      have len := pw_len pw
      have tl2 : ∀ {b : Addr} {H' : Hp}, (SqL K H b ys ∨ SqT K H b ys) → Same H H' → (SqL K H' b ys ∨ SqT K H' b ys) := fun h s => h.imp (ak_sqL s) (ak_sqT s)
      have tl1 : ∀ {b : Addr} {H' : Hp}, (SqL K H b xs ∨ SqT K H b xs) → Same H H' → (SqL K H' b xs ∨ SqT K H' b xs) := fun h s => h.imp (ak_sqL s) (ak_sqT s)
      have both : (SqL K H a xs ∨ SqT K H a xs) ∧ (SqL K H b ys ∨ SqT K H b ys) := kind.elim (fun z => ⟨.inr z.1, .inr z.2⟩) fun z => ⟨.inl z.1, .inl z.2⟩
      obtain ⟨hX, hY⟩ := both
      obtain ⟨t, ca, tyA, tyB, cl, bl, kl⟩ : ∃ (t : Value) (ca : PySem.W.kitAny K t [.type "tuple", .type "list"] = some true) (_ : ∀ H', Same H H' → TyX K H' (.ref a) t) (_ : ∀ H', Same H H' → TyX K H' (.ref b) t) (_ : True) (bl : Bool), PySem.W.kitOne K t (.type "list") = some bl :=
        kind.elim (fun z => ⟨_, aT, fun _ s => akT (ak_sqT s z.1), fun _ s => akT (ak_sqT s z.2), trivial, false, kTl⟩) fun z => ⟨_, aL, fun _ s => akL (ak_sqL s z.1), fun _ s => akL (ak_sqL s z.2), trivial, true, kL⟩
      refine ⟨_, (pss_cons (ps_if (pt_val (pe_callB (RK.isiT (K := K)) (by rfl) T.isinstance (by decide +kernel) (pa_cons (pv 1) (pa_cons (pe_tup (pa_cons (pe_bltn (v := .ty "tuple") (u := .type "tuple") (by rfl) T.tuple (by decide +kernel) rfl) (pa_cons (pe_bltn (v := .ty "list") (u := .type "list") (by rfl) T.list (by decide +kernel) rfl) pa_nil))) pa_nil)))) (pss_cons (ps_if (PW.pt (pw_or (pt_not (pt_val (pe_callB (RK.isiT (K := K)) (by rfl) T.isinstance (by decide +kernel) (pa_cons (pv 0) (pa_cons (pe_tup (pa_cons (pe_bltn (v := .ty "tuple") (u := .type "tuple") (by rfl) T.tuple (by decide +kernel) rfl) (pa_cons (pe_bltn (v := .ty "list") (u := .type "list") (by rfl) T.list (by decide +kernel) rfl) pa_nil))) pa_nil))))) (pw_or1 (pt_cmpR op_ne (pe_callB (RK.isi (K := K)) (by rfl) T.isinstance (by decide +kernel) (pa_cons (pv 0) (pa_cons (pe_bltn (v := .ty "list") (u := .type "list") (by rfl) T.list (by decide +kernel) rfl) pa_nil))) (pe_callB (RK.isi (K := K)) (by rfl) T.isinstance (by decide +kernel) (pa_cons (pv 1) (pa_cons (pe_bltn (v := .ty "list") (u := .type "list") (by rfl) T.list (by decide +kernel) rfl) pa_nil))) (nomark _))))) (pss_one (ps_ret pe_bl)) pss_nil)
        (pss_cons (ps_if (pt_cmpR op_ne (pe_callB (RK.lenQ (K := K)) (by rfl) T.len PySem.boot_len (pa_cons (pv 0) pa_nil)) (pe_callB (RK.lenQ (K := K)) (by rfl) T.len PySem.boot_len (pa_cons (pv 1) pa_nil)) (nomark _)) (pss_one (ps_ret pe_bl)) pss_nil)
        (pss_one (ps_ret (pe_cmpR (EQL.op_eq0L (K := K) (by have z := hr.units; exact Nat.lt_of_le_of_lt (Nat.add_le_add_left (by decide) _) z)) (pe_lc (own := [("_law_k", 2)]) rfl scAk.nd (pi_range1 rfl T.range (pa_cons (pe_callB (RK.lenQ (K := K)) (by rfl) T.len PySem.boot_len (pa_cons (pv 1) pa_nil)) pa_nil)) (blkOk_by (N := ["_law_found", "_law_due_here", "_law_k"]) (sc := defScope s_l_alike) (by decide +kernel)) (fun _ _ _ _ _ => (pg_name (i := 2) scAk.nd rfl (Or.inl rfl))) (fun _ _ _ _ _ => (pts_one (pt_not (pt_val (pe_call Ca.G hr1 (by rfl) Ca.g Ca.kp Ca.b .nil pass0 (pa_cons (pe_ix (RK.ixQ (K := K)) (pv 0) (pv 2) (fun _ _ => rfl)) (pa_cons (pe_ix (RK.ixQ (K := K)) (pv 1) (pv 2) (fun _ _ => rfl)) pa_nil))))))) (fun _ _ _ _ _ => (pv 2))) (pe_lst pa_nil) (nomark _)))))) pss_nil)
        (pss_cons ps_never (pss_one ps_never))), ?_⟩
      refine sif ⟨_, rfl, by show 2 ≤ sizeLine; decide, fun p hp => ⟨_, p, _, _, _, true, rfl, upd_same, cls, tyB _ (same_new hp), ca, _, rfl, iteT ?_⟩⟩
      have s1 := same_new (o := .tup [.ty "tuple", .ty "list"]) hp
      generalize upd H p (.tup [.ty "tuple", .ty "list"]) = H1 at s1 ⊢
      refine sif ⟨_, rfl, by show 2 ≤ sizeLine; decide, fun p2 hp2 => ⟨_, p2, _, _, _, true, rfl, upd_same, cls, tyA _ (s1.trans (same_new hp2)), ca, _, rfl, iteF ?_⟩⟩
      have s2 := s1.trans (same_new (o := .tup [.ty "tuple", .ty "list"]) hp2)
      generalize upd H1 p2 (.tup [.ty "tuple", .ty "list"]) = H2 at s2 ⊢
      refine ⟨_, rfl, _, _, _, _, bl, rfl, .ty "list", tyA _ s2, kl, _, rfl, _, _, _, _, bl, rfl, .ty "list", tyB _ s2, kl, rfl, _, rfl, ?_⟩
      rw [show (!decide (V.bl bl = V.bl bl)) = false by simp]
      refine iteF ?_
      dsimp only [tNext]
      refine sif ⟨_, rfl, a, xs, rfl, tl1 hX s2, _, rfl, b, ys, rfl, tl2 hY s2, rfl, _, rfl, ?_⟩
      rw [len, show (!decide (V.int (ys.length : Nat) = V.int (ys.length : Nat))) = false by simp]
      refine iteF ?_
      dsimp only [tNext]
      have big : (100000 : Nat) < sizeLine := by decide
      refine ⟨_, rfl, b, ys, rfl, tl2 hY s2, _, rfl, by omega, by omega, fun D hD => ?_⟩
      refine lc_it (walk_range (lo := 0) (n := ((ys.length : Nat) : Int).toNat)) (fun i H' => (∀ b o, b ≠ D → H2 b = some o → H' b = some o) ∧ H' D = some (.lst []))
        ⟨fun b o n e => by rw [upd_ne n]; exact e, upd_same⟩ (fun i H' _ z => trivial) ?_ ?_
      · rintro i y H0 H' hi ⟨kp, hd⟩ ⟨rfl, rfl⟩
        have li : i < xs.length := by have hi : i < ys.length := by omega
                                      omega
        obtain ⟨x, y, ex, ey, al⟩ := ak_both pw li
        have z0 : (0 : Int) + ((i : Nat) : Int) = ((i : Nat) : Int) := by omega
        have sm : Same H H' := fun b o e => kp b o (ne_of_none (s2 _ _ e) hD) (s2 _ _ e)
        refine gn ⟨rfl, ?_⟩
        have ixd : ∀ {p : Addr} {zs : List V} {z : V} {H' : Hp} {Q : VK}, (SqL K H' p zs ∨ SqT K H' p zs) → zs[i]? = some z → Q z H' → rIx K (.ref p) (.int (0 + (i : Nat))) H' Q := fun {p zs z H' Q} h e q =>
          h.elim (fun h => .inl ⟨p, zs, _, z, rfl, rfl, h, by rw [z0]; exact atI_nat e, q⟩) fun h => .inr (.inl ⟨p, zs, _, z, rfl, rfl, h, by rw [z0]; exact atI_nat e, q⟩)
        refine ⟨_, rfl, _, rfl, ixd (tl1 hX sm) ex ⟨_, rfl, _, rfl, ixd (tl2 hY sm) ey ⟨x, y, rfl, al.up sm, fun H3 s3 => ⟨_, rfl, iteF ?_⟩⟩⟩⟩
        exact ⟨fun b o n e => s3 _ _ (kp b o n e), s3 _ _ hd⟩
      · rintro H' ⟨kp, hd⟩
        have sm : Same H2 H' := fun b o e => kp b o (ne_of_none e hD) e
        refine ⟨by show 0 ≤ sizeLine; decide, fun l hl => ⟨D, l, [], rfl, rfl, SqL.of ?_, upd_same, k _ (s2.trans (sm.trans (same_new hl)))⟩⟩
        exact same_new hl _ _ hd
end
end GS

set_option linter.all false
set_option maxHeartbeats 2000000
namespace K06
open PySem L2
/-! ### statements -/
/-- a condition, or none -/
def OcAt (K : PySem.W.Frag) (H : Hp) (v : V) : Option Tr → Prop
  | none => v = .non
  | some t => TrAt K H v t
def OcOk (n : Nat) (o : Option Tr) : Prop := ∀ t, o = some t → Wr t ∧ t.depth < n ∧ tsz t ≤ 100000
def TsAt (K : PySem.W.Frag) (H : Hp) (p : Addr) (ts : List Tr) : Prop := ∃ vs, SqT K H p vs ∧ Paired (TrAt K H) vs ts
inductive Stm where
  | table (n : Str) (fs : List Str)
  | index (n f : Str)
  | put (n : Str) (ns : List Int)
  | set (n : Str) (ss : List (Str × Tr)) (c : Option Tr)
  | strike (n : Str) (c : Option Tr)
  | ask (how : Str) (ts : List Tr) (tabs : List Str) (c : Option Tr) (ob : List Tr) (first : Option Int)
  | word (w : Str)
def OiV : Option Int → V
  | none => .non
  | some i => .int i
def SeAt (K : PySem.W.Frag) (H : Hp) (v : V) (q : Str × Tr) : Prop := ∃ p x, v = .ref p ∧ SqT K H p [.str q.1, x] ∧ TrAt K H x q.2
def SesAt (K : PySem.W.Frag) (H : Hp) (p : Addr) (ss : List (Str × Tr)) : Prop := ∃ vs, SqT K H p vs ∧ Paired (SeAt K H) vs ss
def SmAt (K : PySem.W.Frag) (H : Hp) (p : Addr) : Stm → Prop
  | .table n fs => ∃ q, SqT K H p [.str (Str.ofString "table"), .str n, .ref q] ∧ SqT K H q (fs.map V.str)
  | .index n f => SqT K H p [.str (Str.ofString "index"), .str n, .str f]
  | .put n ns => ∃ q, SqT K H p [.str (Str.ofString "put"), .str n, .ref q] ∧ SqT K H q (ns.map V.int)
  | .set n ss c => ∃ q v, SqT K H p [.str (Str.ofString "set"), .str n, .ref q, v] ∧ SesAt K H q ss ∧ OcAt K H v c
  | .strike n c => ∃ v, SqT K H p [.str (Str.ofString "strike"), .str n, v] ∧ OcAt K H v c
  | .ask how ts tabs c ob first => ∃ q r v b, SqT K H p [.str (Str.ofString "ask"), .str how, .ref q, .ref r, v, .ref b, OiV first] ∧ TsAt K H q ts ∧ SqT K H r (tabs.map V.str) ∧ OcAt K H v c ∧ TsAt K H b ob
  | .word x => SqT K H p [.str x]

section
variable {K : PySem.W.Frag} {H H' : Hp}
theorem OcAt.mono (m : ∀ t xs, SqT K H t xs → SqT K H' t xs) {v : V} : ∀ {c : Option Tr}, OcAt K H v c → OcAt K H' v c
  | none, h => h
  | some _, h => TrAt.mono m h
theorem pw_mono {α β : Type} {R S : α → β → Prop} (m : ∀ x y, R x y → S x y) : ∀ {xs : List α} {ys : List β}, Paired R xs ys → Paired S xs ys
  | _, _, .nil => .nil
  | _, _, .cons h r => .cons (m _ _ h) (pw_mono m r)
theorem TsAt.mono (m : ∀ t xs, SqT K H t xs → SqT K H' t xs) {p : Addr} {ts : List Tr} (h : TsAt K H p ts) : TsAt K H' p ts := by
  obtain ⟨vs, a, b⟩ := h
  exact ⟨vs, m _ _ a, pw_mono (fun _ _ z => TrAt.mono m z) b⟩
theorem SesAt.mono (m : ∀ t xs, SqT K H t xs → SqT K H' t xs) {p : Addr} {ss : List (Str × Tr)} (h : SesAt K H p ss) : SesAt K H' p ss := by
  obtain ⟨vs, a, b⟩ := h
  exact ⟨vs, m _ _ a, pw_mono (fun _ _ ⟨p, x, e, z, y⟩ => ⟨p, x, e, m _ _ z, TrAt.mono m y⟩) b⟩
theorem SmAt.mono (m : ∀ t xs, SqT K H t xs → SqT K H' t xs) {p : Addr} {S : Stm} (h : SmAt K H p S) : SmAt K H' p S := by
  cases S with
  | table n fs => obtain ⟨q, a, b⟩ := h; exact ⟨q, m _ _ a, m _ _ b⟩
  | index n f => exact m _ _ h
  | put n ns => obtain ⟨q, a, b⟩ := h; exact ⟨q, m _ _ a, m _ _ b⟩
  | set n ss c => obtain ⟨q, v, a, b, c⟩ := h; exact ⟨q, v, m _ _ a, b.mono m, OcAt.mono m c⟩
  | strike n c => obtain ⟨v, a, b⟩ := h; exact ⟨v, m _ _ a, OcAt.mono m b⟩
  | ask how ts tabs c ob first => obtain ⟨q, r, v, b, a, x, y, z, u⟩ := h; exact ⟨q, r, v, b, m _ _ a, x.mono m, m _ _ y, OcAt.mono m z, u.mono m⟩
  | word x => exact m _ _ h
theorem SmAt.same {p : Addr} {S : Stm} (s : Same H H') (h : SmAt K H p S) : SmAt K H' p S := h.mono fun _ _ z => (KeepN.of s).t z
theorem TrAt.same {v : V} {t : Tr} (s : Same H H') (h : TrAt K H v t) : TrAt K H' v t := TrAt.mono (fun _ _ z => (KeepN.of s).t z) h
theorem TrAt.ref {v : V} {t : Tr} (h : TrAt K H v t) : ∃ p, v = .ref p := by
  cases t with
  | num _ => obtain ⟨p, e, _⟩ := h; exact ⟨p, e⟩
  | field _ _ => obtain ⟨p, e, _⟩ := h; exact ⟨p, e⟩
  | bin _ _ _ => obtain ⟨p, _, _, e, _⟩ := h; exact ⟨p, e⟩
  | not _ => obtain ⟨p, _, e, _⟩ := h; exact ⟨p, e⟩
theorem TrAt.hd {v : V} {t : Tr} (h : TrAt K H v t) : ∃ p xs, v = .ref p ∧ SqT K H p xs ∧ atI xs 0 = some (.str (kind t)) := by
  cases t with
  | num _ => obtain ⟨p, e, a⟩ := h; exact ⟨p, _, e, a, rfl⟩
  | field _ _ => obtain ⟨p, e, a⟩ := h; exact ⟨p, _, e, a, rfl⟩
  | bin _ _ _ => obtain ⟨p, _, _, e, a, _⟩ := h; exact ⟨p, _, e, a, rfl⟩
  | not _ => obtain ⟨p, _, e, a, _⟩ := h; exact ⟨p, _, e, a, rfl⟩
end
/-! ### names filled in, pure -/
abbrev Shp := List (Str × List Str)
/-- fields of a table -/
def flds1 (sh : Shp) (t : Str) : List Str := (sh.lookup t).getD []
def owners (sh : Shp) (ts : List Str) (f : Str) : List Str := ts.filter fun t => decide (f ∈ flds1 sh t)
def fieldF (sh : Shp) (ts : List Str) (t f : Str) : Except Str Tr :=
  if t = Str.ofString "" then (match owners sh ts f with | [o] => .ok (.field o f) | _ => .error f)
  else if t ∈ ts then (if f ∈ flds1 sh t then .ok (.field t f) else .error f) else .error t
def fillT (sh : Shp) (ts : List Str) : Tr → Except Str Tr
  | .num n => .ok (.num n)
  | .field t f => fieldF sh ts t f
  | .bin op l r => (match fillT sh ts l with | .error e => .error e | .ok l' => (match fillT sh ts r with | .error e => .error e | .ok r' => .ok (.bin op l' r')))
  | .not x => (match fillT sh ts x with | .error e => .error e | .ok x' => .ok (.not x'))
/-- the tables that are asked are there -/
def There (sh : Shp) (ts : List Str) : Prop := ∀ t ∈ ts, t ∈ sh.map (·.1)
/-- shapes as laws build them -/
structure ShOk (sh : Shp) : Prop where
  few : sh.length ≤ 10
  fs : ∀ q ∈ sh, q.2.length ≤ 10
end K06

set_option linter.all false
set_option maxHeartbeats 2000000
namespace GS
open PySem L2 HX NdefX SIX
def spBn (K : PySem.W.Frag) (C : Addr) : Sp := fun vs H Q _ => ∃ (a : Addr) (n : Str), vs = [.ref a, .str n] ∧ n.length ≤ 100000 ∧ H a = some (exo a C none) ∧ PySem.W.findIn K (.ref C) "word" = some none ∧ ∀ dx, H dx = none → dx ≠ a → Q .non (upd (upd H dx (exd dx [("word", .str n)])) a (exo a C (some dx)))
section
variable {P : Program} {w : World} {K : PySem.W.Frag} {mg : Str → Option Value} {base : Heap} {C cc cda : Addr}
def nfBn (cc cda : Addr) : NF := ⟨"__init__", "BadName.__init__", defArgs s_BadName___init__, defBody s_BadName___init__, defScope s_BadName___init__, [("__class__", cc)], cda⟩
theorem scBn : NScope ["self", "word", "__class__"] ["self", "word"] ["__class__"] (defScope s_BadName___init__) := nscope_by (by decide +kernel)
theorem ok_bn {f : Addr} {dV kV doc pm ct oc : Value} {an od : Option Addr} {osl : Array (Option Value)} (lk : K.lookup f = some ⟨oc, od, .func (PySem.W.fnX "__init__" "BadName.__init__" (defArgs s_BadName___init__) (defBody s_BadName___init__) (defScope s_BadName___init__) [("__class__", cc)] dV kV doc pm an (.ref cda) ct), osl⟩) (hcd : PySem.W.codeIn K (.ref cda) "BadName.__init__" = true)
    (T : SupT P K C cc cda) (hm : mg "super" = none) (htop : (P.main.scope.names.lookup ("super" : Str)).isSome = false) :
    FnOk P w K mg base CX0 1 f (PySem.W.fnX "__init__" "BadName.__init__" (defArgs s_BadName___init__) (defBody s_BadName___init__) (defScope s_BadName___init__) [("__class__", cc)] dV kV doc pm an (.ref cda) ct) ["self", "word"] (spBn K C) := by
  refine ok_sup (F := nfBn cc cda) (k := 0) (N := ["self", "word", "__class__"]) lk hcd rfl T hm scBn (show List.lookup _ (defScope s_BadName___init__).names = _ by decide +kernel) htop (by rfl) (by rfl) (by rfl) (fun env => by rfl) (fun env => by rfl) (fun env => by rfl) (fun vs H Q E h => ?_) (fun A outer s H vs Q E hr h => ?_)
  · obtain ⟨a, n, rfl, _⟩ := h
    rfl
  · obtain ⟨a, n, rfl, hn, ea, hno, kk⟩ := h
    refine ⟨a, _, rfl, ea, _, _, pa_cons (pe_joined (.cons pe_str (.cons (pe_fmt (pe_var (i := 1) rfl (.inl rfl))) (.cons pe_str .nil)))) pa_nil, pss_one (ps_ost (pe_var (i := 0) rfl (.inl rfl)) (pe_var (i := 1) rfl (.inl rfl))), ?_⟩
    have big : (200000 : Nat) < sizeLine := by decide
    have l1 : (Str.empty ++ Str.ofString "the name ").length = 9 := by decide +kernel
    have l3 : (Str.ofString " can't stand there").length = 18 := by decide +kernel
    have l2 : (Str.empty ++ Str.ofString "the name " ++ n).length ≤ 100009 := by rw [Str.length_append, l1]; omega
    refine ⟨_, rfl, by rw [l1]; omega, _, rfl, .inl ⟨n, rfl, by omega, _, rfl, by omega, _, rfl, by rw [Str.length_append, l3]; omega, by show 1 ≤ 1000; decide, ea, ?_⟩⟩
    exact ⟨_, rfl, _, rfl, a, C, rfl, T.oex, hno, .inl ⟨ea, fun dx h1 h2 => kk dx h1 h2⟩⟩
end
end GS

set_option linter.all false
set_option maxHeartbeats 4000000
namespace GS
open PySem L2 HX
open K06 hiding gn sa1 sif cb1 and2 or2 pw_mono
abbrev Nm (x : Str) : Prop := x.length ≤ 100 ∧ PyData.strOk x = true
/-- what BadName must be -/
structure BnF (P : Program) (w : World) (K : PySem.W.Frag) (mg : Str → Option Value) (base : Heap) (CN fI : Addr) (fd : FuncData) : Prop where
  T : OexC K CN
  iC : PySem.W.findIn K (.ref CN) "__init__" = some (some (.ref fI))
  tI : PySem.W.typeIn K (.ref fI) = some (.type "function")
  G : FnOk P w K mg base CX0 1 fI fd ["self", "word"] (spBn K CN)
  b : KBn K fd ["self", "word"] 1 ["word"] (fun us ws => us ++ ws) (fun us ws => us ++ ws)
  g : mg "BadName" = some (.ref CN)
  np : PySem.W.findIn K (.ref CN) "word" = some none
def NameAt (CN : Addr) (H : Hp) (n : Str) (E : XK) : Prop := ∀ (dx : Addr) (H' : Hp), H dx = none → H' dx = some (.xd [("word", .str n)]) → Same H H' → E (.ref CN) (some dx) H'
theorem NameAt.later {CN : Addr} {H H' : Hp} {n : Str} {E : XK} (s : Same H H') (h : NameAt CN H n E) : NameAt CN H' n E := fun dx H2 a b c => h dx H2 (none_of_same s a) b (s.trans c)
theorem vS {a b : Str} : decide (V.str a = V.str b) = decide (a = b) := decide_eq_decide.mpr ⟨fun z => by cases z; rfl, fun z => by rw [z]⟩
theorem inS (x : Str) (xs : List Str) : inV (.str x) (xs.map V.str) = decide (x ∈ xs) := by
  unfold inV
  induction xs with
  | nil => rfl
  | cons y ys ih =>
    rw [List.map_cons, List.any_cons, ih, show eqV (V.str y) (V.str x) = (y == x) from rfl]
    by_cases e : y = x
    · subst e; simp
    · rw [show (y == x) = false by simpa using e, Bool.false_or]
      exact decide_eq_decide.mpr ⟨fun z => List.mem_cons_of_mem _ z, fun z => (List.mem_cons.mp z).elim (fun q => absurd q.symm e) id⟩
theorem flS (xs : List Str) : (xs.map V.str).all flatV = true := by
  rw [List.all_map]; exact List.all_eq_true.mpr fun _ _ => rfl
section
variable {K : PySem.W.Frag} {H : Hp} {d : Addr} {sh : Shp}
theorem lookup_none_of {β : Type} {t : Str} : ∀ {sh : List (Str × β)}, t ∉ sh.map (·.1) → sh.lookup t = none
  | [], _ => rfl
  | (a, b) :: r, h => by
    rw [List.map_cons, List.mem_cons, not_or] at h
    rw [List.lookup, show ((t == a) : Bool) = false by simpa using h.1]
    exact lookup_none_of h.2
theorem lookup_some_of {β : Type} {t : Str} : ∀ {sh : List (Str × β)}, t ∈ sh.map (·.1) → ∃ x, sh.lookup t = some x
  | [], h => nomatch h
  | (a, b) :: r, h => by
    rw [List.lookup]
    cases e : (t == a) with
    | true => exact ⟨_, rfl⟩
    | false =>
      rw [List.map_cons, List.mem_cons] at h
      exact lookup_some_of (h.resolve_left fun z => by rw [z] at e; simp at e)
/-- shapes[t] -/
theorem sh_get (S : ShapesAt K H d sh) {t : Str} (h : t ∈ sh.map (·.1)) : ∃ q, DGet H d (.str t) (some (.ref q)) ∧ SqT K H q ((flds1 sh t).map V.str) := by
  obtain ⟨kvs, hd, pr⟩ := S
  obtain ⟨fs, ef⟩ := lookup_some_of h
  rcases pr_look t pr with ⟨e1, _⟩ | ⟨x, v, e1, e2, q, rfl, hq⟩
  · rw [e1] at ef; cases ef
  · refine ⟨q, .inl ⟨kvs, .inr t, .inl hd, rfl, e2.symm⟩, ?_⟩
    unfold flds1
    rw [e1]; exact hq
/-- t in shapes -/
theorem sh_in (S : ShapesAt K H d sh) (t : Str) : ∃ o, DGet H d (.str t) o ∧ o.isSome = decide (t ∈ sh.map (·.1)) := by
  by_cases h : t ∈ sh.map (·.1)
  · obtain ⟨q, g, _⟩ := sh_get S h
    exact ⟨_, g, by rw [decide_eq_true h]; rfl⟩
  · obtain ⟨kvs, hd, pr⟩ := S
    rcases pr_look t pr with ⟨e1, e2⟩ | ⟨x, v, e1, _⟩
    · exact ⟨none, .inl ⟨kvs, .inr t, .inl hd, rfl, e2.symm⟩, by rw [decide_eq_false h]; rfl⟩
    · rw [lookup_none_of h] at e1; cases e1
theorem ShapesAt.same {H' : Hp} (s : Same H H') (S : ShapesAt K H d sh) : ShapesAt K H' d sh := S.keep (KeepN.of s)
end
section
variable {P : Program} {w : World} {K : PySem.W.Frag} {mg : Str → Option Value} {base : Heap} {CN fI : Addr} {fdI : FuncData}
/-- raise BadName(word=word) is read -/
theorem name_read {te : TE} {σ : L2.St} {H : Hp} {n : Str} {E : XK} {W : WX} (hi : ∀ Q : VK, Q (.str n) H → te σ H Q) (hn : Nm n) (np : PySem.W.findIn K (.ref CN) "word" = some none) (h : NameAt CN H n E) (hW : ∀ cls d H', E cls d H' → W cls d σ H') :
    SIX.tMkW CN (spBn K CN) (fun us ws => us ++ ws) (tCons te tNil) σ H (fun cls d H' => W cls d σ H') := by
  refine hi _ ⟨by show 1 ≤ 1000; decide, fun a ha => ⟨rfl, a, n, rfl, Nat.le_trans hn.1 (by decide), upd_same, np, fun dx h1 h2 => ⟨rfl, dx, _, upd_same, ?_, ?_, hW _ _ _ (h dx _ ?_ upd_same fun b o e => ?_)⟩⟩⟩
  · rw [upd_ne h2]; exact upd_same
  · rw [upd_ne h2] at h1; exact h1
  · rw [upd_ne h2] at h1; exact h1
  · have h1 : H dx = none := by rw [upd_ne h2] at h1; exact h1
    rw [upd_ne (ne_of_none e h1), del_ne (ne_of_none e ha), upd_ne (ne_of_none e ha), upd_ne (ne_of_none e h1), upd_ne (ne_of_none e ha)]
    exact e
/-- a table that isn't there -/
def spCt (K : PySem.W.Frag) (CN : Addr) : Sp := fun vs H Q E => ∃ (n : Str) (d : Addr) (sh : Shp), vs = [.str n, .ref d] ∧ Nm n ∧ ShapesAt K H d sh ∧ (n ∈ sh.map (·.1) → Q .non H) ∧ (n ∉ sh.map (·.1) → NameAt CN H n E)
theorem scCt : FnScope ["name", "shapes"] ["name", "shapes"] (defScope s_check_there) := ⟨rfl, rfl, rfl, by decide +kernel, rfl, by decide +kernel, by decide +kernel⟩
theorem ok_ct {f : Addr} {fd : FuncData} (F : Fun K "check_there" "check_there" s_check_there f fd) (B : BnF P w K mg base CN fI fdI) : FnOk P w K mg base (L2.CX P w) 3 f fd ["name", "shapes"] (spCt K CN) := by
  refine F.okX scCt (fun vs H Q E h => ?_) (fun cdv A outer s H vs Q E hr h => ?_)
  · obtain ⟨n, d, sh, rfl, _⟩ := h
    rfl
  · obtain ⟨n, d, sh, rfl, hn, S, kg, kb⟩ := h
    have hr1 : Room 2 _ := hr
    refine ⟨_, (pss_one (ps_if (pt_cmp (pc_dnotin (hu_of hr) (pv 0) (pv 1))) (pss_one (ps_raise rfl (takes_of rfl rfl rfl rfl) (SIX.pmk_words B.T B.iC B.tI B.G (hr1.mono (by decide)) B.b pass0 (by rfl) B.g (pk_cons (pv 0) pk_nil)))) pss_nil)), ?_⟩
    obtain ⟨o, g, e⟩ := sh_in S n
    refine ⟨_, rfl, _, rfl, d, o, rfl, g, _, rfl, ?_⟩
    rw [e]
    by_cases c : n ∈ sh.map (·.1)
    · rw [decide_eq_true c]
      exact iteF (kg c)
    · rw [decide_eq_false c]
      exact iteT (name_read (W := fun cls d _ H => E cls d H) (fun Q q => ⟨_, rfl, q⟩) hn B.np (kb c) fun _ _ _ q => q)
/-- what is no field, or the key -/
def spCn (K : PySem.W.Frag) (CN : Addr) : Sp := fun vs H Q E => ∃ (n : Str) (q : Addr) (fs : List Str), vs = [.str n, .ref q] ∧ Nm n ∧ SqT K H q (fs.map V.str) ∧ (n ∈ fs → fs.head? ≠ some n → Q .non H) ∧ (n ∉ fs ∨ fs.head? = some n → NameAt CN H n E)
theorem scCn : FnScope ["field", "fields"] ["field", "fields"] (defScope s_check_no_key) := ⟨rfl, rfl, rfl, by decide +kernel, rfl, by decide +kernel, by decide +kernel⟩
theorem ok_cn {f : Addr} {fd : FuncData} (F : Fun K "check_no_key" "check_no_key" s_check_no_key f fd) (B : BnF P w K mg base CN fI fdI) : FnOk P w K mg base (L2.CX P w) 3 f fd ["field", "fields"] (spCn K CN) := by
  refine F.okX scCn (fun vs H Q E h => ?_) (fun cdv A outer s H vs Q E hr h => ?_)
  · obtain ⟨n, q, fs, rfl, _⟩ := h
    rfl
  · obtain ⟨n, q, fs, rfl, hn, hq, kg, kb⟩ := h
    have hr1 : Room 2 _ := hr
    refine ⟨_, (pss_one (ps_if (PW.pt (pw_or (pt_cmpR (RK.notInQ (K := K)) (pv 0) (pv 1) (by rfl)) (pw_or1 (pt_cmpR op_eq (pv 0) (pe_ix (RK.ixT (K := K)) (pv 1) pe_int (fun _ _ => rfl)) (nomark _))))) (pss_one (ps_raise rfl (takes_of rfl rfl rfl rfl) (SIX.pmk_words B.T B.iC B.tI B.G (hr1.mono (by decide)) B.b pass0 (by rfl) B.g (pk_cons (pv 0) pk_nil)))) pss_nil)), ?_⟩
    have bad : n ∉ fs ∨ fs.head? = some n → SIX.tMkW CN (spBn K CN) (fun us ws => us ++ ws) (tCons (tVar 0) tNil) [some (.str n), some (.ref q)] H (fun cls d H' => E cls d H') := fun z => name_read (W := fun cls d _ H => E cls d H) (fun Q q => ⟨_, rfl, q⟩) hn B.np (kb z) fun _ _ _ q => q
    refine ⟨_, rfl, _, rfl, q, _, rfl, .inr hq, rfl, flS fs, _, rfl, ?_⟩
    rw [if_pos rfl, inS]
    by_cases c : n ∈ fs
    · rw [decide_eq_true c]
      refine iteF ?_
      obtain ⟨f0, fr, rfl⟩ : ∃ f0 fr, fs = f0 :: fr := by cases fs with | nil => cases c | cons a b => exact ⟨a, b, rfl⟩
      refine ⟨_, rfl, _, rfl, q, _, 0, .str f0, rfl, rfl, hq, atI_nat (j := 0) rfl, rfl, _, rfl, ?_⟩
      rw [vS]
      by_cases e : n = f0
      · rw [decide_eq_true e]
        exact iteT (bad (.inr (by rw [e]; rfl)))
      · rw [decide_eq_false e]
        exact iteF (kg c fun z => e (Option.some.inj z).symm)
    · rw [decide_eq_false c]
      exact iteT (bad (.inl c))
end
end GS

set_option linter.all false
set_option maxHeartbeats 4000000
namespace GS
open PySem L2 HX
open K06 hiding gn sa1 sif cb1 and2 or2 pw_mono
abbrev sE : Str := Str.ofString ""
/-- the one table that has a field -/
def oneOf : List Str → Option Str
  | [o] => some o
  | _ => none
theorem fieldF_eq (sh : Shp) (ts : List Str) (f : Str) : fieldF sh ts sE f = match oneOf (owners sh ts f) with | some o => .ok (.field o f) | none => .error f := by
  unfold fieldF oneOf
  rw [if_pos rfl]
  rcases owners sh ts f with _ | ⟨a, _ | ⟨b, c⟩⟩ <;> rfl
theorem oneOf_none : ∀ {xs : List Str}, xs.length ≠ 1 → oneOf xs = none
  | [], _ => rfl
  | [_], h => absurd rfl h
  | _ :: _ :: _, _ => rfl
def TabsOk (sh : Shp) (ts : List Str) : Prop := There sh ts ∧ ts.length ≤ 100
def spOt (K : PySem.W.Frag) (CN : Addr) : Sp := fun vs H Q E => ∃ (f : Str) (d tt : Addr) (sh : Shp) (ts : List Str), vs = [.str f, .ref d, .ref tt] ∧ Nm f ∧ ShapesAt K H d sh ∧ SqT K H tt (ts.map V.str) ∧ TabsOk sh ts ∧
  (∀ o, oneOf (owners sh ts f) = some o → ∀ H', Same H H' → Q (.str o) H') ∧ (oneOf (owners sh ts f) = none → NameAt CN H f E)
theorem at_stD {t : TS} {D : Ends} {σ σ' : L2.St} {H : Hp} (e : σ = σ') (h : t D σ' H) : t D σ H := e ▸ h
/-- what a raising callee hands on -/
theorem passX {P : Program} {w : World} {K : PySem.W.Frag} {mg : Str → Option Value} {base : Heap} {N : List Str} {q : Str} {sc : Scope} {f : Addr} {cd : Value} {A : Around} {outer : List Env} {s : Shared} {H : Hp} {E : XK} :
    Passes (L2.CX P w) (cxOf (L2.CX P w) P w K mg base N q sc f cd A outer s H E) E := passes_call (takes_of rfl rfl rfl rfl) fun _ _ _ _ h => h
section
variable {P : Program} {w : World} {K : PySem.W.Frag} {mg : Str → Option Value} {base : Heap} {CN fI : Addr} {fdI : FuncData}
theorem scOt : FnScope ["field", "shapes", "tables", "owners", "table"] ["field", "shapes", "tables"] (defScope s_only_table) := ⟨rfl, rfl, rfl, by decide +kernel, rfl, by decide +kernel, by decide +kernel⟩
theorem ok_ot {f : Addr} {fd : FuncData} (F : Fun K "only_table" "only_table" s_only_table f fd) (T : GS.Txt mg) (B : BnF P w K mg base CN fI fdI) : FnOk P w K mg base (L2.CX P w) 3 f fd ["field", "shapes", "tables"] (spOt K CN) := by
  refine F.okX scOt (fun vs H Q E h => ?_) (fun cdv A outer s H vs Q E hr h => ?_)
  · obtain ⟨f, d, tt, sh, ts, rfl, _⟩ := h
    rfl
  · obtain ⟨f, d, tt, sh, ts, rfl, hn, S, ht, ⟨tok, few⟩, kg, kb⟩ := h
    have hr1 : Room 2 _ := hr
    refine ⟨_, (pss_cons (ps_setLc (i := 3) (own := [("table", 4)]) rfl scOt.nd rfl rfl (sw_true rfl rfl rfl (by decide +kernel)) (RK.piT (K := K) (pv 2)) (blkOk_by (N := ["field", "shapes", "tables", "owners", "table"]) (sc := defScope s_only_table) (by decide +kernel)) (fun _ _ _ _ _ => (pg_name (i := 4) scOt.nd rfl (Or.inl rfl))) (fun _ _ _ _ _ => (pts_one (pt_cmpR (RK.inQ (K := K)) (pv 0) (pe_dget (hu_of hr) (pv 1) (pv 4) (fun _ _ => rfl)) (by rfl)))) (fun _ _ _ _ _ => (pv 4)))
      (pss_cons (ps_if (pt_cmpR op_ne (pe_callB (RK.lenQ (K := K)) (by rfl) T.len PySem.boot_len (pa_cons (pv 3) pa_nil)) pe_int (nomark _)) (pss_one (ps_raise rfl (takes_of rfl rfl rfl rfl) (SIX.pmk_words B.T B.iC B.tI B.G (hr1.mono (by decide)) B.b pass0 (by rfl) B.g (pk_cons (pv 0) pk_nil)))) pss_nil)
      (pss_one (ps_ret (pe_ix (RK.ixL (K := K)) (pv 3) pe_int (fun _ _ => rfl)))))), ?_⟩
    refine ⟨_, rfl, tt, rfl, ⟨_, ht⟩, fun D hD => ?_⟩
    refine lc_tup (K := K) (a := tt) (xs := ts.map V.str) (fun i H' => Same H H' ∧ H' D = some (.lst ((owners sh (ts.take i) f).map V.str)))
      ⟨same_new hD, upd_same⟩ (fun j H2 _ ⟨s2, _⟩ => (KeepN.of s2).t ht) ?_ ?_
    · rintro i x H' hi ⟨s1, hd⟩
      have li : i < ts.length := by have q := (List.getElem?_eq_some_iff.mp hi).1; rw [List.length_map] at q; exact q
      obtain rfl : x = .str ts[i] := by rw [List.getElem?_map, List.getElem?_eq_getElem li] at hi; exact (Option.some.inj hi).symm
      have tk : owners sh (ts.take (i + 1)) f = owners sh (ts.take i) f ++ (if f ∈ flds1 sh ts[i] then [ts[i]] else []) := by
        have : ts.take (i + 1) = ts.take i ++ [ts[i]] := by rw [List.take_add_one, List.getElem?_eq_getElem li]; rfl
        rw [this]
        unfold owners
        rw [List.filter_append]
        by_cases c : f ∈ flds1 sh ts[i]
        · rw [if_pos c, List.filter_cons_of_pos (by simpa using c)]; rfl
        · rw [if_neg c, List.filter_cons_of_neg (by simpa using c)]; rfl
      obtain ⟨q, g, hq⟩ := sh_get (S.keep (KeepN.of s1)) (tok _ (List.getElem_mem li))
      have fewo : (owners sh (ts.take i) f).length ≤ 100 := Nat.le_trans (List.length_filter_le _ _) (Nat.le_trans (List.length_take_le' ..) few)
      refine ⟨rfl, ?_⟩
      refine ⟨_, rfl, ⟨_, rfl, _, rfl, d, .ref q, rfl, g, q, _, rfl, .inr hq, rfl, flS _, _, rfl, ?_⟩⟩
      rw [if_neg Bool.false_ne_true, inS, tk]
      by_cases c : f ∈ flds1 sh ts[i]
      · rw [decide_eq_true c, if_pos c]
        refine ⟨_, rfl, _, hd, by rw [List.length_map]; exact Nat.lt_of_le_of_lt fewo (by decide), fun b o e => by rw [upd_ne (ne_of_none e hD)]; exact s1 _ _ e, ?_⟩
        rw [upd_same, List.map_append]; rfl
      · rw [decide_eq_false c, if_neg c, List.append_nil]
        exact ⟨s1, hd⟩
    · rintro H' ⟨s1, hd⟩
      rw [List.length_map, List.take_length] at hd
      refine gn ?_
      dsimp only
      refine sif ⟨_, rfl, D, _, rfl, .inl (SqL.of hd), rfl, _, rfl, ?_⟩
      rw [List.length_map]
      rw [show (!decide (V.int ((owners sh ts f).length : Nat) = V.int 1)) = !decide ((owners sh ts f).length = 1) from congrArg _ (decide_eq_decide.mpr ⟨fun z => by injection z with z; omega, fun z => by rw [z]; rfl⟩)]
      by_cases c : (owners sh ts f).length = 1
      · rw [decide_eq_true c]
        refine iteF ?_
        obtain ⟨o, eo⟩ := List.length_eq_one_iff.mp c
        rw [eo] at hd
        dsimp only [tNext]
        exact ⟨_, rfl, D, _, 0, .str o, rfl, rfl, SqL.of hd, atI_nat (j := 0) rfl, kg o (by rw [eo]; rfl) _ s1⟩
      · rw [decide_eq_false c]
        exact iteT (name_read (W := fun cls d _ H => E cls d H) (fun Q q => ⟨_, rfl, q⟩) hn B.np ((kb (oneOf_none c)).later s1) fun _ _ _ q => q)
/-- a field with its table -/
def spFf (K : PySem.W.Frag) (CN : Addr) : Sp := fun vs H Q E => ∃ (v : V) (t f : Str) (d tt : Addr) (sh : Shp) (ts : List Str), vs = [v, .ref d, .ref tt] ∧ TrAt K H v (.field t f) ∧ Nm t ∧ Nm f ∧ ShapesAt K H d sh ∧ SqT K H tt (ts.map V.str) ∧ TabsOk sh ts ∧
  (∀ r, fieldF sh ts t f = .ok r → ∀ v' H', Same H H' → TrAt K H' v' r → Q v' H') ∧ (∀ n, fieldF sh ts t f = .error n → NameAt CN H n E)
theorem scFf : FnScope ["tree", "shapes", "tables", "_", "table", "name"] ["tree", "shapes", "tables"] (defScope s_filled_field) := ⟨rfl, rfl, rfl, by decide +kernel, rfl, by decide +kernel, by decide +kernel⟩
theorem ok_ff {f fo : Addr} {fd fdo : FuncData} (F : Fun K "filled_field" "filled_field" s_filled_field f fd) (B : BnF P w K mg base CN fI fdI) (gO : mg "only_table" = some (.ref fo)) (kO : PySem.W.keepIn K (.ref fo) = true) (bO : Binds K fdo ["field", "shapes", "tables"] []) (GO : FnOk P w K mg base (L2.CX P w) 3 fo fdo ["field", "shapes", "tables"] (spOt K CN)) :
    FnOk P w K mg base (L2.CX P w) 4 f fd ["tree", "shapes", "tables"] (spFf K CN) := by
  refine F.okX scFf (fun vs H Q E h => ?_) (fun cdv A outer s H vs Q E hr h => ?_)
  · obtain ⟨v, t, f, d, tt, sh, ts, rfl, _⟩ := h
    rfl
  · obtain ⟨v, t, f, d, tt, sh, ts, rfl, ⟨p, rfl, hp⟩, nt, nf, S, ht, tok, kg, kb⟩ := h
    have hr1 : Room 3 _ := hr
    refine ⟨_, (pss_cons (ps_asg (pv 0) (RK.pgTup (K := K) (n := 3) rfl (pgs_cons (pg_name (i := 3) scFf.nd rfl (Or.inl rfl)) (pgs_cons (pg_name (i := 4) scFf.nd rfl (Or.inl rfl)) (pgs_cons (pg_name (i := 5) scFf.nd rfl (Or.inl rfl)) pgs_nil)))))
      (pss_cons (ps_if (pt_cmpR op_eq (pv 4) pe_str (nomark _)) (pss_one (ps_ret (pe_tup (pa_cons pe_str (pa_cons (pe_call GO hr1 (by rfl) gO kO bO .nil passX (pa_cons (pv 5) (pa_cons (pv 1) (pa_cons (pv 2) pa_nil)))) (pa_cons (pv 5) pa_nil)))))) pss_nil)
      (pss_cons (ps_if (pt_cmpR (RK.notInQ (K := K)) (pv 4) (pv 2) (by rfl)) (pss_one (ps_raise rfl (takes_of rfl rfl rfl rfl) (SIX.pmk_words B.T B.iC B.tI B.G (hr1.mono (by decide)) B.b pass0 (by rfl) B.g (pk_cons (pv 4) pk_nil)))) pss_nil)
      (pss_cons (ps_if (pt_cmpR (RK.notInQ (K := K)) (pv 5) (pe_dget (hu_of hr) (pv 1) (pv 4) (fun _ _ => rfl)) (by rfl)) (pss_one (ps_raise rfl (takes_of rfl rfl rfl rfl) (SIX.pmk_words B.T B.iC B.tI B.G (hr1.mono (by decide)) B.b pass0 (by rfl) B.g (pk_cons (pv 5) pk_nil)))) pss_nil)
      (pss_one (ps_ret (pv 0))))))), ?_⟩
    refine ⟨_, rfl, p, _, rfl, hp, rfl, _, _, rfl, gn ⟨_, _, rfl, gn ⟨_, _, rfl, gn ⟨rfl, ?_⟩⟩⟩⟩
    refine at_stD (σ' := [some (.ref p), some (.ref d), some (.ref tt), some (.str (Str.ofString "field")), some (.str t), some (.str f)]) rfl ?_
    dsimp only
    refine sif ⟨_, rfl, rfl, _, rfl, ?_⟩
    rw [vS]
    by_cases c : t = sE
    · subst c
      rw [decide_eq_true rfl]
      refine iteT ⟨_, rfl, _, rfl, _, rfl, f, d, tt, sh, ts, rfl, nf, S, ht, tok, fun o eo H' s1 => ?_, fun eo => kb _ (by rw [fieldF_eq, eo])⟩
      refine ⟨_, rfl, by show 3 ≤ sizeLine; decide, fun q hq => ?_⟩
      exact kg (.field o f) (by rw [fieldF_eq, eo]) _ _ (s1.trans (same_new hq)) ⟨q, rfl, SqT.of upd_same⟩
    · rw [decide_eq_false c]
      refine iteF ?_
      dsimp only [tNext]
      have fe : fieldF sh ts t f = if t ∈ ts then (if f ∈ flds1 sh t then .ok (.field t f) else .error f) else .error t := by unfold fieldF; rw [if_neg c]
      refine sif ⟨_, rfl, _, rfl, tt, _, rfl, .inr ht, rfl, flS ts, _, rfl, ?_⟩
      rw [if_pos rfl, inS]
      by_cases c2 : t ∈ ts
      · rw [if_pos c2] at fe
        rw [decide_eq_true c2]
        refine iteF ?_
        dsimp only [tNext]
        obtain ⟨q, g, hq⟩ := sh_get S (tok.1 _ c2)
        refine sif ⟨_, rfl, _, rfl, _, rfl, d, .ref q, rfl, g, q, _, rfl, .inr hq, rfl, flS _, _, rfl, ?_⟩
        rw [if_pos rfl, inS]
        by_cases c3 : f ∈ flds1 sh t
        · rw [if_pos c3] at fe
          rw [decide_eq_true c3]
          exact iteF ⟨_, rfl, kg _ fe _ _ (Same.refl _) ⟨p, rfl, hp⟩⟩
        · rw [if_neg c3] at fe
          rw [decide_eq_false c3]
          exact iteT (name_read (W := fun cls d _ H => E cls d H) (fun Q q => ⟨_, rfl, q⟩) nf B.np (kb _ fe) fun _ _ _ q => q)
      · rw [if_neg c2] at fe
        rw [decide_eq_false c2]
        exact iteT (name_read (W := fun cls d _ H => E cls d H) (fun Q q => ⟨_, rfl, q⟩) nt B.np (kb _ fe) fun _ _ _ q => q)
end
end GS

set_option linter.all false
set_option maxHeartbeats 4000000
namespace GS
open PySem L2 HX
open K06 hiding gn sa1 sif cb1 and2 or2 pw_mono
def Wn : Tr → Prop
  | .num _ => True
  | .field t f => Nm t ∧ Nm f ∧ f ≠ sE
  | .bin op l r => op ∈ joins ∧ Wn l ∧ Wn r
  | .not x => Wn x
theorem inJ {t : Tr} (wr : Wn t) : inV (.str (kind t)) (joins.map V.str) = isBin t := by
  cases t with
  | num _ => show inV (.str (Str.ofString "num")) (joins.map V.str) = false; decide +kernel
  | field _ _ => show inV (.str (Str.ofString "field")) (joins.map V.str) = false; decide +kernel
  | not _ => show inV (.str (Str.ofString "not")) (joins.map V.str) = false; decide +kernel
  | bin op l r =>
    rw [inS]
    exact decide_eq_true wr.1
structure JnF (K : PySem.W.Frag) (mg : Str → Option Value) (fj : Addr) : Prop where
  g : mg "JOINING" = some (.ref fj)
  t : ∀ H : Hp, SqT K H fj (joins.map V.str)
/-- a chain -/
def chain (cur : Tr) (zs : List (Str × Tr)) : Tr := zs.foldl (fun a q => .bin q.1 a q.2) cur
section
variable {sh : Shp} {ts : List Str}
theorem fill_err {e : Str} : ∀ (zs : List (Str × Tr)) {x : Tr}, fillT sh ts x = .error e → fillT sh ts (chain x zs) = .error e
  | [], _, h => h
  | q :: zs, x, h => fill_err zs (x := .bin q.1 x q.2) (by show (match fillT sh ts x with | .error e => _ | .ok l' => _) = _; rw [h])
theorem chain_app (x : Tr) (a b : List (Str × Tr)) : chain x (a ++ b) = chain (chain x a) b := List.foldl_append ..
theorem fill_cut {e : Str} {x : Tr} {zs : List (Str × Tr)} (j : Nat) (h : fillT sh ts (chain x (zs.take j)) = .error e) : fillT sh ts (chain x zs) = .error e := by
  have q := fill_err (zs.drop j) h
  rw [← chain_app, List.take_append_drop] at q
  exact q
end
def spFl (K : PySem.W.Frag) (CN : Addr) (R : Tr → Prop) : Sp := fun vs H Q E => ∃ (v : V) (t : Tr) (d tt : Addr) (sh : Shp) (ts : List Str), vs = [v, .ref d, .ref tt] ∧ TrAt K H v t ∧ Wn t ∧ t.depth ≤ 1000 ∧ R t ∧ ShapesAt K H d sh ∧ SqT K H tt (ts.map V.str) ∧ TabsOk sh ts ∧
  (∀ r, fillT sh ts t = .ok r → ∀ v' H', Same H H' → TrAt K H' v' r → Q v' H') ∧ (∀ n, fillT sh ts t = .error n → NameAt CN H n E)
def DpR (n : Nat) (t : Tr) : Prop := t.depth < n
def StA (n : Nat) (t : Tr) : Prop := isBin t = false ∧ t.depth < n + 1
section
variable {P : Program} {w : World} {K : PySem.W.Frag} {mg : Str → Option Value} {base : Heap} {CN : Addr}
theorem scFs : FnScope ["tree", "shapes", "tables"] ["tree", "shapes", "tables"] (defScope s_filled_start) := ⟨rfl, rfl, rfl, by decide +kernel, rfl, by decide +kernel, by decide +kernel⟩
theorem ok_fs {n j : Nat} {f fF ff : Addr} {fd fdF fdf : FuncData} (F : Fun K "filled_start" "filled_start" s_filled_start f fd) (gF : mg "filled" = some (.ref fF)) (kF : PySem.W.keepIn K (.ref fF) = true) (bF : Binds K fdF ["tree", "shapes", "tables"] []) (GF : FnOk P w K mg base (L2.CX P w) j fF fdF ["tree", "shapes", "tables"] (spFl K CN (DpR n)))
    (gf : mg "filled_field" = some (.ref ff)) (kf : PySem.W.keepIn K (.ref ff) = true) (bf : Binds K fdf ["tree", "shapes", "tables"] []) (Gf : FnOk P w K mg base (L2.CX P w) j ff fdf ["tree", "shapes", "tables"] (spFf K CN)) : FnOk P w K mg base (L2.CX P w) (j + 1) f fd ["tree", "shapes", "tables"] (spFl K CN (StA n)) := by
  refine F.okX scFs (fun vs H Q E h => ?_) (fun cdv A outer s H vs Q E hr h => ?_)
  · obtain ⟨v, t, d, tt, sh, ts, rfl, _⟩ := h
    rfl
  · obtain ⟨v, t, d, tt, sh, ts, rfl, hT, wt, d1000, ⟨nb, dn⟩, S, ht, tok, kg, kb⟩ := h
    have hr1 : Room j _ := hr
    refine ⟨_, (pss_cons (ps_if (pt_cmpR op_eq (pe_ix (RK.ixT (K := K)) (pv 0) pe_int (fun _ _ => rfl)) pe_str (nomark _)) (pss_one (ps_ret (pe_tup (pa_cons pe_str (pa_cons (pe_call GF hr1 (by rfl) gF kF bF .nil passX (pa_cons (pe_ix (RK.ixT (K := K)) (pv 0) pe_int (fun _ _ => rfl)) (pa_cons (pv 1) (pa_cons (pv 2) pa_nil)))) pa_nil))))) pss_nil)
      (pss_cons (ps_if (pt_cmpR op_eq (pe_ix (RK.ixT (K := K)) (pv 0) pe_int (fun _ _ => rfl)) pe_str (nomark _)) (pss_one (ps_ret (pe_call Gf hr1 (by rfl) gf kf bf .nil passX (pa_cons (pv 0) (pa_cons (pv 1) (pa_cons (pv 2) pa_nil)))))) pss_nil)
      (pss_one (ps_ret (pv 0))))), ?_⟩
    have hT' := hT
    obtain ⟨p, xs, rfl, hp, e0⟩ := TrAt.hd hT
    refine sif ⟨_, rfl, p, _, 0, _, rfl, rfl, hp, e0, rfl, _, rfl, ?_⟩
    rw [vS]
    cases t with
    | bin op l r => cases nb
    | num i =>
      rw [show decide (kind (.num i) = Str.ofString "not") = false by show decide (Str.ofString "num" = _) = _; decide +kernel]
      refine iteF ?_
      dsimp only [tNext]
      refine sif ⟨_, rfl, p, _, 0, _, rfl, rfl, hp, e0, rfl, _, rfl, ?_⟩
      rw [vS, show decide (kind (.num i) = Str.ofString "field") = false by show decide (Str.ofString "num" = _) = _; decide +kernel]
      exact iteF ⟨_, rfl, kg _ rfl _ _ (Same.refl _) hT'⟩
    | field t f =>
      rw [show decide (kind (.field t f) = Str.ofString "not") = false by show decide (Str.ofString "field" = _) = _; decide +kernel]
      refine iteF ?_
      dsimp only [tNext]
      refine sif ⟨_, rfl, p, _, 0, _, rfl, rfl, hp, e0, rfl, _, rfl, ?_⟩
      rw [vS, show decide (kind (.field t f) = Str.ofString "field") = true from decide_eq_true rfl]
      exact iteT ⟨_, rfl, _, rfl, _, rfl, _, t, f, d, tt, sh, ts, rfl, hT', wt.1, wt.2.1, S, ht, tok, kg, kb⟩
    | not x =>
      rw [show decide (kind (.not x) = Str.ofString "not") = true from decide_eq_true rfl]
      obtain ⟨p', vx, e, hp', hx⟩ := hT'
      cases e
      have dx : x.depth + 1 ≤ 1000 := d1000
      have dy : x.depth + 1 < n + 1 := dn
      have fe : fillT sh ts (.not x) = match fillT sh ts x with | .error e => .error e | .ok x' => .ok (.not x') := rfl
      refine iteT ⟨_, rfl, _, _, 1, vx, rfl, rfl, hp', atI_nat (j := 1) rfl, _, rfl, _, rfl, vx, x, d, tt, sh, ts, rfl, hx, wt, by omega, Nat.lt_of_succ_lt_succ dy, S, ht, tok, fun r er v' H' s1 h1 => ?_, fun e ee => kb _ (by rw [fe, ee])⟩
      refine ⟨by show 2 ≤ sizeLine; decide, fun q hq => ?_⟩
      exact kg (.not r) (by rw [fe, er]) _ _ (s1.trans (same_new hq)) ⟨q, v', rfl, SqT.of upd_same, TrAt.same (same_new hq) h1⟩
end
end GS

set_option linter.all false
set_option maxHeartbeats 4000000
namespace GS
open PySem L2 HX
open K06 hiding gn sa1 sif cb1 and2 or2 pw_mono
def JAt (K : PySem.W.Frag) (H : Hp) (v : V) (q : Str × Tr) : Prop := ∃ p x y, v = .ref p ∧ SqT K H p [.str q.1, x, y] ∧ TrAt K H y q.2
theorem JAt.mono {K : PySem.W.Frag} {H H' : Hp} {v : V} {q : Str × Tr} (k : KeepN H H') (h : JAt K H v q) : JAt K H' v q := by
  obtain ⟨p, x, y, e, a, b⟩ := h
  exact ⟨p, x, y, e, k.t a, b.keep k⟩
theorem pw_rev {α β : Type} {R : α → β → Prop} : ∀ {xs : List α} {ys : List β}, Paired R xs ys → Paired R xs.reverse ys.reverse
  | _, _, .nil => .nil
  | _, _, .cons h r => by rw [List.reverse_cons, List.reverse_cons]; exact pw_app (pw_rev r) (.cons h .nil)
theorem pw_nth {α β : Type} {R : α → β → Prop} : ∀ {xs : List α} {ys : List β} {i : Nat} {x : α}, Paired R xs ys → xs[i]? = some x → ∃ y, ys[i]? = some y ∧ R x y
  | _, _, 0, _, .cons h _, e => ⟨_, rfl, by cases e; exact h⟩
  | _, _, i + 1, _, .cons _ r, e => pw_nth (i := i) r e
section
variable {P : Program} {w : World} {K : PySem.W.Frag} {mg : Str → Option Value} {base : Heap} {CN fj : Addr}
theorem scFi : FnScope ["tree", "shapes", "tables", "joined", "told", "sign", "_", "right"] ["tree", "shapes", "tables"] (defScope s_filled) := ⟨rfl, rfl, rfl, by decide +kernel, rfl, by decide +kernel, by decide +kernel⟩
theorem ok_fi {n j : Nat} {f fF fs : Addr} {fd fdF fds : FuncData} (F : Fun K "filled" "filled" s_filled f fd) (J : JnF K mg fj) (gF : mg "filled" = some (.ref fF)) (kF : PySem.W.keepIn K (.ref fF) = true) (bF : Binds K fdF ["tree", "shapes", "tables"] []) (GF : FnOk P w K mg base (L2.CX P w) j fF fdF ["tree", "shapes", "tables"] (spFl K CN (DpR n)))
    (gs : mg "filled_start" = some (.ref fs)) (ks : PySem.W.keepIn K (.ref fs) = true) (bs : Binds K fds ["tree", "shapes", "tables"] []) (Gs : FnOk P w K mg base (L2.CX P w) j fs fds ["tree", "shapes", "tables"] (spFl K CN (StA n))) : FnOk P w K mg base (L2.CX P w) (j + 1) f fd ["tree", "shapes", "tables"] (spFl K CN (DpR (n + 1))) := by
  refine F.okX scFi (fun vs H Q E h => ?_) (fun cdv A outer s H vs Q E hr h => ?_)
  · obtain ⟨v, t, d, tt, sh, ts, rfl, _⟩ := h
    rfl
  · obtain ⟨v, t, d, tt, sh, ts, rfl, hT, wt, d1000, dn, S, ht, tok, kg, kb⟩ := h
    have hr1 : Room j _ := hr
    refine ⟨_, (pss_cons (ps_set (i := 3) scFi.nd rfl (Or.inl rfl) (pe_lst pa_nil))
      (pss_cons (ps_while (passes_of rfl) (pt_cmpR (RK.inQ (K := K)) (pe_ix (RK.ixT (K := K)) (pv 0) pe_int (fun _ _ => rfl)) (pe_glob (v := .ref fj) (by rfl) J.g rfl) (by rfl))
        (pss_cons (ps_expr (RK.bm (K := K) PySem.F.plainAttrs_list PySem.F.slot_list_append PySem.F.type_list_append mt_append (pv 3) (pa_cons (pv 0) pa_nil)))
        (pss_one (ps_set (i := 0) scFi.nd rfl (Or.inl rfl) (pe_ix (RK.ixT (K := K)) (pv 0) pe_int (fun _ _ => rfl))))))
      (pss_cons (ps_set (i := 4) scFi.nd rfl (Or.inl rfl) (pe_call Gs hr1 (by rfl) gs ks bs .nil passX (pa_cons (pv 0) (pa_cons (pv 1) (pa_cons (pv 2) pa_nil)))))
      (pss_cons (ps_for (passes_of rfl) rfl (RK.piL (K := K) (pe_revL (pv 3))) (RK.pgTup (K := K) (n := 3) rfl (pgs_cons (pg_name (i := 5) scFi.nd rfl (Or.inl rfl)) (pgs_cons (pg_name (i := 6) scFi.nd rfl (Or.inl rfl)) (pgs_cons (pg_name (i := 7) scFi.nd rfl (Or.inl rfl)) pgs_nil))))
        (pss_one (ps_set (i := 4) scFi.nd rfl (Or.inl rfl) (pe_tup (pa_cons (pv 5) (pa_cons (pv 4) (pa_cons (pe_call GF hr1 (by rfl) gF kF bF .nil passX (pa_cons (pv 7) (pa_cons (pv 1) (pa_cons (pv 2) pa_nil)))) pa_nil)))))))
      (pss_one (ps_ret (pv 4))))))), ?_⟩
    refine sa1 ⟨(by show 0 ≤ sizeLine; decide), fun b hb => gn ?_⟩
    try dsimp only [List.set]
    have sL := same_new (o := .lst []) hb
    refine while_by (fun σ H' => ∃ (cv : V) (cur : Tr) (vs : List V) (ys : List (Str × Tr)), σ = [some cv, some (.ref d), some (.ref tt), some (.ref b), none, none, none, none] ∧ Same H H' ∧ H' b = some (.lst vs) ∧ Paired (JAt K H') vs ys ∧ TrAt K H' cv cur ∧ Wn cur ∧ cur.depth < n + 1 ∧ vs.length + cur.depth ≤ 1000 ∧ (∀ q ∈ ys, Wn q.2 ∧ q.2.depth < n ∧ q.2.depth ≤ 1000) ∧
        t = chain cur ys.reverse)
      (fun σ H' => match H' b with | some (.lst xs) => 100000 - xs.length | _ => 0)
      ⟨v, t, [], [], rfl, sL, upd_same, .nil, TrAt.same sL hT, wt, dn, by show 0 + _ ≤ _; omega, (fun q m => nomatch m), rfl⟩ ?_ ?_
    · rintro σ H' ⟨cv, cur, vs, ys, rfl, s1, hb1, pw, hc, wc, dc, lc, hys, et⟩
      have hc' := hc
      obtain ⟨p, xs, rfl, hp, e0⟩ := TrAt.hd hc
      refine ⟨_, rfl, p, _, 0, _, rfl, rfl, hp, e0, fj, _, rfl, .inr (J.t _), rfl, flS _, _, rfl, ?_⟩
      rw [if_neg Bool.false_ne_true, inJ wc]
      cases ib : isBin cur with
      | false =>
        refine iteF ?_
        dsimp only
        refine sa1 ⟨_, rfl, _, rfl, _, rfl, .ref p, cur, d, tt, sh, ts, rfl, hc, wc, by omega, ⟨ib, dc⟩, S.keep (KeepN.of s1), (KeepN.of s1).t ht, tok, fun r0 er0 v0 H2 s2 h2 => gn ?_, fun e ee => (kb e (by rw [et]; exact fill_err _ ee)).later s1⟩
        try dsimp only
        have s12 := s1.trans s2
        refine ⟨_, rfl, b, _, rfl, SqL.of (s2 _ _ hb1), fun q hq => ⟨q, rfl, ⟨_, SqL.of upd_same⟩, ?_⟩⟩
        have s3 := same_new (o := .lst vs.reverse) hq
        have e3 : (upd H2 q (.lst vs.reverse)) q = some (.lst vs.reverse) := upd_same
        have s13 := s12.trans s3
        have pw3 : Paired (JAt K (upd H2 q (.lst vs.reverse))) vs.reverse ys.reverse := pw_rev (pw_imp (fun _ _ z => z.mono (KeepN.of (s2.trans s3))) pw)
        have h3 : TrAt K (upd H2 q (.lst vs.reverse)) v0 r0 := TrAt.same s3 h2
        generalize upd H2 q (.lst vs.reverse) = H3 at e3 s13 pw3 h3 ⊢
        refine for_list (K := K) (a := q) (xs := vs.reverse) (fun i σ H' => ∃ (w0 : V) (a : Tr) (v5 v6 v7 : Option V), σ = [some (.ref p), some (.ref d), some (.ref tt), some (.ref b), some w0, v5, v6, v7] ∧ Same H3 H' ∧ TrAt K H' w0 a ∧ fillT sh ts (chain cur (ys.reverse.take i)) = .ok a)
          ⟨v0, r0, none, none, none, rfl, Same.refl _, h3, er0⟩ (fun i σ H' _ ⟨_, _, _, _, _, _, sm, _⟩ => SqL.of (sm _ _ e3)) ?_ ?_
        · rintro i y σ H4 hi ⟨w0, a, v5, v6, v7, rfl, s4, ha, ea⟩
          obtain ⟨⟨op, r⟩, ey, p1, x, yy, rfl, hp1, hr1'⟩ := pw_nth pw3 hi
          obtain ⟨wr, dr, dr2⟩ := hys (op, r) (List.mem_reverse.mp (List.mem_of_getElem? ey))
          have tk : ys.reverse.take (i + 1) = ys.reverse.take i ++ [(op, r)] := by rw [List.take_add_one, ey]; rfl
          have fe : fillT sh ts (chain cur (ys.reverse.take (i + 1))) = match fillT sh ts r with | .error e => .error e | .ok r' => .ok (.bin op a r') := by
            rw [tk, chain_app]
            show (match fillT sh ts (chain cur (ys.reverse.take i)) with | .error e => _ | .ok l' => _) = _
            rw [ea] <;> rfl
          have s04 := s13.trans s4
          refine ⟨p1, _, rfl, (KeepN.of s4).t hp1, rfl, _, _, rfl, gn ⟨_, _, rfl, gn ⟨_, _, rfl, gn ⟨rfl, ?_⟩⟩⟩⟩
          refine ⟨_, rfl, _, rfl, _, rfl, _, rfl, _, rfl, yy, r, d, tt, sh, ts, rfl, TrAt.same s4 hr1', wr, dr2, dr, S.keep (KeepN.of s04), (KeepN.of s04).t ht, tok, fun r' er v' H5 s5 h5 => ?_, fun e ee => (kb e (by rw [et]; exact fill_cut (i + 1) (by rw [fe, ee]))).later s04⟩
          refine ⟨by show 3 ≤ sizeLine; decide, fun u hu => gn ?_⟩
          have s6 := same_new (o := .tup [.str op, w0, v']) hu
          exact ⟨.ref u, .bin op a r', _, _, _, rfl, s4.trans (s5.trans s6), ⟨u, w0, v', rfl, SqT.of upd_same, TrAt.same (s5.trans s6) ha, TrAt.same s6 h5⟩, by rw [fe, er]⟩
        · rintro σ H4 ⟨w0, a, v5, v6, v7, rfl, s4, ha, ea⟩
          rw [pw_len pw3, List.take_length] at ea
          exact ⟨_, rfl, kg a (by rw [et]; exact ea) _ _ (s13.trans s4) ha⟩
      | true =>
        refine iteT ?_
        cases cur with
        | num _ => cases ib
        | field _ _ => cases ib
        | not _ => cases ib
        | bin op l r =>
          obtain ⟨_, vl, vr, e, hop, hl, hr'⟩ := hc'
          cases e
          refine ⟨_, rfl, .inl ⟨rfl, _, SqL.of hb1⟩, _, rfl, b, _, _, rfl, rfl, hb1, Nat.lt_of_le_of_lt (show vs.length ≤ 1000 by omega) (by decide), ?_⟩
          have dl : max l.depth r.depth + 1 < n + 1 := dc
          have ll : vs.length + (max l.depth r.depth + 1) ≤ 1000 := lc
          obtain ⟨mo, wl, wr⟩ := wc
          have kn : KeepN H' (upd H' b (.lst (vs ++ [.ref p]))) := KeepN.lst hb1
          refine ⟨_, rfl, p, _, 1, vl, rfl, rfl, kn.t hop, atI_nat (j := 1) rfl, gn ⟨⟨vl, l, vs ++ [.ref p], ys ++ [(op, r)], rfl, fun b' o e => ?_, upd_same, pw_app (pw_imp (fun _ _ z => z.mono kn) pw) (.cons ⟨p, vl, vr, rfl, kn.t hop, hr'.keep kn⟩ .nil), hl.keep kn, wl, by omega, ?_, fun q m => ?_, ?_⟩, ?_⟩⟩
          · rw [upd_ne (ne_of_none e hb)]; exact s1 _ _ e
          · rw [List.length_append]; show _ + 1 + _ ≤ _; omega
          · rcases List.mem_append.mp m with m | m
            · exact hys q m
            · obtain rfl := List.mem_singleton.mp m
              exact ⟨wr, by show r.depth < n; omega, by show r.depth ≤ 1000; omega⟩
          · rw [List.reverse_append, et]; rfl
          · show (match (upd H' b _) b with | some (.lst xs) => 100000 - xs.length | _ => 0) < (match H' b with | some (.lst xs) => 100000 - xs.length | _ => 0)
            rw [upd_same, hb1]
            show 100000 - (vs ++ _).length < 100000 - vs.length
            rw [List.length_append]
            show 100000 - (vs.length + 1) < _
            omega
    · intro σ H' Q Q' m h
      obtain ⟨v0, e0, p, xs, i, v1, e1, e2, sq, a, q, ys, e3, s3, f1, f2, c, e4, rest⟩ := h
      exact ⟨v0, e0, p, xs, i, v1, e1, e2, sq, a, q, ys, e3, s3, f1, f2, c, e4, m _ _ rest⟩
theorem none_leftX {CX : CXT} {f : Addr} {fd : FuncData} {k : Nat} {ps : List Str} {sp : Sp} (no : ∀ vs H Q E, ¬ sp vs H Q E) : FnOk P w K mg base CX k f fd ps sp := ⟨fun vs H Q E h => absurd h (no vs H Q E), fun A outer s H args us vs Q E _ _ _ _ h => absurd h (no vs H Q E)⟩
/-- filled, at any depth -/
theorem all_fi {fF fs ff : Addr} {fdF fds fdf : FuncData} (FF : Fun K "filled" "filled" s_filled fF fdF) (FS : Fun K "filled_start" "filled_start" s_filled_start fs fds) (J : JnF K mg fj) (gF : mg "filled" = some (.ref fF)) (kF : PySem.W.keepIn K (.ref fF) = true) (bF : Binds K fdF ["tree", "shapes", "tables"] [])
    (gs : mg "filled_start" = some (.ref fs)) (ks : PySem.W.keepIn K (.ref fs) = true) (bs : Binds K fds ["tree", "shapes", "tables"] [])
    (gf : mg "filled_field" = some (.ref ff)) (kf : PySem.W.keepIn K (.ref ff) = true) (bf : Binds K fdf ["tree", "shapes", "tables"] []) (Gf : FnOk P w K mg base (L2.CX P w) 4 ff fdf ["tree", "shapes", "tables"] (spFf K CN)) : ∀ n : Nat, FnOk P w K mg base (L2.CX P w) (2 * n + 4) fF fdF ["tree", "shapes", "tables"] (spFl K CN (DpR n))
  | 0 => none_leftX fun vs H Q E ⟨_, _, _, _, _, _, _, _, _, _, d, _⟩ => Nat.not_lt_zero _ d
  | n + 1 => by
    have G0 := all_fi FF FS J gF kF bF gs ks bs gf kf bf Gf n
    exact ok_fi FF J gF kF bF (G0.mono (Nat.le_succ _)) gs ks bs (ok_fs FS gF kF bF G0 gf kf bf (Gf.mono (by omega)))
end
end GS

set_option linter.all false
set_option maxHeartbeats 4000000
namespace TH
open PySem PySem.Spec PyProof.Rows L2
section
variable {X : Cx}
/-- X(), X an own exception class without __init__ -/
theorem pmk_own0 {C : Addr} {bmB : List Value} {B newId initId : String} {x : Str} {p pos : Pos} (F : ExcBaseFacts B newId initId bmB) (q : PySem.W.excIn X.K C bmB newId = true) (gC : X.mg x = some (.ref C)) (kC : PySem.W.keepIn X.K (.ref C) = true) (r : Raises X (.ref C)) (hg : Gl X x)
    (hdb : (x == ("__debug__" : Str)) = false := by decide) : PMk X (.Call (.Name x p) [] [] pos) (fun _ H Q => Q (.ref C) none H) := by
  intro pins s σ H Q I h
  refine wpAny_Call_Name_kw (ld_glob I hg gC ?_ hdb)
  refine PySem.W.callWith_K0 I.kIn kC ?_
  show wpAny _ _ (call (.ref C) []) _ _ _
  obtain ⟨bm, N, nm, qn, bs, hdct, sn, sub, ab, col, dd, k0, k1, k2, k3, k5, mN, hC, hN, hni, T⟩ := exc_obj I.kIn q
  refine wpAny_call_exc_subT F T hC hN hni (fun h' e hm => ?_) (by show 0 ≤ sizeLine; exact Nat.zero_le _)
  exact mk_of I hm r h (I.hok.gone hm.new)
end
end TH
namespace GS
open PySem L2 HX
open K06 hiding gn sa1 sif cb1 and2 or2 pw_mono
theorem pw_monoK {α β : Type} {R S : α → β → Prop} (m : ∀ x y, R x y → S x y) : ∀ {xs : List α} {ys : List β}, Paired R xs ys → Paired S xs ys := fun h => pw_imp m h
/-- an own error's class -/
structure ErrF (K : PySem.W.Frag) (mg : Str → Option Value) (x : Str) (C : Addr) : Prop where
  g : mg x = some (.ref C)
  x : PySem.W.excIn K C [.type "ValueError", .type "Exception", .type "BaseException", .type "object"] "ValueError.__new__" = true
  k : PySem.W.keepIn K (.ref C) = true
  b : PySem.W.subIn K (.ref C) (.type "BaseException") = some true
  t : PySem.W.typeIn K (.ref C) = some (.type "type")
/-- what stands there first that can't: told already, or not there -/
def goA (p : Str → Bool) : List Str → List Str → Option Str
  | _, [] => none
  | seen, n :: r => if p n = true ∨ n ∈ seen then some n else goA p (seen ++ [n]) r
theorem cutTo (xs : List V) (i : Nat) : cutV xs none (some (i : Int)) = xs.take i := by
  unfold cutV
  rw [HT.sIx_none, HT.sIx_nat, List.drop_zero, Nat.sub_zero]
  by_cases h : i ≤ xs.length
  · rw [Nat.min_eq_left h]
  · rw [Nat.min_eq_right (by omega), List.take_length, List.take_of_length_le (by omega)]
theorem sl_to {K : PySem.W.Frag} {H : Hp} {p : Addr} {xs : List V} {i : Nat} {Q : VK} (h : SqT K H p xs) (k : ∀ q H', Same H H' → SqT K H' q (xs.take i) → Q (.ref q) H') : rSlA K (.ref p) none (some (i : Int)) H Q := by
  refine ⟨p, xs, rfl, h, fun ⟨_, e⟩ => ?_, fun _ q hq => ?_⟩
  · rw [HT.sIx_nat] at e
    exact k p H (Same.refl _) (by rw [List.take_of_length_le (by omega)]; exact h)
  · rw [cutTo]
    exact k q _ (same_new hq) (SqT.of upd_same)
def fillO (sh : Shp) (ts : List Str) : Option Tr → Except Str (Option Tr)
  | none => .ok none
  | some t => match fillT sh ts t with | .error e => .error e | .ok r => .ok (some r)
def fillL (sh : Shp) (ts : List Str) : List Tr → Except Str (List Tr)
  | [] => .ok []
  | t :: l => match fillT sh ts t with | .error e => .error e | .ok r => match fillL sh ts l with | .error e => .error e | .ok rs => .ok (r :: rs)
theorem fillL_app {sh : Shp} {ts : List Str} {t : Tr} : ∀ {a : List Tr} {ra : List Tr}, fillL sh ts a = .ok ra → fillL sh ts (a ++ [t]) = match fillT sh ts t with | .error e => .error e | .ok r => .ok (ra ++ [r])
  | [], ra, h => by
    cases h
    show (match fillT sh ts t with | .error e => Except.error e | .ok r => match fillL sh ts [] with | .error e => .error e | .ok rs => .ok (r :: rs)) = _
    cases fillT sh ts t <;> rfl
  | u :: a, ra, h => by
    have h : (match fillT sh ts u with | .error e => Except.error e | .ok r => match fillL sh ts a with | .error e => .error e | .ok rs => .ok (r :: rs)) = .ok ra := h
    show (match fillT sh ts u with | .error e => Except.error e | .ok r => match fillL sh ts (a ++ [t]) with | .error e => .error e | .ok rs => .ok (r :: rs)) = _
    cases e1 : fillT sh ts u with
    | error e => rw [e1] at h; cases h
    | ok r =>
      rw [e1] at h
      have h : (match fillL sh ts a with | .error e => Except.error e | .ok rs => .ok (r :: rs)) = .ok ra := h
      cases e2 : fillL sh ts a with
      | error e => rw [e2] at h; cases h
      | ok rs =>
        rw [e2] at h
        cases h
        show (match fillL sh ts (a ++ [t]) with | .error e => Except.error e | .ok rs => .ok (r :: rs)) = _
        rw [fillL_app e2]
        cases fillT sh ts t <;> rfl
theorem fillL_cut {sh : Shp} {ts : List Str} {e : Str} : ∀ {a b : List Tr}, fillL sh ts a = .error e → fillL sh ts (a ++ b) = .error e
  | [], _, h => nomatch h
  | u :: a, b, h => by
    have h : (match fillT sh ts u with | .error e => Except.error e | .ok r => match fillL sh ts a with | .error e => .error e | .ok rs => .ok (r :: rs)) = .error e := h
    show (match fillT sh ts u with | .error e => Except.error e | .ok r => match fillL sh ts (a ++ b) with | .error e => .error e | .ok rs => .ok (r :: rs)) = _
    cases e1 : fillT sh ts u with
    | error e => rw [e1] at h; exact h
    | ok r =>
      rw [e1] at h
      have h : (match fillL sh ts a with | .error e => Except.error e | .ok rs => .ok (r :: rs)) = .error e := h
      cases e2 : fillL sh ts a with
      | ok rs => rw [e2] at h; cases h
      | error e' => rw [e2] at h; show (match fillL sh ts (a ++ b) with | .error e => Except.error e | .ok rs => .ok (r :: rs)) = _; rw [fillL_cut (b := b) e2]; exact h
def WnO (n : Nat) (c : Option Tr) : Prop := ∀ t, c = some t → Wn t ∧ t.depth ≤ 1000 ∧ t.depth < n
def WnL (n : Nat) (ts : List Tr) : Prop := ts.length ≤ 1000 ∧ ∀ t ∈ ts, Wn t ∧ t.depth ≤ 1000 ∧ t.depth < n
def spFw (K : PySem.W.Frag) (CN : Addr) (n : Nat) : Sp := fun vs H Q E => ∃ (v : V) (c : Option Tr) (d tt : Addr) (sh : Shp) (ts : List Str), vs = [v, .ref d, .ref tt] ∧ OcAt K H v c ∧ WnO n c ∧ ShapesAt K H d sh ∧ SqT K H tt (ts.map V.str) ∧ TabsOk sh ts ∧
  (∀ r, fillO sh ts c = .ok r → ∀ v' H', Same H H' → OcAt K H' v' r → Q v' H') ∧ (∀ n, fillO sh ts c = .error n → NameAt CN H n E)
def spFa (K : PySem.W.Frag) (CN : Addr) (n : Nat) : Sp := fun vs H Q E => ∃ (p : Addr) (us : List Tr) (d tt : Addr) (sh : Shp) (ts : List Str), vs = [.ref p, .ref d, .ref tt] ∧ TsAt K H p us ∧ WnL n us ∧ ShapesAt K H d sh ∧ SqT K H tt (ts.map V.str) ∧ TabsOk sh ts ∧
  (∀ r, fillL sh ts us = .ok r → ∀ p' H', Same H H' → TsAt K H' p' r → Q (.ref p') H') ∧ (∀ n, fillL sh ts us = .error n → NameAt CN H n E)
section
variable {P : Program} {w : World} {K : PySem.W.Frag} {mg : Str → Option Value} {base : Heap} {CN fI : Addr} {fdI : FuncData}
theorem scFw : FnScope ["condition", "shapes", "tables"] ["condition", "shapes", "tables"] (defScope s_filled_where) := ⟨rfl, rfl, rfl, by decide +kernel, rfl, by decide +kernel, by decide +kernel⟩
theorem ok_fw {n j : Nat} {f fF : Addr} {fd fdF : FuncData} (F : Fun K "filled_where" "filled_where" s_filled_where f fd) (gF : mg "filled" = some (.ref fF)) (kF : PySem.W.keepIn K (.ref fF) = true) (bF : Binds K fdF ["tree", "shapes", "tables"] []) (GF : FnOk P w K mg base (L2.CX P w) j fF fdF ["tree", "shapes", "tables"] (spFl K CN (DpR n))) :
    FnOk P w K mg base (L2.CX P w) (j + 1) f fd ["condition", "shapes", "tables"] (spFw K CN n) := by
  refine F.okX scFw (fun vs H Q E h => ?_) (fun cdv A outer s H vs Q E hr h => ?_)
  · obtain ⟨v, c, d, tt, sh, ts, rfl, _⟩ := h
    rfl
  · obtain ⟨v, c, d, tt, sh, ts, rfl, hc, wc, S, ht, tok, kg, kb⟩ := h
    have hr1 : Room j _ := hr
    refine ⟨_, (pss_cons (ps_if (pt_cmpR op_isN (pv 0) pe_non (nomark _)) (pss_one (ps_ret pe_non)) pss_nil)
      (pss_one (ps_ret (pe_call GF hr1 (by rfl) gF kF bF .nil passX (pa_cons (pv 0) (pa_cons (pv 1) (pa_cons (pv 2) pa_nil))))))), ?_⟩
    cases c with
    | none =>
      obtain rfl : v = .non := hc
      refine sif ⟨_, rfl, rfl, _, rfl, iteT ?_⟩
      exact kg none rfl _ _ (Same.refl _) rfl
    | some t =>
      obtain ⟨p, rfl⟩ := TrAt.ref (show TrAt K H v t from hc)
      obtain ⟨w1, w2, w3⟩ := wc t rfl
      refine sif ⟨_, rfl, rfl, _, rfl, iteF ?_⟩
      dsimp only [tNext]
      have fe : fillO sh ts (some t) = match fillT sh ts t with | .error e => .error e | .ok r => .ok (some r) := rfl
      exact ⟨_, rfl, _, rfl, _, rfl, _, t, d, tt, sh, ts, rfl, hc, w1, w2, w3, S, ht, tok, fun r er v' H' s1 h1 => kg (some r) (by rw [fe, er]) _ _ s1 h1, fun e ee => kb e (by rw [fe, ee])⟩
theorem scFa : FnScope ["terms", "shapes", "tables", "term"] ["terms", "shapes", "tables"] (defScope s_filled_all) := ⟨rfl, rfl, rfl, by decide +kernel, rfl, by decide +kernel, by decide +kernel⟩
theorem ok_fa {n j : Nat} {f fF : Addr} {fd fdF : FuncData} (F : Fun K "filled_all" "filled_all" s_filled_all f fd) (T : GS.Txt mg) (gF : mg "filled" = some (.ref fF)) (kF : PySem.W.keepIn K (.ref fF) = true) (bF : Binds K fdF ["tree", "shapes", "tables"] []) (GF : FnOk P w K mg base (L2.CX P w) j fF fdF ["tree", "shapes", "tables"] (spFl K CN (DpR n))) :
    FnOk P w K mg base (L2.CX P w) (j + 1) f fd ["terms", "shapes", "tables"] (spFa K CN n) := by
  refine F.okX scFa (fun vs H Q E h => ?_) (fun cdv A outer s H vs Q E hr h => ?_)
  · obtain ⟨v, c, d, tt, sh, ts, rfl, _⟩ := h
    rfl
  · obtain ⟨p, us, d, tt, sh, ts, rfl, ⟨vs, hp, pw⟩, ⟨few, wl⟩, S, ht, tok, kg, kb⟩ := h
    have hr1 : Room j _ := hr
    refine ⟨_, (pss_one (ps_ret (pe_callTy (RK.tupQ (K := K)) (by rfl) T.tuple (by decide +kernel) (pa_cons (LCX.pe_lcX (E := E) (W0 := fun cls d _ H => E cls d H) (own := [("term", 3)]) (takes_of rfl rfl rfl rfl) (fun _ _ _ _ h => h) rfl rfl rfl scFa.nd (RK.piT (K := K) (pv 0)) (blkOk_by (N := ["terms", "shapes", "tables", "term"]) (sc := defScope s_filled_all) (by decide +kernel)) (fun _ _ _ _ _ _ => (pg_name (i := 3) scFa.nd rfl (Or.inl rfl))) (fun _ _ _ _ _ _ hp => (pe_call GF hr1 (by rfl) gF kF bF .nil hp (pa_cons (pv 3) (pa_cons (pv 1) (pa_cons (pv 2) pa_nil)))))) pa_nil)))), ?_⟩
    refine ⟨_, rfl, p, rfl, ⟨_, hp⟩, fun D hD => ?_⟩
    refine lc_tup (K := K) (a := p) (xs := vs) (fun i H' => Same H H' ∧ ∃ rs ws, fillL sh ts (us.take i) = .ok rs ∧ H' D = some (.lst ws) ∧ Paired (TrAt K H') ws rs ∧ ws.length = i)
      ⟨same_new hD, [], [], rfl, upd_same, .nil, rfl⟩ (fun j H2 _ ⟨s2, _⟩ => (KeepN.of s2).t hp) ?_ ?_
    · rintro i x H' hi ⟨s1, rs, ws, er, hd, pr, lw⟩
      obtain ⟨t, et, hx⟩ := pw_nth pw hi
      obtain ⟨w1, w2, w3⟩ := wl t (List.mem_of_getElem? et)
      have tk : us.take (i + 1) = us.take i ++ [t] := by rw [List.take_add_one, et]; rfl
      have li : i < us.length := (List.getElem?_eq_some_iff.mp et).1
      refine ⟨rfl, _, rfl, _, rfl, _, rfl, x, t, d, tt, sh, ts, rfl, TrAt.same s1 hx, w1, w2, w3, S.keep (KeepN.of s1), (KeepN.of s1).t ht, tok, fun r er' v' H2 s2 h2 => ?_, fun e ee => ?_⟩
      · have hd2 := s2 _ _ hd
        refine ⟨ws, hd2, Nat.lt_of_le_of_lt (show ws.length ≤ 1000 by omega) (by decide), fun b o e => ?_, rs ++ [r], ws ++ [v'], by rw [tk, fillL_app er, er'], upd_same, ?_, by rw [List.length_append, lw]; rfl⟩
        · rw [upd_ne (ne_of_none e hD)]; exact s2 _ _ (s1 _ _ e)
        · exact pw_app (pw_imp (fun _ _ z => (TrAt.same s2 z).keep (KeepN.lst hd2)) pr) (.cons (TrAt.keep (KeepN.lst hd2) h2) .nil)
      · refine (kb e ?_).later s1
        have : us = us.take (i + 1) ++ us.drop (i + 1) := (List.take_append_drop _ _).symm
        rw [this]
        exact fillL_cut (by rw [tk, fillL_app er, ee])
    · rintro H' ⟨s1, rs, ws, er, hd, pr, lw⟩
      rw [pw_len pw, List.take_length] at er
      refine ⟨D, ws, rfl, .inl ⟨SqL.of hd, fun q hq => ?_⟩⟩
      have s2 := same_new (o := .tup ws) hq
      exact kg rs er q _ (s1.trans s2) ⟨ws, SqT.of upd_same, pw_imp (fun _ _ z => TrAt.same s2 z) pr⟩
end
end GS

set_option linter.all false
set_option maxHeartbeats 4000000
namespace GS
open PySem L2 HX
open K06 hiding gn sa1 sif cb1 and2 or2 pw_mono
theorem eqv_pair (a b : Str) (d e : PyData) : PyData.eqv (.tuple [.str a, d]) (.tuple [.str b, e]) = ((a == b) && PyData.eqv d e) := by
  simp [PyData.eqv, PyData.eqvAll]
theorem eqv_str (a b : Str) : PyData.eqv (.str a) (.str b) = (a == b) := by simp [PyData.eqv]

theorem any_fl (tb f : Str) : ∀ ix : List (Str × Str), ((ix.map flD).any fun z => PyData.eqv z (.tuple [.str tb, .str f])) = decide ((tb, f) ∈ ix)
  | [] => by simp
  | q :: r => by
    rw [List.map_cons, List.any_cons, any_fl tb f r]
    have e : PyData.eqv (flD q) (.tuple [.str tb, .str f]) = decide (q = (tb, f)) := by
      obtain ⟨a, b⟩ := q
      show PyData.eqv (.tuple [.str a, .str b]) (.tuple [.str tb, .str f]) = _
      rw [eqv_pair, eqv_str]
      by_cases h1 : a = tb <;> by_cases h2 : b = f <;> simp [h1, h2]
    rw [e]
    by_cases h : q = (tb, f)
    · simp [h]
    · have h' : ¬ (tb, f) = q := fun z => h z.symm
      simp [h, h']

theorem mapAt {xs : List Str} {i : Nat} {y : V} (h : (xs.map V.str)[i]? = some y) : ∃ z, xs[i]? = some z ∧ y = V.str z := by
  rw [List.getElem?_map] at h
  cases e : xs[i]? with
  | none => rw [e] at h; cases h
  | some u => rw [e] at h; exact ⟨u, rfl, (Option.some.inj h).symm⟩
theorem u65 {k : Nat} {A : Around} (r : Room k A) : A.units + 65 < cLine := by have := r.un; omega
abbrev Ok (x : Str) : Prop := PyData.strOk x = true
abbrev absent (sh : Shp) (n : Str) : Bool := !decide (n ∈ sh.map (·.1))
theorem goA_step {p : Str → Bool} {ts : List Str} {i : Nat} {n : Str} (e : ts[i]? = some n) (h : ¬ (p n = true ∨ n ∈ ts.take i)) : goA p (ts.take (i + 1)) (ts.drop (i + 1)) = goA p (ts.take i) (ts.drop i) := by
  obtain ⟨li, e'⟩ := List.getElem?_eq_some_iff.mp e
  rw [List.drop_eq_getElem_cons li, e', List.take_add_one, e]
  show _ = if p n = true ∨ n ∈ ts.take i then some n else goA p (ts.take i ++ [n]) (ts.drop (i + 1))
  rw [if_neg h]; rfl
theorem goA_hit {p : Str → Bool} {ts : List Str} {i : Nat} {n : Str} (e : ts[i]? = some n) (h : p n = true ∨ n ∈ ts.take i) : goA p (ts.take i) (ts.drop i) = some n := by
  obtain ⟨li, e'⟩ := List.getElem?_eq_some_iff.mp e
  rw [List.drop_eq_getElem_cons li, e']
  show (if p n = true ∨ n ∈ ts.take i then some n else _) = _
  rw [if_pos h]
def spCp (K : PySem.W.Frag) (CN CR : Addr) : Sp := fun vs H Q E => ∃ (p d : Addr) (sh : Shp) (n : Str) (ns : List Int), vs = [.ref p, .ref d] ∧ SmAt K H p (.put n ns) ∧ Nm n ∧ ShapesAt K H d sh ∧
  (n ∉ sh.map (·.1) → NameAt CN H n E) ∧ (n ∈ sh.map (·.1) → ns.length ≠ (flds1 sh n).length → E (.ref CR) none H) ∧ (n ∈ sh.map (·.1) → ns.length = (flds1 sh n).length → Q .non H)
def spCb (K : PySem.W.Frag) (CN : Addr) : Sp := fun vs H Q E => ∃ (p d : Addr) (sh : Shp) (n : Str) (fs : List Str), vs = [.ref p, .ref d] ∧ SmAt K H p (.table n fs) ∧ Nm n ∧ (∀ f ∈ fs, Nm f) ∧ fs.length ≤ 1000 ∧ ShapesAt K H d sh ∧
  (n ∈ sh.map (·.1) → NameAt CN H n E) ∧ (n ∉ sh.map (·.1) → ∀ f, goA (fun _ => false) [] fs = some f → NameAt CN H f E) ∧ (n ∉ sh.map (·.1) → goA (fun _ => false) [] fs = none → ∀ H', Same H H' → Q .non H')
def spCk (K : PySem.W.Frag) (CN : Addr) : Sp := fun vs H Q E => ∃ (q d : Addr) (sh : Shp) (ts : List Str), vs = [.ref q, .ref d] ∧ SqT K H q (ts.map V.str) ∧ (∀ f ∈ ts, Nm f) ∧ ts.length ≤ 1000 ∧ ShapesAt K H d sh ∧
  (∀ f, goA (absent sh) [] ts = some f → NameAt CN H f E) ∧ (goA (absent sh) [] ts = none → ∀ H', Same H H' → Q .non H')
/-- the indexes that there are -/
def IxAt (K : PySem.W.Frag) (H : Hp) (p : Addr) (ix : List (Str × Str)) : Prop := ∃ vs, SqT K H p vs ∧ Paired (FlR K H) vs ix ∧ FlOk ix
def noKey (fs : List Str) (f : Str) : Prop := f ∉ fs ∨ fs.head? = some f
instance (fs : List Str) (f : Str) : Decidable (noKey fs f) := by unfold noKey; exact inferInstance
def ixErr (sh : Shp) (ix : List (Str × Str)) (n f : Str) : Option Str := if n ∉ sh.map (·.1) then some n else if noKey (flds1 sh n) f then some f else if (n, f) ∈ ix then some f else none
def spCx (K : PySem.W.Frag) (CN : Addr) : Sp := fun vs H Q E => ∃ (p d q : Addr) (sh : Shp) (n f : Str) (ix : List (Str × Str)), vs = [.ref p, .ref d, .ref q] ∧ SmAt K H p (.index n f) ∧ Nm n ∧ Nm f ∧ Ok n ∧ Ok f ∧ ShapesAt K H d sh ∧ IxAt K H q ix ∧
  (∀ e, ixErr sh ix n f = some e → NameAt CN H e E) ∧ (ixErr sh ix n f = none → ∀ H', Same H H' → Q .non H')
section
variable {P : Program} {w : World} {K : PySem.W.Frag} {mg : Str → Option Value} {base : Heap} {CN CR fI ft : Addr} {fdI fdt : FuncData}
theorem scCp : FnScope ["tree", "shapes", "_", "name", "numbers"] ["tree", "shapes"] (defScope s_check_put) := ⟨rfl, rfl, rfl, by decide +kernel, rfl, by decide +kernel, by decide +kernel⟩
theorem ok_cp {f : Addr} {fd : FuncData} (F : Fun K "check_put" "check_put" s_check_put f fd) (T : GS.Txt mg) (B : ErrF K mg "BadRow" CR) (gt : mg "check_there" = some (.ref ft)) (kt : PySem.W.keepIn K (.ref ft) = true) (bt : Binds K fdt ["name", "shapes"] []) (Gt : FnOk P w K mg base (L2.CX P w) 3 ft fdt ["name", "shapes"] (spCt K CN)) :
    FnOk P w K mg base (L2.CX P w) 4 f fd ["tree", "shapes"] (spCp K CN CR) := by
  refine F.okX scCp (fun vs H Q E h => ?_) (fun cdv A outer s H vs Q E hr h => ?_)
  · obtain ⟨p, d, sh, n, ns, rfl, _⟩ := h
    rfl
  · obtain ⟨p, d, sh, n, ns, rfl, ⟨q, hp, hq⟩, hn, S, k1, k2, k3⟩ := h
    have hr1 : Room 3 _ := hr
    refine ⟨_, (pss_cons (ps_asg (pv 0) (RK.pgTup (K := K) (n := 3) rfl (pgs_cons (pg_name (i := 2) scCp.nd rfl (Or.inl rfl)) (pgs_cons (pg_name (i := 3) scCp.nd rfl (Or.inl rfl)) (pgs_cons (pg_name (i := 4) scCp.nd rfl (Or.inl rfl)) pgs_nil)))))
      (pss_cons (ps_expr (pe_call Gt hr1 (by rfl) gt kt bt .nil passX (pa_cons (pv 3) (pa_cons (pv 1) pa_nil))))
      (pss_one (ps_if (pt_cmpR op_ne (pe_callB (RK.lenQ (K := K)) (by rfl) T.len PySem.boot_len (pa_cons (pv 4) pa_nil)) (pe_callB (RK.lenQ (K := K)) (by rfl) T.len PySem.boot_len (pa_cons (pe_dget (hu_of hr) (pv 1) (pv 3) (fun _ _ => rfl)) pa_nil)) (nomark _)) (pss_one (ps_raise rfl (takes_of rfl rfl rfl rfl) (TH.pmk_own0 PySem.F.excBase_ValueError B.x B.g B.k (raises_own B.b B.t) (by exact rfl)))) pss_nil)))), ?_⟩
    refine ⟨_, rfl, p, _, rfl, hp, rfl, _, _, rfl, gn ⟨_, _, rfl, gn ⟨_, _, rfl, gn ⟨rfl, ?_⟩⟩⟩⟩
    refine at_stD (σ' := [some (.ref p), some (.ref d), some (.str (Str.ofString "put")), some (.str n), some (.ref q)]) rfl ?_
    refine ⟨_, rfl, _, rfl, n, d, sh, rfl, hn, S, fun mn => ?_, k1⟩
    obtain ⟨u, g, hu⟩ := sh_get S mn
    refine ⟨_, rfl, q, _, rfl, .inr hq, _, rfl, _, rfl, d, .ref u, rfl, g, u, _, rfl, .inr hu, rfl, _, rfl, ?_⟩
    rw [show (!decide (V.int ((ns.map V.int).length : Nat) = V.int (((flds1 sh n).map V.str).length : Nat))) = !decide (ns.length = (flds1 sh n).length) by
      rw [List.length_map, List.length_map]
      exact congrArg _ (decide_eq_decide.mpr ⟨fun z => by injection z with z; omega, fun z => by rw [z]⟩)]
    by_cases c : ns.length = (flds1 sh n).length
    · rw [decide_eq_true c]
      exact iteF (k3 mn c)
    · rw [decide_eq_false c]
      exact iteT (k2 mn c)
theorem scCb : FnScope ["tree", "shapes", "_", "name", "fields", "at", "field"] ["tree", "shapes"] (defScope s_check_table) := ⟨rfl, rfl, rfl, by decide +kernel, rfl, by decide +kernel, by decide +kernel⟩
theorem ok_cb {f : Addr} {fd : FuncData} (F : Fun K "check_table" "check_table" s_check_table f fd) (hen : mg "enumerate" = none) (B : BnF P w K mg base CN fI fdI) : FnOk P w K mg base (L2.CX P w) 3 f fd ["tree", "shapes"] (spCb K CN) := by
  refine F.okX scCb (fun vs H Q E h => ?_) (fun cdv A outer s H vs Q E hr h => ?_)
  · obtain ⟨p, d, sh, n, ns, rfl, _⟩ := h
    rfl
  · obtain ⟨p, d, sh, n, fs, rfl, ⟨q, hp, hq⟩, hn, hns, few, S, k1, k2, k3⟩ := h
    have hr1 : Room 2 _ := hr
    refine ⟨_, (pss_cons (ps_asg (pv 0) (RK.pgTup (K := K) (n := 3) rfl (pgs_cons (pg_name (i := 2) scCb.nd rfl (Or.inl rfl)) (pgs_cons (pg_name (i := 3) scCb.nd rfl (Or.inl rfl)) (pgs_cons (pg_name (i := 4) scCb.nd rfl (Or.inl rfl)) pgs_nil)))))
      (pss_cons (ps_if (pt_cmp (pc_din (hu_of hr) (pv 3) (pv 1))) (pss_one (ps_raise rfl (takes_of rfl rfl rfl rfl) (SIX.pmk_words B.T B.iC B.tI B.G (hr1.mono (by decide)) B.b pass0 (by rfl) B.g (pk_cons (pv 3) pk_nil)))) pss_nil)
      (pss_one (ps_for (passes_of rfl) rfl (EN.pi_enumT (K := K) (by rfl) hen (pa_cons (pv 4) pa_nil)) (RK.pgTup (K := K) (n := 2) rfl (pgs_cons (pg_name (i := 5) scCb.nd rfl (Or.inl rfl)) (pgs_cons (pg_name (i := 6) scCb.nd rfl (Or.inl rfl)) pgs_nil)))
        (pss_one (ps_if (pt_cmpR (RK.inQ (K := K)) (pv 6) (pe_slice (RK.slT (K := K)) (pv 4) po_none (po_some (pv 5))) (by rfl)) (pss_one (ps_raise rfl (takes_of rfl rfl rfl rfl) (SIX.pmk_words B.T B.iC B.tI B.G (hr1.mono (by decide)) B.b pass0 (by rfl) B.g (pk_cons (pv 6) pk_nil)))) pss_nil)))))), ?_⟩
    refine ⟨_, rfl, p, _, rfl, hp, rfl, _, _, rfl, gn ⟨_, _, rfl, gn ⟨_, _, rfl, gn ⟨rfl, ?_⟩⟩⟩⟩
    refine at_stD (σ' := [some (.ref p), some (.ref d), some (.str (Str.ofString "table")), some (.str n), some (.ref q), none, none]) rfl ?_
    dsimp only
    obtain ⟨o, g, e⟩ := sh_in S n
    refine sif ⟨_, rfl, _, rfl, d, o, rfl, g, _, rfl, ?_⟩
    rw [e]
    by_cases c : n ∈ sh.map (·.1)
    · rw [decide_eq_true c]
      exact iteT (name_read (W := fun cls d _ H => E cls d H) (fun Q q => ⟨_, rfl, q⟩) hn B.np (k1 c) fun _ _ _ q => q)
    · rw [decide_eq_false c]
      refine iteF ?_
      dsimp only [tNext]
      refine ⟨_, rfl, q, _, rfl, hq, for_it (EN.walk_enumT (K := K) (a := q) (xs := fs.map V.str)) (fun i σ H' => ∃ v5 v6, σ = [some (.ref p), some (.ref d), some (.str (Str.ofString "table")), some (.str n), some (.ref q), v5, v6] ∧ Same H H' ∧ goA (fun _ => false) (fs.take i) (fs.drop i) = goA (fun _ => false) [] fs)
        ⟨none, none, rfl, Same.refl _, rfl⟩ (fun i σ H' _ ⟨_, _, _, sm, _⟩ => (KeepN.of sm).t hq) ?_ ?_⟩
      · rintro i y σ H0 H' hi ⟨v5, v6, rfl, s1, eg⟩ ⟨T, x, z, rfl, nT, rfl, ex, ez⟩
        obtain rfl : V.int (i : Nat) = x := Option.some.inj ex
        obtain ⟨f, ef, rfl⟩ := mapAt ez
        refine ⟨T, _, rfl, SqT.of upd_same, rfl, _, _, rfl, gn ⟨_, _, rfl, gn ⟨rfl, ?_⟩⟩⟩
        have sT := s1.trans (same_new (o := .tup [.int (i : Nat), .str f]) nT)
        generalize upd H0 T (.tup [.int (i : Nat), .str f]) = H2 at sT ⊢
        refine ⟨_, rfl, _, rfl, _, rfl, i, rfl, sl_to ((KeepN.of sT).t hq) fun q2 H3 s3 h3 => ⟨q2, _, rfl, .inr h3, rfl, ?_, _, rfl, ?_⟩⟩
        · rw [← List.map_take]; exact flS _
        · rw [if_neg Bool.false_ne_true, ← List.map_take, inS]
          have s13 := sT.trans s3
          by_cases c2 : f ∈ fs.take i
          · rw [decide_eq_true c2]
            have hit := goA_hit (p := fun _ => false) ef (.inr c2)
            rw [eg] at hit
            exact iteT (name_read (W := fun cls d _ H => E cls d H) (fun Q q => ⟨_, rfl, q⟩) (hns f (List.mem_of_getElem? ef)) B.np ((k2 c f hit).later s13) fun _ _ _ q => q)
          · rw [decide_eq_false c2]
            refine iteF ?_
            exact ⟨_, _, rfl, s13, by rw [goA_step ef (fun z => z.elim (fun z => absurd z Bool.false_ne_true) c2)]; exact eg⟩
      · rintro σ H' ⟨v5, v6, rfl, s1, eg⟩
        rw [List.length_map, List.take_length, List.drop_length] at eg
        exact k3 c eg.symm _ s1
theorem scCk : FnScope ["tables", "shapes", "at", "name"] ["tables", "shapes"] (defScope s_check_asked) := ⟨rfl, rfl, rfl, by decide +kernel, rfl, by decide +kernel, by decide +kernel⟩
theorem ok_ck {f : Addr} {fd : FuncData} (F : Fun K "check_asked" "check_asked" s_check_asked f fd) (hen : mg "enumerate" = none) (B : BnF P w K mg base CN fI fdI) (gt : mg "check_there" = some (.ref ft)) (kt : PySem.W.keepIn K (.ref ft) = true) (bt : Binds K fdt ["name", "shapes"] []) (Gt : FnOk P w K mg base (L2.CX P w) 3 ft fdt ["name", "shapes"] (spCt K CN)) :
    FnOk P w K mg base (L2.CX P w) 4 f fd ["tables", "shapes"] (spCk K CN) := by
  refine F.okX scCk (fun vs H Q E h => ?_) (fun cdv A outer s H vs Q E hr h => ?_)
  · obtain ⟨q, d, sh, ts, rfl, _⟩ := h
    rfl
  · obtain ⟨q, d, sh, ts, rfl, hq, hns, few, S, k2, k3⟩ := h
    have hr1 : Room 3 _ := hr
    refine ⟨_, (pss_one (ps_for (passes_of rfl) rfl (EN.pi_enumT (K := K) (by rfl) hen (pa_cons (pv 0) pa_nil)) (RK.pgTup (K := K) (n := 2) rfl (pgs_cons (pg_name (i := 2) scCk.nd rfl (Or.inl rfl)) (pgs_cons (pg_name (i := 3) scCk.nd rfl (Or.inl rfl)) pgs_nil)))
        (pss_cons (ps_expr (pe_call Gt hr1 (by rfl) gt kt bt .nil passX (pa_cons (pv 3) (pa_cons (pv 1) pa_nil))))
        (pss_one (ps_if (pt_cmpR (RK.inQ (K := K)) (pv 3) (pe_slice (RK.slT (K := K)) (pv 0) po_none (po_some (pv 2))) (by rfl)) (pss_one (ps_raise rfl (takes_of rfl rfl rfl rfl) (SIX.pmk_words B.T B.iC B.tI B.G (hr1.mono (by decide)) B.b pass0 (by rfl) B.g (pk_cons (pv 3) pk_nil)))) pss_nil))))), ?_⟩
    refine ⟨_, rfl, q, _, rfl, hq, for_it (EN.walk_enumT (K := K) (a := q) (xs := ts.map V.str)) (fun i σ H' => ∃ v5 v6, σ = [some (.ref q), some (.ref d), v5, v6] ∧ Same H H' ∧ goA (absent sh) (ts.take i) (ts.drop i) = goA (absent sh) [] ts)
      ⟨none, none, rfl, Same.refl _, rfl⟩ (fun i σ H' _ ⟨_, _, _, sm, _⟩ => (KeepN.of sm).t hq) ?_ ?_⟩
    · rintro i y σ H0 H' hi ⟨v5, v6, rfl, s1, eg⟩ ⟨T, x, z, rfl, nT, rfl, ex, ez⟩
      obtain rfl : V.int (i : Nat) = x := Option.some.inj ex
      obtain ⟨f, ef, rfl⟩ := mapAt ez
      refine ⟨T, _, rfl, SqT.of upd_same, rfl, _, _, rfl, gn ⟨_, _, rfl, gn ⟨rfl, ?_⟩⟩⟩
      have sT := s1.trans (same_new (o := .tup [.int (i : Nat), .str f]) nT)
      generalize upd H0 T (.tup [.int (i : Nat), .str f]) = H2 at sT ⊢
      have nf := hns f (List.mem_of_getElem? ef)
      refine ⟨_, rfl, _, rfl, f, d, sh, rfl, nf, S.keep (KeepN.of sT), fun mf => ?_, fun nm => ?_⟩
      · refine ⟨_, rfl, _, rfl, _, rfl, i, rfl, sl_to ((KeepN.of sT).t hq) fun q2 H3 s3 h3 => ⟨q2, _, rfl, .inr h3, rfl, ?_, _, rfl, ?_⟩⟩
        · rw [← List.map_take]; exact flS _
        · rw [if_neg Bool.false_ne_true, ← List.map_take, inS]
          have s13 := sT.trans s3
          by_cases c2 : f ∈ ts.take i
          · rw [decide_eq_true c2]
            have hit := goA_hit (p := absent sh) ef (.inr c2)
            rw [eg] at hit
            exact iteT (name_read (W := fun cls d _ H => E cls d H) (fun Q q => ⟨_, rfl, q⟩) nf B.np ((k2 f hit).later s13) fun _ _ _ q => q)
          · rw [decide_eq_false c2]
            refine iteF ?_
            have nab : ¬ absent sh f = true := fun z => by unfold absent at z; rw [decide_eq_true mf] at z; cases z
            exact ⟨_, _, rfl, s13, by rw [goA_step ef (fun z => z.elim nab c2)]; exact eg⟩
      · have hit := goA_hit (p := absent sh) ef (.inl (by unfold absent; rw [decide_eq_false nm]; rfl))
        rw [eg] at hit
        exact (k2 f hit).later sT
    · rintro σ H' ⟨v5, v6, rfl, s1, eg⟩
      rw [List.length_map, List.take_length, List.drop_length] at eg
      exact k3 eg.symm _ s1
theorem scCx : FnScope ["tree", "shapes", "indexes", "_", "name", "field"] ["tree", "shapes", "indexes"] (defScope s_check_index) := ⟨rfl, rfl, rfl, by decide +kernel, rfl, by decide +kernel, by decide +kernel⟩
theorem ok_cx {f fk : Addr} {fd fdk : FuncData} (F : Fun K "check_index" "check_index" s_check_index f fd) (B : BnF P w K mg base CN fI fdI) (gt : mg "check_there" = some (.ref ft)) (kt : PySem.W.keepIn K (.ref ft) = true) (bt : Binds K fdt ["name", "shapes"] []) (Gt : FnOk P w K mg base (L2.CX P w) 3 ft fdt ["name", "shapes"] (spCt K CN))
    (gk : mg "check_no_key" = some (.ref fk)) (kk : PySem.W.keepIn K (.ref fk) = true) (bk : Binds K fdk ["field", "fields"] []) (Gk : FnOk P w K mg base (L2.CX P w) 3 fk fdk ["field", "fields"] (spCn K CN)) : FnOk P w K mg base (L2.CX P w) 4 f fd ["tree", "shapes", "indexes"] (spCx K CN) := by
  refine F.okX scCx (fun vs H Q E h => ?_) (fun cdv A outer s H vs Q E hr h => ?_)
  · obtain ⟨p, d, q, sh, n, f, ix, rfl, _⟩ := h
    rfl
  · obtain ⟨p, d, q, sh, n, f, ix, rfl, hp, hn, hf, on, of, S, ⟨vs, hq, pw, fo⟩, k1, k2⟩ := h
    have hr1 : Room 3 _ := hr
    refine ⟨_, (pss_cons (ps_asg (pv 0) (RK.pgTup (K := K) (n := 3) rfl (pgs_cons (pg_name (i := 3) scCx.nd rfl (Or.inl rfl)) (pgs_cons (pg_name (i := 4) scCx.nd rfl (Or.inl rfl)) (pgs_cons (pg_name (i := 5) scCx.nd rfl (Or.inl rfl)) pgs_nil)))))
      (pss_cons (ps_expr (pe_call Gt hr1 (by rfl) gt kt bt .nil passX (pa_cons (pv 4) (pa_cons (pv 1) pa_nil))))
      (pss_cons (ps_expr (pe_call Gk hr1 (by rfl) gk kk bk .nil passX (pa_cons (pv 5) (pa_cons (pe_dget (hu_of hr) (pv 1) (pv 4) (fun _ _ => rfl)) pa_nil))))
      (pss_one (ps_if (pt_cmpR (SX.inDB (K := K) (u65 hr)) (pe_tup (pa_cons (pv 4) (pa_cons (pv 5) pa_nil))) (pv 2) (by rfl)) (pss_one (ps_raise rfl (takes_of rfl rfl rfl rfl) (SIX.pmk_words B.T B.iC B.tI B.G (hr1.mono (by decide)) B.b pass0 (by rfl) B.g (pk_cons (pv 5) pk_nil)))) pss_nil))))), ?_⟩
    have hp : SqT K H p [.str (Str.ofString "index"), .str n, .str f] := hp
    refine ⟨_, rfl, p, _, rfl, hp, rfl, _, _, rfl, gn ⟨_, _, rfl, gn ⟨_, _, rfl, gn ⟨rfl, ?_⟩⟩⟩⟩
    refine at_stD (σ' := [some (.ref p), some (.ref d), some (.ref q), some (.str (Str.ofString "index")), some (.str n), some (.str f)]) rfl ?_
    refine ⟨_, rfl, _, rfl, n, d, sh, rfl, hn, S, fun mn => ?_, fun nm => k1 n (by unfold ixErr; rw [if_pos nm])⟩
    obtain ⟨u, g, hu⟩ := sh_get S mn
    have e1 : ixErr sh ix n f = if noKey (flds1 sh n) f then some f else if (n, f) ∈ ix then some f else none := by unfold ixErr; rw [if_neg (fun z => z mn)]
    refine ⟨_, rfl, _, rfl, _, rfl, d, .ref u, rfl, g, f, u, _, rfl, hf, hu, fun c1 c2 => ?_, fun c => k1 f (by rw [e1, if_pos (show noKey _ _ from c)])⟩
    have e2 : ixErr sh ix n f = if (n, f) ∈ ix then some f else none := by rw [e1, if_neg (show ¬ noKey _ _ from fun z => z.elim (fun z => z c1) c2)]
    refine ⟨_, rfl, _, rfl, by show 2 ≤ sizeLine; decide, fun t ht => ⟨_, rfl, .tuple [.str n, .str f], ix.map flD, ?_⟩⟩
    have s1 := same_new (o := .tup [.str n, .str f]) ht
    have pw1 := fl_mono (fun _ _ z => (KeepN.of s1).t z) pw
    have sh1 : SeqAt.shaped (.tuple [.str n, .str f]) = true := by
      show (PyData.canLay0 (.tuple [.str n, .str f]) && decide (PyData.depth (.tuple [.str n, .str f]) ≤ 64)) = true
      simp [PyData.canLay0, PyData.canLayAll0, PyData.depth, PyData.depthAll, show PyData.strOk n = true from on, show PyData.strOk f = true from of]
    refine ⟨.tup (SqT.of upd_same) (.cons (.str _) (.cons (.str _) .nil)), .inr (.tup ((KeepN.of s1).t hq) (fl_dp pw1)), sh1, fl_shaped fo, _, rfl, ?_⟩
    rw [any_fl]
    by_cases c : (n, f) ∈ ix
    · rw [decide_eq_true c]
      exact iteT (name_read (W := fun cls d _ H => E cls d H) (fun Q q => ⟨_, rfl, q⟩) hf B.np ((k1 f (by rw [e2, if_pos c])).later s1) fun _ _ _ q => q)
    · rw [decide_eq_false c]
      exact iteF (k2 (by rw [e2, if_neg c]) _ s1)
end
end GS

set_option linter.all false
set_option maxHeartbeats 4000000
namespace GS
open PySem L2 HX
open K06 hiding gn sa1 sif cb1 and2 or2 pw_mono
def setF (sh : Shp) (n : Str) : List Str → List (Str × Tr) → Except Str (List (Str × Tr))
  | _, [] => .ok []
  | seen, q :: r => if noKey (flds1 sh n) q.1 ∨ q.1 ∈ seen then .error q.1 else match fillT sh [n] q.2 with | .error e => .error e | .ok t => match setF sh n (seen ++ [q.1]) r with | .error e => .error e | .ok r' => .ok ((q.1, t) :: r')
/-- what has been told ahead of what is still to come -/
def onto (done : List (Str × Tr)) : Except Str (List (Str × Tr)) → Except Str (List (Str × Tr))
  | .error e => .error e
  | .ok r => .ok (done ++ r)
/-- the statement with names filled in; an error's word, or none for a row of another count -/
def chk (sh : Shp) (ix : List (Str × Str)) : Stm → Except (Option Str) Stm
  | .table n fs => if n ∈ sh.map (·.1) then .error (some n) else match goA (fun _ => false) [] fs with | some f => .error (some f) | none => .ok (.table n fs)
  | .index n f => match ixErr sh ix n f with | some e => .error (some e) | none => .ok (.index n f)
  | .put n ns => if n ∉ sh.map (·.1) then .error (some n) else if ns.length ≠ (flds1 sh n).length then .error none else .ok (.put n ns)
  | .set n ss c => if n ∉ sh.map (·.1) then .error (some n) else match setF sh n [] ss with | .error e => .error (some e) | .ok ss' => match fillO sh [n] c with | .error e => .error (some e) | .ok c' => .ok (.set n ss' c')
  | .strike n c => if n ∉ sh.map (·.1) then .error (some n) else match fillO sh [n] c with | .error e => .error (some e) | .ok c' => .ok (.strike n c')
  | .ask how ts tabs c ob first => match goA (absent sh) [] tabs with | some e => .error (some e) | none => match fillL sh tabs ts with | .error e => .error (some e) | .ok ts' => match fillO sh tabs c with | .error e => .error (some e) | .ok c' => match fillL sh tabs ob with | .error e => .error (some e) | .ok ob' => .ok (.ask how ts' tabs c' ob' first)
  | .word w => .ok (.word w)
def words3 : List Str := [Str.ofString "begin", Str.ofString "done", Str.ofString "undo"]
def WnS (N : Nat) : Stm → Prop
  | .table n fs => Nm n ∧ (∀ f ∈ fs, Nm f) ∧ fs.length ≤ 1000
  | .index n f => Nm n ∧ Nm f ∧ Ok n ∧ Ok f
  | .put n _ => Nm n
  | .set n ss c => Nm n ∧ ss.length ≤ 1000 ∧ (∀ q ∈ ss, Nm q.1 ∧ Wn q.2 ∧ q.2.depth ≤ 1000 ∧ q.2.depth < N) ∧ WnO N c
  | .strike n c => Nm n ∧ WnO N c
  | .ask _ ts tabs c ob _ => WnL N ts ∧ (∀ t ∈ tabs, Nm t) ∧ tabs.length ≤ 100 ∧ WnO N c ∧ WnL N ob
  | .word w => w ∈ words3
theorem goA_there {sh : Shp} : ∀ {ts seen : List Str}, goA (absent sh) seen ts = none → There sh ts
  | [], _, _ => fun _ m => nomatch m
  | n :: r, seen, h => by
    have h : (if absent sh n = true ∨ n ∈ seen then some n else goA (absent sh) (seen ++ [n]) r) = none := h
    by_cases c : absent sh n = true ∨ n ∈ seen
    · rw [if_pos c] at h; cases h
    · rw [if_neg c] at h
      intro t m
      rcases List.mem_cons.mp m with rfl | m
      · refine Classical.byContradiction fun z => c (.inl ?_)
        unfold absent
        rw [decide_eq_false z]; rfl
      · exact goA_there h t m
def spCr (K : PySem.W.Frag) (CN : Addr) (N : Nat) : Sp := fun vs H Q E => ∃ (p d : Addr) (sh : Shp) (n : Str) (c : Option Tr), vs = [.ref p, .ref d] ∧ SmAt K H p (.strike n c) ∧ Nm n ∧ WnO N c ∧ ShapesAt K H d sh ∧
  (∀ r, chk sh [] (.strike n c) = .ok r → ∀ p' H', Same H H' → SmAt K H' p' r → Q (.ref p') H') ∧ (∀ e, chk sh [] (.strike n c) = .error (some e) → NameAt CN H e E)
def spCa (K : PySem.W.Frag) (CN : Addr) (N : Nat) : Sp := fun vs H Q E => ∃ (p d : Addr) (sh : Shp) (how : Str) (ts : List Tr) (tabs : List Str) (c : Option Tr) (ob : List Tr) (fi : Option Int), vs = [.ref p, .ref d] ∧ SmAt K H p (.ask how ts tabs c ob fi) ∧ WnS N (.ask how ts tabs c ob fi) ∧ ShapesAt K H d sh ∧
  (∀ r, chk sh [] (.ask how ts tabs c ob fi) = .ok r → ∀ p' H', Same H H' → SmAt K H' p' r → Q (.ref p') H') ∧ (∀ e, chk sh [] (.ask how ts tabs c ob fi) = .error (some e) → NameAt CN H e E)
section
variable {P : Program} {w : World} {K : PySem.W.Frag} {mg : Str → Option Value} {base : Heap} {CN CR fI ft : Addr} {fdI fdt : FuncData}
theorem scCr : FnScope ["tree", "shapes", "_", "name", "condition"] ["tree", "shapes"] (defScope s_checked_strike) := ⟨rfl, rfl, rfl, by decide +kernel, rfl, by decide +kernel, by decide +kernel⟩
theorem ok_cr {N j : Nat} {f fw : Addr} {fd fdw : FuncData} (F : Fun K "checked_strike" "checked_strike" s_checked_strike f fd) (gt : mg "check_there" = some (.ref ft)) (kt : PySem.W.keepIn K (.ref ft) = true) (bt : Binds K fdt ["name", "shapes"] []) (Gt : FnOk P w K mg base (L2.CX P w) j ft fdt ["name", "shapes"] (spCt K CN))
    (gw : mg "filled_where" = some (.ref fw)) (kw : PySem.W.keepIn K (.ref fw) = true) (bw : Binds K fdw ["condition", "shapes", "tables"] []) (Gw : FnOk P w K mg base (L2.CX P w) j fw fdw ["condition", "shapes", "tables"] (spFw K CN N)) : FnOk P w K mg base (L2.CX P w) (j + 1) f fd ["tree", "shapes"] (spCr K CN N) := by
  refine F.okX scCr (fun vs H Q E h => ?_) (fun cdv A outer s H vs Q E hr h => ?_)
  · obtain ⟨p, d, sh, n, c, rfl, _⟩ := h
    rfl
  · obtain ⟨p, d, sh, n, c, rfl, ⟨v, hp, hc⟩, hn, wc, S, kg, kb⟩ := h
    have hr1 : Room j _ := hr
    refine ⟨_, (pss_cons (ps_asg (pv 0) (RK.pgTup (K := K) (n := 3) rfl (pgs_cons (pg_name (i := 2) scCr.nd rfl (Or.inl rfl)) (pgs_cons (pg_name (i := 3) scCr.nd rfl (Or.inl rfl)) (pgs_cons (pg_name (i := 4) scCr.nd rfl (Or.inl rfl)) pgs_nil)))))
      (pss_cons (ps_expr (pe_call Gt hr1 (by rfl) gt kt bt .nil passX (pa_cons (pv 3) (pa_cons (pv 1) pa_nil))))
      (pss_one (ps_ret (pe_tup (pa_cons pe_str (pa_cons (pv 3) (pa_cons (pe_call Gw hr1 (by rfl) gw kw bw .nil passX (pa_cons (pv 4) (pa_cons (pv 1) (pa_cons (pe_tup (pa_cons (pv 3) pa_nil)) pa_nil)))) pa_nil)))))))), ?_⟩
    refine ⟨_, rfl, p, _, rfl, hp, rfl, _, _, rfl, gn ⟨_, _, rfl, gn ⟨_, _, rfl, gn ⟨rfl, ?_⟩⟩⟩⟩
    refine at_stD (σ' := [some (.ref p), some (.ref d), some (.str (Str.ofString "strike")), some (.str n), some v]) rfl ?_
    refine ⟨_, rfl, _, rfl, n, d, sh, rfl, hn, S, fun mn => ?_, fun nm => kb n (by show (if n ∉ sh.map (·.1) then Except.error (some n) else _) = _; rw [if_pos nm])⟩
    have ce : chk sh [] (.strike n c) = match fillO sh [n] c with | .error e => .error (some e) | .ok c' => .ok (.strike n c') := by
      show (if n ∉ sh.map (·.1) then Except.error (some n) else _) = _
      rw [if_neg (fun z => z mn)]
    refine ⟨_, rfl, _, rfl, _, rfl, _, rfl, by show 1 ≤ sizeLine; decide, fun t ht => ⟨v, c, d, t, sh, [n], rfl, ?_⟩⟩
    have s1 := same_new (o := .tup [.str n]) ht
    refine ⟨OcAt.mono (fun _ _ z => (KeepN.of s1).t z) hc, wc, S.keep (KeepN.of s1), SqT.of upd_same, ⟨fun t m => by obtain rfl := List.mem_singleton.mp m; exact mn, by show 1 ≤ 100; decide⟩, fun r er v' H' s2 h2 => ?_, fun e ee => (kb e (by rw [ce, ee])).later s1⟩
    refine ⟨by show 3 ≤ sizeLine; decide, fun q hq => ?_⟩
    have s3 := same_new (o := .tup [.str (Str.ofString "strike"), .str n, v']) hq
    exact kg (.strike n r) (by rw [ce, er]) q _ (s1.trans (s2.trans s3)) ⟨v', SqT.of upd_same, OcAt.mono (fun _ _ z => (KeepN.of s3).t z) h2⟩
theorem scCa : FnScope ["tree", "shapes", "_", "how", "terms", "tables", "condition", "by", "first"] ["tree", "shapes"] (defScope s_checked_ask) := ⟨rfl, rfl, rfl, by decide +kernel, rfl, by decide +kernel, by decide +kernel⟩
theorem ok_ca {N j : Nat} {f fw fa fk : Addr} {fd fdw fda fdk : FuncData} (F : Fun K "checked_ask" "checked_ask" s_checked_ask f fd) (gk : mg "check_asked" = some (.ref fk)) (kk : PySem.W.keepIn K (.ref fk) = true) (bk : Binds K fdk ["tables", "shapes"] []) (Gk : FnOk P w K mg base (L2.CX P w) j fk fdk ["tables", "shapes"] (spCk K CN))
    (gw : mg "filled_where" = some (.ref fw)) (kw : PySem.W.keepIn K (.ref fw) = true) (bw : Binds K fdw ["condition", "shapes", "tables"] []) (Gw : FnOk P w K mg base (L2.CX P w) j fw fdw ["condition", "shapes", "tables"] (spFw K CN N))
    (ga : mg "filled_all" = some (.ref fa)) (ka : PySem.W.keepIn K (.ref fa) = true) (ba : Binds K fda ["terms", "shapes", "tables"] []) (Ga : FnOk P w K mg base (L2.CX P w) j fa fda ["terms", "shapes", "tables"] (spFa K CN N)) : FnOk P w K mg base (L2.CX P w) (j + 1) f fd ["tree", "shapes"] (spCa K CN N) := by
  refine F.okX scCa (fun vs H Q E h => ?_) (fun cdv A outer s H vs Q E hr h => ?_)
  · obtain ⟨p, d, sh, how, ts, tabs, c, ob, fi, rfl, _⟩ := h
    rfl
  · obtain ⟨p, d, sh, how, ts, tabs, c, ob, fi, rfl, ⟨q, r, v, b, hp, hts, htb, hc, hob⟩, ⟨wts, wtb, few, wc, wob⟩, S, kg, kb⟩ := h
    have hr1 : Room j _ := hr
    refine ⟨_, (pss_cons (ps_asg (pv 0) (RK.pgTup (K := K) (n := 7) rfl (pgs_cons (pg_name (i := 2) scCa.nd rfl (Or.inl rfl)) (pgs_cons (pg_name (i := 3) scCa.nd rfl (Or.inl rfl)) (pgs_cons (pg_name (i := 4) scCa.nd rfl (Or.inl rfl)) (pgs_cons (pg_name (i := 5) scCa.nd rfl (Or.inl rfl)) (pgs_cons (pg_name (i := 6) scCa.nd rfl (Or.inl rfl)) (pgs_cons (pg_name (i := 7) scCa.nd rfl (Or.inl rfl)) (pgs_cons (pg_name (i := 8) scCa.nd rfl (Or.inl rfl)) pgs_nil)))))))))
      (pss_cons (ps_expr (pe_call Gk hr1 (by rfl) gk kk bk .nil passX (pa_cons (pv 5) (pa_cons (pv 1) pa_nil))))
      (pss_cons (ps_set (i := 4) scCa.nd rfl (Or.inl rfl) (pe_call Ga hr1 (by rfl) ga ka ba .nil passX (pa_cons (pv 4) (pa_cons (pv 1) (pa_cons (pv 5) pa_nil)))))
      (pss_cons (ps_set (i := 6) scCa.nd rfl (Or.inl rfl) (pe_call Gw hr1 (by rfl) gw kw bw .nil passX (pa_cons (pv 6) (pa_cons (pv 1) (pa_cons (pv 5) pa_nil)))))
      (pss_cons (ps_set (i := 7) scCa.nd rfl (Or.inl rfl) (pe_call Ga hr1 (by rfl) ga ka ba .nil passX (pa_cons (pv 7) (pa_cons (pv 1) (pa_cons (pv 5) pa_nil)))))
      (pss_one (ps_ret (pe_tup (pa_cons pe_str (pa_cons (pv 3) (pa_cons (pv 4) (pa_cons (pv 5) (pa_cons (pv 6) (pa_cons (pv 7) (pa_cons (pv 8) pa_nil))))))))))))))), ?_⟩
    refine ⟨_, rfl, p, _, rfl, hp, rfl, _, _, rfl, gn ⟨_, _, rfl, gn ⟨_, _, rfl, gn ⟨_, _, rfl, gn ⟨_, _, rfl, gn ⟨_, _, rfl, gn ⟨_, _, rfl, gn ⟨rfl, ?_⟩⟩⟩⟩⟩⟩⟩⟩
    refine at_stD (σ' := [some (.ref p), some (.ref d), some (.str (Str.ofString "ask")), some (.str how), some (.ref q), some (.ref r), some v, some (.ref b), some (OiV fi)]) rfl ?_
    have ce : chk sh [] (.ask how ts tabs c ob fi) = match goA (absent sh) [] tabs with | some e => .error (some e) | none => match fillL sh tabs ts with | .error e => .error (some e) | .ok ts' => match fillO sh tabs c with | .error e => .error (some e) | .ok c' => match fillL sh tabs ob with | .error e => .error (some e) | .ok ob' => .ok (.ask how ts' tabs c' ob' fi) := rfl
    refine ⟨_, rfl, _, rfl, r, d, sh, tabs, rfl, htb, wtb, by omega, S, fun e ee => kb e (by rw [ce, ee]), fun e0 H1 s1 => ?_⟩
    rw [e0] at ce
    have tok : TabsOk sh tabs := ⟨goA_there e0, few⟩
    try dsimp only
    refine sa1 ⟨_, rfl, _, rfl, _, rfl, q, ts, d, r, sh, tabs, rfl, hts.mono (fun _ _ z => (KeepN.of s1).t z), wts, S.keep (KeepN.of s1), (KeepN.of s1).t htb, tok, fun ts' e1 q' H2 s2 h2 => gn ?_, fun e ee => (kb e (by rw [ce, ee])).later s1⟩
    rw [e1] at ce
    have s12 := s1.trans s2
    try dsimp only
    refine sa1 ⟨_, rfl, _, rfl, _, rfl, v, c, d, r, sh, tabs, rfl, OcAt.mono (fun _ _ z => (KeepN.of s12).t z) hc, wc, S.keep (KeepN.of s12), (KeepN.of s12).t htb, tok, fun c' e2 v' H3 s3 h3 => gn ?_, fun e ee => (kb e (by rw [ce]; dsimp only; rw [ee])).later s12⟩
    rw [e2] at ce
    have s13 := s12.trans s3
    try dsimp only
    refine sa1 ⟨_, rfl, _, rfl, _, rfl, b, ob, d, r, sh, tabs, rfl, hob.mono (fun _ _ z => (KeepN.of s13).t z), wob, S.keep (KeepN.of s13), (KeepN.of s13).t htb, tok, fun ob' e3 b' H4 s4 h4 => gn ?_, fun e ee => (kb e (by rw [ce]; dsimp only; rw [ee])).later s13⟩
    rw [e3] at ce
    have s14 := s13.trans s4
    try dsimp only
    refine ⟨_, rfl, _, rfl, _, rfl, _, rfl, _, rfl, _, rfl, by show 7 ≤ sizeLine; decide, fun u hu => ?_⟩
    have s5 := same_new (o := .tup [.str (Str.ofString "ask"), .str how, .ref q', .ref r, v', .ref b', OiV fi]) hu
    exact kg _ ce u _ (s14.trans s5) ⟨q', r, v', b', SqT.of upd_same, h2.mono (fun _ _ z => (KeepN.of (s3.trans (s4.trans s5))).t z), (KeepN.of (s14.trans s5)).t htb, OcAt.mono (fun _ _ z => (KeepN.of (s4.trans s5)).t z) h3, h4.mono (fun _ _ z => (KeepN.of s5).t z)⟩
end
end GS

set_option linter.all false
set_option maxHeartbeats 4000000
namespace GS
open PySem L2 HX
open K06 hiding gn sa1 sif cb1 and2 or2 pw_mono
theorem SeAt.mono {K : PySem.W.Frag} {H H' : Hp} (k : KeepN H H') {v : V} {q : Str × Tr} (h : SeAt K H v q) : SeAt K H' v q := by
  obtain ⟨p, x, e, a, b⟩ := h
  exact ⟨p, x, e, k.t a, b.keep k⟩
theorem setF_step {sh : Shp} {n : Str} {ss done : List (Str × Tr)} {i : Nat} {f : Str} {t t' : Tr} {W : Except Str (List (Str × Tr))} (e : ss[i]? = some (f, t)) (h1 : ¬ noKey (flds1 sh n) f) (h2 : f ∉ (ss.take i).map (·.1)) (et : fillT sh [n] t = .ok t')
    (h : W = onto done (setF sh n ((ss.take i).map (·.1)) (ss.drop i))) : W = onto (done ++ [(f, t')]) (setF sh n ((ss.take (i + 1)).map (·.1)) (ss.drop (i + 1))) := by
  obtain ⟨li, e'⟩ := List.getElem?_eq_some_iff.mp e
  rw [List.drop_eq_getElem_cons li, e'] at h
  have h : W = onto done (if noKey (flds1 sh n) f ∨ f ∈ (ss.take i).map (·.1) then .error f else match fillT sh [n] t with | .error e => .error e | .ok t => match setF sh n ((ss.take i).map (·.1) ++ [f]) (ss.drop (i + 1)) with | .error e => .error e | .ok r' => .ok ((f, t) :: r')) := h
  rw [if_neg (fun z => z.elim h1 h2), et] at h
  rw [h, List.take_add_one, e, List.map_append]
  show onto done (match setF sh n ((ss.take i).map (·.1) ++ [f]) (ss.drop (i + 1)) with | .error e => .error e | .ok r' => .ok ((f, t') :: r')) = onto (done ++ [(f, t')]) (setF sh n ((ss.take i).map (·.1) ++ [f]) (ss.drop (i + 1)))
  cases setF sh n ((ss.take i).map (·.1) ++ [f]) (ss.drop (i + 1)) with
  | error e => rfl
  | ok r => show Except.ok (done ++ (f, t') :: r) = Except.ok ((done ++ [(f, t')]) ++ r); rw [List.append_assoc]; rfl
theorem setF_bad {sh : Shp} {n : Str} {ss done : List (Str × Tr)} {i : Nat} {f : Str} {t : Tr} {W : Except Str (List (Str × Tr))} (e : ss[i]? = some (f, t)) (h1 : noKey (flds1 sh n) f ∨ f ∈ (ss.take i).map (·.1))
    (h : W = onto done (setF sh n ((ss.take i).map (·.1)) (ss.drop i))) : W = .error f := by
  obtain ⟨li, e'⟩ := List.getElem?_eq_some_iff.mp e
  rw [List.drop_eq_getElem_cons li, e'] at h
  have h : W = onto done (if noKey (flds1 sh n) f ∨ f ∈ (ss.take i).map (·.1) then .error f else match fillT sh [n] t with | .error e => .error e | .ok t => match setF sh n ((ss.take i).map (·.1) ++ [f]) (ss.drop (i + 1)) with | .error e => .error e | .ok r' => .ok ((f, t) :: r')) := h
  rw [if_pos h1] at h
  exact h
theorem setF_err {sh : Shp} {n : Str} {ss done : List (Str × Tr)} {i : Nat} {f e0 : Str} {t : Tr} {W : Except Str (List (Str × Tr))} (e : ss[i]? = some (f, t)) (h1 : ¬ noKey (flds1 sh n) f) (h2 : f ∉ (ss.take i).map (·.1)) (et : fillT sh [n] t = .error e0)
    (h : W = onto done (setF sh n ((ss.take i).map (·.1)) (ss.drop i))) : W = .error e0 := by
  obtain ⟨li, e'⟩ := List.getElem?_eq_some_iff.mp e
  rw [List.drop_eq_getElem_cons li, e'] at h
  have h : W = onto done (if noKey (flds1 sh n) f ∨ f ∈ (ss.take i).map (·.1) then .error f else match fillT sh [n] t with | .error e => .error e | .ok t => match setF sh n ((ss.take i).map (·.1) ++ [f]) (ss.drop (i + 1)) with | .error e => .error e | .ok r' => .ok ((f, t) :: r')) := h
  rw [if_neg (fun z => z.elim h1 h2), et] at h
  exact h
def spCs (K : PySem.W.Frag) (CN : Addr) (N : Nat) : Sp := fun vs H Q E => ∃ (p d : Addr) (sh : Shp) (n : Str) (ss : List (Str × Tr)) (c : Option Tr), vs = [.ref p, .ref d] ∧ SmAt K H p (.set n ss c) ∧ WnS N (.set n ss c) ∧ ShapesAt K H d sh ∧
  (∀ r, chk sh [] (.set n ss c) = .ok r → ∀ p' H', Same H H' → SmAt K H' p' r → Q (.ref p') H') ∧ (∀ e, chk sh [] (.set n ss c) = .error (some e) → NameAt CN H e E)
section
variable {P : Program} {w : World} {K : PySem.W.Frag} {mg : Str → Option Value} {base : Heap} {CN CR fI ft : Addr} {fdI fdt : FuncData}
theorem scCs : FnScope ["tree", "shapes", "_", "name", "settings", "condition", "told", "names", "field", "term"] ["tree", "shapes"] (defScope s_checked_set) := ⟨rfl, rfl, rfl, by decide +kernel, rfl, by decide +kernel, by decide +kernel⟩
theorem ok_cs {N j : Nat} {f fw fk fF : Addr} {fd fdw fdk fdF : FuncData} (F : Fun K "checked_set" "checked_set" s_checked_set f fd) (T : GS.Txt mg) (B : BnF P w K mg base CN fI fdI) (j2 : 2 ≤ j) (gt : mg "check_there" = some (.ref ft)) (kt : PySem.W.keepIn K (.ref ft) = true) (bt : Binds K fdt ["name", "shapes"] []) (Gt : FnOk P w K mg base (L2.CX P w) j ft fdt ["name", "shapes"] (spCt K CN))
    (gk : mg "check_no_key" = some (.ref fk)) (kk : PySem.W.keepIn K (.ref fk) = true) (bk : Binds K fdk ["field", "fields"] []) (Gk : FnOk P w K mg base (L2.CX P w) j fk fdk ["field", "fields"] (spCn K CN))
    (gF : mg "filled" = some (.ref fF)) (kF : PySem.W.keepIn K (.ref fF) = true) (bF : Binds K fdF ["tree", "shapes", "tables"] []) (GF : FnOk P w K mg base (L2.CX P w) j fF fdF ["tree", "shapes", "tables"] (spFl K CN (DpR N)))
    (gw : mg "filled_where" = some (.ref fw)) (kw : PySem.W.keepIn K (.ref fw) = true) (bw : Binds K fdw ["condition", "shapes", "tables"] []) (Gw : FnOk P w K mg base (L2.CX P w) j fw fdw ["condition", "shapes", "tables"] (spFw K CN N)) : FnOk P w K mg base (L2.CX P w) (j + 1) f fd ["tree", "shapes"] (spCs K CN N) := by
  refine F.okX scCs (fun vs H Q E h => ?_) (fun cdv A outer s H vs Q E hr h => ?_)
  · obtain ⟨p, d, sh, n, ss, c, rfl, _⟩ := h
    rfl
  · obtain ⟨p, d, sh, n, ss, c, rfl, ⟨q, v, hp, ⟨vs, hq, pw⟩, hc⟩, ⟨hn, few, wss, wc⟩, S, kg, kb⟩ := h
    have hr1 : Room j _ := hr
    refine ⟨_, (pss_cons (ps_asg (pv 0) (RK.pgTup (K := K) (n := 4) rfl (pgs_cons (pg_name (i := 2) scCs.nd rfl (Or.inl rfl)) (pgs_cons (pg_name (i := 3) scCs.nd rfl (Or.inl rfl)) (pgs_cons (pg_name (i := 4) scCs.nd rfl (Or.inl rfl)) (pgs_cons (pg_name (i := 5) scCs.nd rfl (Or.inl rfl)) pgs_nil))))))
      (pss_cons (ps_expr (pe_call Gt hr1 (by rfl) gt kt bt .nil passX (pa_cons (pv 3) (pa_cons (pv 1) pa_nil))))
      (pss_cons (ps_set (i := 6) scCs.nd rfl (Or.inl rfl) (pe_lst pa_nil))
      (pss_cons (ps_set (i := 7) scCs.nd rfl (Or.inl rfl) (pe_lst pa_nil))
      (pss_cons (ps_for (passes_of rfl) rfl (RK.piT (K := K) (pv 4)) (RK.pgTup (K := K) (n := 2) rfl (pgs_cons (pg_name (i := 8) scCs.nd rfl (Or.inl rfl)) (pgs_cons (pg_name (i := 9) scCs.nd rfl (Or.inl rfl)) pgs_nil)))
        (pss_cons (ps_expr (pe_call Gk hr1 (by rfl) gk kk bk .nil passX (pa_cons (pv 8) (pa_cons (pe_dget (hu_of hr) (pv 1) (pv 3) (fun _ _ => rfl)) pa_nil))))
        (pss_cons (ps_if (pt_cmpR (RK.inQ (K := K)) (pv 8) (pv 7) (by rfl)) (pss_one (ps_raise rfl (takes_of rfl rfl rfl rfl) (SIX.pmk_words B.T B.iC B.tI B.G (hr1.mono j2) B.b pass0 (by rfl) B.g (pk_cons (pv 8) pk_nil)))) pss_nil)
        (pss_cons (ps_expr (RK.bm (K := K) PySem.F.plainAttrs_list PySem.F.slot_list_append PySem.F.type_list_append mt_append (pv 7) (pa_cons (pv 8) pa_nil)))
        (pss_one (ps_expr (RK.bm (K := K) PySem.F.plainAttrs_list PySem.F.slot_list_append PySem.F.type_list_append mt_append (pv 6) (pa_cons (pe_tup (pa_cons (pv 8) (pa_cons (pe_call GF hr1 (by rfl) gF kF bF .nil passX (pa_cons (pv 9) (pa_cons (pv 1) (pa_cons (pe_tup (pa_cons (pv 3) pa_nil)) pa_nil)))) pa_nil))) pa_nil))))))))
      (pss_one (ps_ret (pe_tup (pa_cons pe_str (pa_cons (pv 3) (pa_cons (pe_callTy (RK.tupQ (K := K)) (by rfl) T.tuple (by decide +kernel) (pa_cons (pv 6) pa_nil)) (pa_cons (pe_call Gw hr1 (by rfl) gw kw bw .nil passX (pa_cons (pv 5) (pa_cons (pv 1) (pa_cons (pe_tup (pa_cons (pv 3) pa_nil)) pa_nil)))) pa_nil)))))))))))), ?_⟩
    refine ⟨_, rfl, p, _, rfl, hp, rfl, _, _, rfl, gn ⟨_, _, rfl, gn ⟨_, _, rfl, gn ⟨_, _, rfl, gn ⟨rfl, ?_⟩⟩⟩⟩⟩
    refine at_stD (σ' := [some (.ref p), some (.ref d), some (.str (Str.ofString "set")), some (.str n), some (.ref q), some v, none, none, none, none]) rfl ?_
    refine ⟨_, rfl, _, rfl, n, d, sh, rfl, hn, S, fun mn => ?_, fun nm => kb n (by show (if n ∉ sh.map (·.1) then Except.error (some n) else _) = _; rw [if_pos nm])⟩
    have ce : chk sh [] (.set n ss c) = match setF sh n [] ss with | .error e => .error (some e) | .ok ss' => match fillO sh [n] c with | .error e => .error (some e) | .ok c' => .ok (.set n ss' c') := by
      show (if n ∉ sh.map (·.1) then Except.error (some n) else _) = _
      rw [if_neg (fun z => z mn)] <;> rfl
    try dsimp only
    refine sa1 ⟨(by show 0 ≤ sizeLine; decide), fun b hb => gn ?_⟩
    try dsimp only
    refine sa1 ⟨(by show 0 ≤ sizeLine; decide), fun b2 hb2 => gn ?_⟩
    try dsimp only
    have sb := same_new (o := .lst []) hb
    have sb2 := same_new (o := .lst []) hb2
    have nb : b ≠ b2 := fun e => by subst e; rw [upd_same] at hb2; cases hb2
    have hb20 : H b2 = none := none_of_same sb hb2
    have tn : ∀ {H' : Hp}, Same H H' → ∀ {t : Addr}, H' t = none → TabsOk sh [n] ∧ SqT K (upd H' t (.tup [.str n])) t ([n].map V.str) := fun s t ht => ⟨⟨fun t m => by obtain rfl := List.mem_singleton.mp m; exact mn, by show 1 ≤ 100; decide⟩, SqT.of upd_same⟩
    refine ⟨_, rfl, q, rfl, ⟨_, (KeepN.of (sb.trans sb2)).t hq⟩, for_tup (K := K) (a := q) (xs := vs) (fun i σ H' => ∃ v8 v9 ws done, σ = [some (.ref p), some (.ref d), some (.str (Str.ofString "set")), some (.str n), some (.ref q), some v, some (.ref b), some (.ref b2), v8, v9] ∧ Same H H' ∧ H' b = some (.lst ws) ∧ H' b2 = some (.lst (((ss.take i).map (·.1)).map V.str)) ∧ Paired (SeAt K H') ws done ∧ ws.length = i ∧
        setF sh n [] ss = onto done (setF sh n ((ss.take i).map (·.1)) (ss.drop i)))
      ⟨none, none, [], [], rfl, sb.trans sb2, by rw [upd_ne nb]; exact upd_same, upd_same, .nil, rfl, ?_⟩ (fun i σ H' _ ⟨_, _, _, _, _, sm, _⟩ => (KeepN.of sm).t hq) ?_ ?_⟩
    · show _ = onto [] (setF sh n [] ss)
      cases setF sh n [] ss <;> rfl
    · rintro i y σ H1 hi ⟨v8, v9, ws, done, rfl, s1, e1, e2, pd, lw, eg⟩
      obtain ⟨⟨f, t⟩, ef, p1, x, rfl, hp1, hx⟩ := pw_nth pw hi
      obtain ⟨nf, wt, d1000, dn⟩ := wss (f, t) (List.mem_of_getElem? ef)
      have li : i < ss.length := (List.getElem?_eq_some_iff.mp ef).1
      have tk : ((ss.take (i + 1)).map (·.1)) = (ss.take i).map (·.1) ++ [f] := by rw [List.take_add_one, ef, List.map_append]; rfl
      refine ⟨p1, _, rfl, (KeepN.of s1).t hp1, rfl, _, _, rfl, gn ⟨_, _, rfl, gn ⟨rfl, ?_⟩⟩⟩
      obtain ⟨u, g, hu⟩ := sh_get (S.keep (KeepN.of s1)) mn
      refine ⟨_, rfl, _, rfl, _, rfl, d, .ref u, rfl, g, f, u, _, rfl, nf, hu, fun c1 c2 => ?_, fun bad => (kb f (by rw [ce, setF_bad ef (.inl bad) eg])).later s1⟩
      have nk : ¬ noKey (flds1 sh n) f := fun z => z.elim (fun z => z c1) c2
      try dsimp only
      refine sif ⟨_, rfl, _, rfl, b2, _, rfl, .inl (SqL.of e2), rfl, flS _, _, rfl, ?_⟩
      rw [if_neg Bool.false_ne_true, inS]
      by_cases c3 : f ∈ (ss.take i).map (·.1)
      · rw [decide_eq_true c3]
        exact iteT (name_read (W := fun cls d _ H => E cls d H) (fun Q q => ⟨_, rfl, q⟩) nf B.np ((kb f (by rw [ce, setF_bad ef (.inr c3) eg])).later s1) fun _ _ _ q => q)
      · rw [decide_eq_false c3]
        refine iteF ?_
        dsimp only [tNext]
        have fewn : (((ss.take i).map (·.1)).map V.str).length < sizeLine := by rw [List.length_map, List.length_map, List.length_take]; exact Nat.lt_of_le_of_lt (show min i ss.length ≤ 1000 by omega) (by decide)
        refine ⟨_, rfl, .inl ⟨rfl, _, SqL.of e2⟩, _, rfl, b2, _, _, rfl, rfl, e2, fewn, ?_⟩
        have k2 : KeepN H1 (upd H1 b2 (.lst (((ss.take i).map (·.1)).map V.str ++ [.str f]))) := KeepN.lst e2
        have s2 : Same H (upd H1 b2 (.lst (((ss.take i).map (·.1)).map V.str ++ [.str f]))) := fun a o e => by rw [upd_ne (ne_of_none e hb20)]; exact s1 _ _ e
        have e21 : (upd H1 b2 (.lst (((ss.take i).map (·.1)).map V.str ++ [.str f]))) b = some (.lst ws) := by rw [upd_ne nb]; exact e1
        have e22 : (upd H1 b2 (.lst (((ss.take i).map (·.1)).map V.str ++ [.str f]))) b2 = some (.lst (((ss.take (i + 1)).map (·.1)).map V.str)) := by rw [upd_same, tk, List.map_append]; rfl
        generalize upd H1 b2 (.lst (((ss.take i).map (·.1)).map V.str ++ [.str f])) = H2 at k2 s2 e21 e22 ⊢
        refine ⟨_, rfl, .inl ⟨rfl, _, SqL.of e21⟩, _, rfl, _, rfl, _, rfl, _, rfl, by show 1 ≤ sizeLine; decide, fun t1 ht1 => ?_⟩
        have s3 := same_new (o := .tup [.str n]) ht1
        obtain ⟨tok, htt⟩ := tn s2 ht1
        refine ⟨x, t, d, t1, sh, [n], rfl, ((TrAt.same s1 hx).keep k2).keep (KeepN.of s3), wt, d1000, dn, S.keep (KeepN.of (s2.trans s3)), htt, tok, fun t' et v' H3 s4 h4 => ?_, fun e ee => (kb e (by rw [ce, setF_err ef nk c3 ee eg])).later (s2.trans s3)⟩
        have s34 := s3.trans s4
        refine ⟨by show 2 ≤ sizeLine; decide, fun u2 hu2 => ?_⟩
        have s5 := same_new (o := .tup [.str f, v']) hu2
        have s35 := s34.trans s5
        have hb5 := s35 _ _ e21
        refine ⟨b, _, _, rfl, rfl, hb5, Nat.lt_of_le_of_lt (show ws.length ≤ 1000 by omega) (by decide), ?_⟩
        have kb5 := KeepN.lst (H := upd H3 u2 (.tup [.str f, v'])) (xs := ws) (ys := ws ++ [V.ref u2]) hb5
        refine ⟨_, _, ws ++ [.ref u2], done ++ [(f, t')], rfl, fun a o e => ?_, upd_same, ?_, ?_, by rw [List.length_append, lw]; rfl, setF_step ef nk c3 et eg⟩
        · rw [upd_ne (ne_of_none e hb)]; exact s35 _ _ (s2 _ _ e)
        · rw [upd_ne nb.symm]; exact s35 _ _ e22
        · exact pw_app (pw_imp (fun _ _ z => SeAt.mono kb5 (SeAt.mono (KeepN.of s35) (SeAt.mono k2 z))) pd) (.cons ⟨u2, v', rfl, kb5.t (SqT.of upd_same), (TrAt.same s5 h4).keep kb5⟩ .nil)
    · rintro σ H1 ⟨v8, v9, ws, done, rfl, s1, e1, e2, pd, lw, eg⟩
      rw [pw_len pw, List.take_length, List.drop_length] at eg
      have eg : setF sh n [] ss = .ok done := by rw [eg]; show Except.ok (done ++ []) = _; rw [List.append_nil]
      rw [eg] at ce
      refine ⟨_, rfl, _, rfl, b, _, rfl, .inl ⟨SqL.of e1, fun q2 hq2 => ?_⟩⟩
      have s2 := same_new (o := .tup ws) hq2
      have s12 := s1.trans s2
      have ht2 : SqT K (upd H1 q2 (.tup ws)) q2 ws := SqT.of upd_same
      have pd2 := pw_imp (fun _ _ z => SeAt.mono (KeepN.of s2) z) pd
      refine ⟨_, rfl, _, rfl, _, rfl, by show 1 ≤ sizeLine; decide, fun t1 ht1 => ?_⟩
      have s3 := same_new (o := .tup [.str n]) ht1
      obtain ⟨tok, htt⟩ := tn s12 ht1
      have s13 := s12.trans s3
      refine ⟨v, c, d, t1, sh, [n], rfl, OcAt.mono (fun _ _ z => (KeepN.of s13).t z) hc, wc, S.keep (KeepN.of s13), htt, tok, fun c' ec v' H3 s4 h4 => ?_, fun e ee => (kb e (by rw [ce]; dsimp only; rw [ee])).later s13⟩
      refine ⟨by show 4 ≤ sizeLine; decide, fun u hu => ?_⟩
      have s5 := same_new (o := .tup [.str (Str.ofString "set"), .str n, .ref q2, v']) hu
      have s35 := s3.trans (s4.trans s5)
      exact kg (.set n done c') (by rw [ce]; dsimp only; rw [ec]) u _ (s12.trans s35) ⟨q2, v', SqT.of upd_same, ⟨ws, (KeepN.of s35).t ht2, pw_imp (fun _ _ z => SeAt.mono (KeepN.of s35) z) pd2⟩, OcAt.mono (fun _ _ z => (KeepN.of s5).t z) h4⟩
end
end GS

set_option linter.all false
set_option maxHeartbeats 4000000
namespace GS
open PySem L2 HX
open K06 hiding gn sa1 sif cb1 and2 or2 pw_mono
def kindS : Stm → Str
  | .table _ _ => Str.ofString "table"
  | .index _ _ => Str.ofString "index"
  | .put _ _ => Str.ofString "put"
  | .set _ _ _ => Str.ofString "set"
  | .strike _ _ => Str.ofString "strike"
  | .ask _ _ _ _ _ _ => Str.ofString "ask"
  | .word w => w
theorem cmpF {i : Nat} {x c : Str} {t e : TS} {D : Ends} {σ : L2.St} {H : Hp} (h : σ[i]? = some (some (.str x))) (ne : decide (x = c) = false) (k : e D σ H) : tIfS (tTest (tOp rEq (tVar i) (tC (V.str c)))) t e D σ H :=
  ⟨_, h, rfl, _, rfl, by rw [vS, ne]; exact iteF k⟩
theorem cmpT {i : Nat} {x c : Str} {t e : TS} {D : Ends} {σ : L2.St} {H : Hp} (h : σ[i]? = some (some (.str x))) (ne : decide (x = c) = true) (k : t D σ H) : tIfS (tTest (tOp rEq (tVar i) (tC (V.str c)))) t e D σ H :=
  ⟨_, h, rfl, _, rfl, by rw [vS, ne]; exact iteT k⟩
theorem SmAt.head {K : PySem.W.Frag} {H : Hp} {p : Addr} {S : Stm} (h : SmAt K H p S) : ∃ xs, SqT K H p xs ∧ atI xs 0 = some (.str (kindS S)) := by
  cases S with
  | table n fs => obtain ⟨q, a, _⟩ := h; exact ⟨_, a, rfl⟩
  | index n f => exact ⟨_, h, rfl⟩
  | put n ns => obtain ⟨q, a, _⟩ := h; exact ⟨_, a, rfl⟩
  | set n ss c => obtain ⟨q, v, a, _⟩ := h; exact ⟨_, a, rfl⟩
  | strike n c => obtain ⟨v, a, _⟩ := h; exact ⟨_, a, rfl⟩
  | ask how ts tabs c ob first => obtain ⟨q, r, v, b, a, _⟩ := h; exact ⟨_, a, rfl⟩
  | word x => exact ⟨_, h, rfl⟩
def spCh (K : PySem.W.Frag) (CN CR : Addr) (N : Nat) : Sp := fun vs H Q E => ∃ (p d q : Addr) (sh : Shp) (ix : List (Str × Str)) (S : Stm), vs = [.ref p, .ref d, .ref q] ∧ SmAt K H p S ∧ WnS N S ∧ ShapesAt K H d sh ∧ IxAt K H q ix ∧
  (∀ r, chk sh ix S = .ok r → ∀ p' H', Same H H' → SmAt K H' p' r → Q (.ref p') H') ∧ (∀ e, chk sh ix S = .error (some e) → NameAt CN H e E) ∧ (chk sh ix S = .error none → ∀ H', Same H H' → E (.ref CR) none H')
section
variable {P : Program} {w : World} {K : PySem.W.Frag} {mg : Str → Option Value} {base : Heap} {CN CR : Addr}
theorem scCh : FnScope ["tree", "shapes", "indexes", "kind"] ["tree", "shapes", "indexes"] (defScope s_checked) := ⟨rfl, rfl, rfl, by decide +kernel, rfl, by decide +kernel, by decide +kernel⟩
theorem ok_ch {N j : Nat} {f f1 f2 f3 f4 f5 f6 : Addr} {fd d1 d2 d3 d4 d5 d6 : FuncData} {prm : Arguments} {dvs : List V} {kws : List (Str × V)} (F : FunD K "checked" "checked" prm (defBody s_checked) (defScope s_checked) dvs kws f fd)
    (g1 : mg "check_table" = some (.ref f1)) (k1 : PySem.W.keepIn K (.ref f1) = true) (b1 : Binds K d1 ["tree", "shapes"] []) (G1 : FnOk P w K mg base (L2.CX P w) j f1 d1 ["tree", "shapes"] (spCb K CN))
    (g2 : mg "check_index" = some (.ref f2)) (k2 : PySem.W.keepIn K (.ref f2) = true) (b2 : Binds K d2 ["tree", "shapes", "indexes"] []) (G2 : FnOk P w K mg base (L2.CX P w) j f2 d2 ["tree", "shapes", "indexes"] (spCx K CN))
    (g3 : mg "check_put" = some (.ref f3)) (k3 : PySem.W.keepIn K (.ref f3) = true) (b3 : Binds K d3 ["tree", "shapes"] []) (G3 : FnOk P w K mg base (L2.CX P w) j f3 d3 ["tree", "shapes"] (spCp K CN CR))
    (g4 : mg "checked_set" = some (.ref f4)) (k4 : PySem.W.keepIn K (.ref f4) = true) (b4 : Binds K d4 ["tree", "shapes"] []) (G4 : FnOk P w K mg base (L2.CX P w) j f4 d4 ["tree", "shapes"] (spCs K CN N))
    (g5 : mg "checked_strike" = some (.ref f5)) (k5 : PySem.W.keepIn K (.ref f5) = true) (b5 : Binds K d5 ["tree", "shapes"] []) (G5 : FnOk P w K mg base (L2.CX P w) j f5 d5 ["tree", "shapes"] (spCr K CN N))
    (g6 : mg "checked_ask" = some (.ref f6)) (k6 : PySem.W.keepIn K (.ref f6) = true) (b6 : Binds K d6 ["tree", "shapes"] []) (G6 : FnOk P w K mg base (L2.CX P w) j f6 d6 ["tree", "shapes"] (spCa K CN N)) :
    FnOk P w K mg base (L2.CX P w) (j + 1) f fd ["tree", "shapes", "indexes"] (spCh K CN CR N) := by
  refine F.ok scCh (fun vs H Q E h => ?_) (fun cdv A outer s H vs Q E hr h => ?_)
  · obtain ⟨p, d, q, sh, ix, S, rfl, _⟩ := h
    rfl
  · obtain ⟨p, d, q, sh, ix, S, rfl, hS, wS, Sh, Ix, kg, kb, kr⟩ := h
    have hr1 : Room j _ := hr
    refine ⟨_, (pss_cons (ps_set (i := 3) scCh.nd rfl (Or.inl rfl) (pe_ix (RK.ixT (K := K)) (pv 0) pe_int (fun _ _ => rfl)))
      (pss_cons (ps_if (pt_cmpR op_eq (pv 3) pe_str (nomark _)) (pss_one (ps_expr (pe_call G1 hr1 (by rfl) g1 k1 b1 .nil passX (pa_cons (pv 0) (pa_cons (pv 1) pa_nil))))) (pss_one (ps_if (pt_cmpR op_eq (pv 3) pe_str (nomark _)) (pss_one (ps_expr (pe_call G2 hr1 (by rfl) g2 k2 b2 .nil passX (pa_cons (pv 0) (pa_cons (pv 1) (pa_cons (pv 2) pa_nil)))))) (pss_one (ps_if (pt_cmpR op_eq (pv 3) pe_str (nomark _)) (pss_one (ps_expr (pe_call G3 hr1 (by rfl) g3 k3 b3 .nil passX (pa_cons (pv 0) (pa_cons (pv 1) pa_nil))))) (pss_one (ps_if (pt_cmpR op_eq (pv 3) pe_str (nomark _)) (pss_one (ps_ret (pe_call G4 hr1 (by rfl) g4 k4 b4 .nil passX (pa_cons (pv 0) (pa_cons (pv 1) pa_nil))))) (pss_one (ps_if (pt_cmpR op_eq (pv 3) pe_str (nomark _)) (pss_one (ps_ret (pe_call G5 hr1 (by rfl) g5 k5 b5 .nil passX (pa_cons (pv 0) (pa_cons (pv 1) pa_nil))))) (pss_one (ps_if (pt_cmpR op_eq (pv 3) pe_str (nomark _)) (pss_one (ps_ret (pe_call G6 hr1 (by rfl) g6 k6 b6 .nil passX (pa_cons (pv 0) (pa_cons (pv 1) pa_nil))))) pss_nil)))))))))))
      (pss_one (ps_ret (pv 0))))), ?_⟩
    obtain ⟨xs, hp, e0⟩ := SmAt.head hS
    refine sa1 ⟨_, rfl, p, _, 0, _, rfl, rfl, hp, e0, gn ?_⟩
    refine at_stD (σ' := [some (.ref p), some (.ref d), some (.ref q), some (.str (kindS S))]) rfl ?_
    cases S with
    | table n fs =>
      have ce : chk sh ix (.table n fs) = if n ∈ sh.map (·.1) then .error (some n) else match goA (fun _ => false) [] fs with | some f => .error (some f) | none => .ok (.table n fs) := rfl
      refine cmpT rfl (by show decide (Str.ofString "table" = _) = _; decide +kernel) ?_
      refine ⟨_, rfl, _, rfl, p, d, sh, n, fs, rfl, hS, wS.1, wS.2.1, wS.2.2, Sh, fun m => kb n (by rw [ce, if_pos m]), fun m f ef => kb f (by rw [ce, if_neg m, ef]), fun m ef H' s1 => ?_⟩
      exact ⟨_, rfl, kg _ (by rw [ce, if_neg m, ef]) _ _ s1 (hS.mono fun _ _ z => (KeepN.of s1).t z)⟩
    | index n f =>
      have ce : chk sh ix (.index n f) = match ixErr sh ix n f with | some e => .error (some e) | none => .ok (.index n f) := rfl
      refine cmpF rfl (by show decide (Str.ofString "index" = _) = _; decide +kernel) ?_
      refine cmpT rfl (by show decide (Str.ofString "index" = _) = _; decide +kernel) ?_
      refine ⟨_, rfl, _, rfl, _, rfl, p, d, q, sh, n, f, ix, rfl, hS, wS.1, wS.2.1, wS.2.2.1, wS.2.2.2, Sh, Ix, fun e ee => kb e (by rw [ce, ee]), fun ee H' s1 => ?_⟩
      exact ⟨_, rfl, kg _ (by rw [ce, ee]) _ _ s1 (hS.mono fun _ _ z => (KeepN.of s1).t z)⟩
    | put n ns =>
      have ce : chk sh ix (.put n ns) = if n ∉ sh.map (·.1) then .error (some n) else if ns.length ≠ (flds1 sh n).length then .error none else .ok (.put n ns) := rfl
      refine cmpF rfl (by show decide (Str.ofString "put" = _) = _; decide +kernel) ?_
      refine cmpF rfl (by show decide (Str.ofString "put" = _) = _; decide +kernel) ?_
      refine cmpT rfl (by show decide (Str.ofString "put" = _) = _; decide +kernel) ?_
      refine ⟨_, rfl, _, rfl, p, d, sh, n, ns, rfl, hS, wS, Sh, fun m => kb n (by rw [ce, if_pos m]), fun m z => kr (by rw [ce, if_neg (fun y => y m), if_pos z]) _ (Same.refl _), fun m z => ?_⟩
      exact ⟨_, rfl, kg _ (by rw [ce, if_neg (fun y => y m), if_neg (fun y => y z)]) _ _ (Same.refl _) hS⟩
    | set n ss c =>
      refine cmpF rfl (by show decide (Str.ofString "set" = _) = _; decide +kernel) ?_
      refine cmpF rfl (by show decide (Str.ofString "set" = _) = _; decide +kernel) ?_
      refine cmpF rfl (by show decide (Str.ofString "set" = _) = _; decide +kernel) ?_
      refine cmpT rfl (by show decide (Str.ofString "set" = _) = _; decide +kernel) ?_
      exact ⟨_, rfl, _, rfl, p, d, sh, n, ss, c, rfl, hS, wS, Sh, kg, kb⟩
    | strike n c =>
      refine cmpF rfl (by show decide (Str.ofString "strike" = _) = _; decide +kernel) ?_
      refine cmpF rfl (by show decide (Str.ofString "strike" = _) = _; decide +kernel) ?_
      refine cmpF rfl (by show decide (Str.ofString "strike" = _) = _; decide +kernel) ?_
      refine cmpF rfl (by show decide (Str.ofString "strike" = _) = _; decide +kernel) ?_
      refine cmpT rfl (by show decide (Str.ofString "strike" = _) = _; decide +kernel) ?_
      exact ⟨_, rfl, _, rfl, p, d, sh, n, c, rfl, hS, wS.1, wS.2, Sh, kg, kb⟩
    | ask how ts tabs c ob fi =>
      refine cmpF rfl (by show decide (Str.ofString "ask" = _) = _; decide +kernel) ?_
      refine cmpF rfl (by show decide (Str.ofString "ask" = _) = _; decide +kernel) ?_
      refine cmpF rfl (by show decide (Str.ofString "ask" = _) = _; decide +kernel) ?_
      refine cmpF rfl (by show decide (Str.ofString "ask" = _) = _; decide +kernel) ?_
      refine cmpF rfl (by show decide (Str.ofString "ask" = _) = _; decide +kernel) ?_
      refine cmpT rfl (by show decide (Str.ofString "ask" = _) = _; decide +kernel) ?_
      exact ⟨_, rfl, _, rfl, p, d, sh, how, ts, tabs, c, ob, fi, rfl, hS, wS, Sh, kg, kb⟩
    | word x =>
      have wS : x ∈ words3 := wS
      have all : ∀ y ∈ words3, decide (y = Str.ofString "table") = false ∧ decide (y = Str.ofString "index") = false ∧ decide (y = Str.ofString "put") = false ∧ decide (y = Str.ofString "set") = false ∧ decide (y = Str.ofString "strike") = false ∧ decide (y = Str.ofString "ask") = false := by decide +kernel
      obtain ⟨a1, a2, a3, a4, a5, a6⟩ := all x wS
      refine cmpF rfl a1 (cmpF rfl a2 (cmpF rfl a3 (cmpF rfl a4 (cmpF rfl a5 (cmpF rfl a6 ?_)))))
      exact ⟨_, rfl, kg _ rfl _ _ (Same.refl _) hS⟩
end
end GS

set_option linter.all false
set_option maxHeartbeats 4000000
namespace K06
open PySem L2
structure Txt6 (mg : Str → Option Value) : Prop extends Txt mg where
  sorted : mg "sorted" = none
  int : mg "int" = none
theorem sh_look {sh : List (Str × List Str)} (I : IsShapes sh) {t : Str} (h : t ∈ sh.map (·.1)) : ∃ fs m, sh.lookup t = some fs ∧ 1 ≤ m ∧ m ≤ 4 ∧ fs = flds.take m := by
  have key : ∀ l : List (Str × List Str), t ∈ l.map (·.1) → ∃ fs, l.lookup t = some fs ∧ (t, fs) ∈ l := by
    intro l
    induction l with
    | nil => intro h; cases h
    | cons p r ih =>
      intro h
      obtain ⟨k, x⟩ := p
      by_cases z : t = k
      · subst z
        exact ⟨x, by simp [List.lookup], List.mem_cons_self⟩
      · have zn : (t == k) = false := by simpa using z
        rcases List.mem_cons.mp h with h | h
        · exact absurd h z
        · obtain ⟨fs, e, m⟩ := ih h
          exact ⟨fs, by simp only [List.lookup, zn]; exact e, List.mem_cons_of_mem _ m⟩
  obtain ⟨fs, e, m⟩ := key sh h
  obtain ⟨n, n1, n4, e2⟩ := I.fs _ m
  exact ⟨fs, n, e, n1, n4, e2⟩
theorem ok_flds : ∀ f ∈ flds, PyData.strOk f = true := by decide +kernel
theorem ok_tabs : ∀ f ∈ tabs, PyData.strOk f = true := by decide +kernel
theorem sh_names {sh : List (Str × List Str)} (I : IsShapes sh) {t : Str} (h : t ∈ sh.map (·.1)) : t ∈ tabs := by
  rw [I.names] at h
  exact List.mem_of_mem_take h
theorem HAt.ne'' {H : Hp} {a b x : Addr} {xs : List V} (B : HAt H a b) (h : H x = some (.tup xs)) : x ≠ a ∧ x ≠ b := by
  obtain ⟨z, p, cs, ha, hb, _⟩ := B
  exact ⟨fun e => (by rw [e, ha] at h; cases h), fun e => (by rw [e, hb] at h; cases h)⟩
theorem look_key {sh : List (Str × List Str)} {t : Str} {fs : List Str} (h : sh.lookup t = some fs) : t ∈ sh.map (·.1) := by
  induction sh with
  | nil => cases h
  | cons p r ih =>
    obtain ⟨k, x⟩ := p
    by_cases z : t = k
    · rw [z]; exact List.mem_cons_self
    · have zn : (t == k) = false := by simpa using z
      simp only [List.lookup, zn] at h
      exact List.mem_cons_of_mem _ (ih h)
def TsOk (sh : List (Str × List Str)) (ts : List Str) : Prop := ts ≠ [] ∧ ts.Nodup ∧ ts.length ≤ 3 ∧ ∀ t ∈ ts, t ∈ sh.map (·.1)
/-- a or b, as it falls -/
theorem te_coin {n m : Int} (n0 : 0 < n) (n1 : n < 1000000) {σ : L2.St} {H : Hp} {Q : VK} {a b : Addr} {u w : TE} (h0 : σ[0]? = some (some (.ref a))) (B : HAt H a b) (k : ∀ H', HAt H' a b → Keep a b H H' → u σ H' Q ∧ w σ H' Q) :
    tIf (tTest (tOp rEq (tCall spNext [] E0 (tCons (tVar 0) (tCons (tC (V.int n)) tNil))) (tC (V.int m)))) u w σ H Q := by
  refine ⟨_, h0, a, b, n, rfl, n0, n1, B, fun z H' z0 z1 B' kp => ⟨rfl, _, rfl, ?_⟩⟩
  generalize decide (V.int z = V.int m) = bz
  cases bz with
  | true => exact iteT (k H' B' kp).1
  | false => exact iteF (k H' B' kp).2

/-- the fields that there are have short names -/
def FlNm (fl : List (Str × Str)) : Prop := ∀ q ∈ fl, (GS.Nm q.1 ∧ GS.Nm q.2 ∧ q.2 ≠ GS.sE) ∧ q.1 ≠ GS.sE ∧ PyData.strOk q.1 = true
theorem wn_tm {fl : List (Str × Str)} (h : FlNm fl) {t : Tr} (i : IsTm fl t) : GS.Wn t := by
  induction i with
  | num _ _ => trivial
  | field m => exact (h _ m).1
  | bin m _ _ a b => exact ⟨(by revert m; generalize (_ : Str) = x; intro m; simp only [List.mem_cons, List.not_mem_nil, or_false] at m ⊢; rcases m with rfl | rfl | rfl <;> simp), a, b⟩
theorem wn_cd {fl : List (Str × Str)} (h : FlNm fl) {t : Tr} (i : IsCd fl t) : GS.Wn t := by
  induction i with
  | cmp m a b => exact ⟨(by simp only [List.mem_cons, List.not_mem_nil, or_false] at m ⊢; rcases m with rfl | rfl | rfl | rfl | rfl <;> simp), wn_tm h a, wn_tm h b⟩
  | join m _ _ a b => exact ⟨(by simp only [List.mem_cons, List.not_mem_nil, or_false] at m ⊢; rcases m with rfl | rfl <;> simp), a, b⟩
  | not _ a => exact a
/-- a term as drawn -/
def Tne : Tr → Prop
  | .num _ => True
  | .field t _ => t ≠ GS.sE ∧ PyData.strOk t = true
  | .bin _ l r => Tne l ∧ Tne r
  | .not x => Tne x
theorem tne_tm {fl : List (Str × Str)} (h : FlNm fl) {t : Tr} (i : IsTm fl t) : Tne t := by
  induction i with
  | num _ _ => trivial
  | field m => exact (h _ m).2
  | bin _ _ _ a b => exact ⟨a, b⟩
theorem tne_cd {fl : List (Str × Str)} (h : FlNm fl) {t : Tr} (i : IsCd fl t) : Tne t := by
  induction i with
  | cmp _ a b => exact ⟨tne_tm h a, tne_tm h b⟩
  | join _ _ _ a b => exact ⟨a, b⟩
  | not _ a => exact a
def TmD (t : Tr) : Prop := GS.Wn t ∧ t.depth ≤ 5 ∧ Tne t
def CdD (c : Option Tr) : Prop := ∀ t, c = some t → TmD t
structure AskD (how : Str) (ts : List Tr) (tabs : List Str) (c : Option Tr) (ob : List Tr) : Prop where
  hw : GS.Nm how
  t3 : ts.length ≤ 3
  o3 : ob.length ≤ 3
  tm : ∀ t ∈ ts, TmD t
  om : ∀ t ∈ ob, TmD t
  cd : CdD c
  b0 : tabs ≠ []
  b3 : tabs.length ≤ 3
  bm : ∀ t ∈ tabs, t ∈ K06.tabs
def spAsk (K : PySem.W.Frag) : Sp := fun vs H Q _ => ∃ (a b d : Addr) (sh : List (Str × List Str)), vs = [.ref a, .ref d] ∧ HAt H a b ∧ ShapesAt K H d sh ∧ IsShapes sh ∧ 1 ≤ sh.length ∧
  ∀ (p : Addr) (H' : Hp) (how : Str) (ts : List Tr) (tabs : List Str) (c : Option Tr) (ob : List Tr) (fi : Option Int), HAt H' a b → Keep a b H H' → SmAt K H' p (.ask how ts tabs c ob fi) → AskD how ts tabs c ob → Q (.ref p) H'
theorem map_erase {α β : Type} (g : α → β) : ∀ (l : List α) (k : Nat), (l.map g).eraseIdx k = (l.eraseIdx k).map g
  | [], _ => rfl
  | _ :: _, 0 => rfl
  | x :: l, k + 1 => by
    show g x :: (l.map g).eraseIdx k = g x :: (l.eraseIdx k).map g
    rw [map_erase g l k]
theorem perm_erase {α : Type} : ∀ (l : List α) (k : Nat) (h : k < l.length), (l[k] :: l.eraseIdx k).Perm l
  | [], k, h => absurd h (Nat.not_lt_zero k)
  | x :: l, 0, _ => List.Perm.refl _
  | x :: l, k + 1, h => by
    have hk : k < l.length := Nat.lt_of_succ_lt_succ h
    have ih := perm_erase l k hk
    show (l[k] :: x :: l.eraseIdx k).Perm (x :: l)
    exact (List.Perm.swap x l[k] (l.eraseIdx k)).trans (ih.cons x)
section
variable {P : Program} {w : World} {K : PySem.W.Frag} {mg : Str → Option Value} {base : Heap}
/-- so many terms: none to three -/
theorem te_many {σ : L2.St} {H : Hp} {Q : VK} {a b : Addr} {how : Str} (h0 : σ[0]? = some (some (.ref a))) (h6 : σ[6]? = some (some (.str how))) (B : HAt H a b) (k : ∀ (n : Int) (H' : Hp), 0 ≤ n → n ≤ 3 → HAt H' a b → Keep a b H H' → Q (.int n) H') :
    tIf (tTest (tOp rEq (tVar 6) (tC (V.str (Str.ofString "pick"))))) (tOp (rI0 fun i j => V.int (i + j)) (tC (V.int 1)) (tCall spNext [] E0 (tCons (tVar 0) (tCons (tC (V.int 3)) tNil))))
      (tCB (fun xs H Q => (∃ i, xs = [V.int i] ∧ Q (V.int i) H) ∨ ∃ k, xs = [V.bl k] ∧ Q (V.int (if k = true then 1 else 0)) H) (tCons (tOp rNe (tVar 6) (tC (V.str (Str.ofString "count")))) tNil)) σ H Q := by
  refine ⟨_, h6, rfl, _, rfl, ?_⟩
  generalize decide (V.str how = V.str (Str.ofString "pick")) = bz
  cases bz with
  | true => exact iteT ⟨_, h0, a, b, 3, rfl, by decide, by decide, B, fun z H' z0 z3 B' kp => ⟨_, _, rfl, rfl, k _ _ (by omega) (by omega) B' kp⟩⟩
  | false =>
    refine iteF ⟨_, h6, rfl, .inr ⟨_, rfl, ?_⟩⟩
    generalize (!decide (V.str how = V.str (Str.ofString "count"))) = bw
    cases bw with
    | true => exact k 1 _ (by decide) (by decide) B (Keep.refl _ _ _)
    | false => exact k 0 _ (by decide) (by decide) B (Keep.refl _ _ _)
/-- a tuple of some terms -/
theorem te_terms {σ : L2.St} {H : Hp} {Q : VK} {a b l : Addr} {fl : List (Str × Str)} {dp : Int} {tn : TE} {x1 x2 x3 x4 x6 x7 x8 x9 x10 x11 : Option V} (hF : FlNm fl) (hσ : σ = [some (.ref a), x1, x2, x3, x4, some (.ref l), x6, x7, x8, x9, x10, x11]) (d0 : 0 ≤ dp) (d3 : dp < 3) (B : HAt H a b) (Fl : FlAt K H l fl) (na : l ≠ a) (nb : l ≠ b) (h100 : fl.length ≤ 100)
    (htn : ∀ Q' : VK, (∀ (n : Int) (H' : Hp), 0 ≤ n → n ≤ 3 → HAt H' a b → Keep a b H H' → Q' (.int n) H') → tn σ H Q') (k : ∀ (t : Addr) (ts : List Tr) (H' : Hp), HAt H' a b → Keep a b H H' → TsAt K H' t ts → ts.length ≤ 3 → (∀ t ∈ ts, TmD t) → Q (.ref t) H') :
    tCB (RK.rTupQ K) (tCons (tLc (iRng1 (tCons tn tNil)) (gName 4) tYes (tCall (spTerm K 3) [] E0 (tCons (tVar 0) (tCons (tVar 5) (tCons (tC (V.int dp)) tNil)))) (List.map (fun x => x.snd) [(Str.ofString "_law_k", 4)])) tNil) σ H Q := by
  refine htn _ fun n H1 n0 n3 B1 kp1 => ⟨n, rfl, by omega, by omega, fun D hD => ?_⟩
  have nD := B1.ne hD
  have Fl1 := Fl.keep B kp1 na nb
  have kD : Keep a b H1 (upd H1 D (.lst [])) := Keep.same (Same.new hD)
  refine lc_range (lo := 0) (n := n.toNat) (fun i H' => HAt H' a b ∧ Keep a b H1 H' ∧ ∃ (vs : List V) (ts : List Tr), H' D = some (.lst vs) ∧ vs.length ≤ i ∧ Paired (TrAt K H') vs ts ∧ ∀ t ∈ ts, TmD t) ⟨B1.upd nD, kD, [], [], upd_same, Nat.le_refl _, .nil, fun _ m => nomatch m⟩ ?_ ?_
  · rintro i H2 hi ⟨B2, k2, vs, ts, hD2, lv, pw, tm⟩
    subst hσ
    refine ⟨rfl, _, rfl, _, rfl, a, b, l, fl, dp, rfl, d0, d3, B2, Fl1.keep B1 k2 na nb, na, nb, h100, fun v t H3 B3 k3 T3 I3 d3' => ?_⟩
    have hD3 := k3 D _ nD.1 nD.2 hD2
    refine ⟨vs, hD3, Nat.lt_of_le_of_lt (show vs.length ≤ 3 by omega) (by decide), B3.upd nD, fun x o n1 n2 e => ?_, vs ++ [v], ts ++ [t], upd_same, by rw [List.length_append]; exact Nat.succ_le_succ lv, ?_, fun u m => ?_⟩
    · rw [upd_ne (ne_of_none e hD)]
      exact (k2.trans k3) _ _ n1 n2 e
    · have kb := KeepN.lst (ys := vs ++ [v]) hD3
      exact Paired.snoc (GS.pw_monoK (fun _ _ z => (z.keep (k3.n B2)).keep kb) pw) (T3.keep kb)
    · rcases List.mem_append.mp m with m | m
      · exact tm u m
      · obtain rfl := List.mem_singleton.mp m
        exact ⟨wn_tm hF I3, by omega, tne_tm hF I3⟩
  · rintro H2 ⟨B2, k2, vs, ts, hD2, lv, pw, tm⟩
    refine ⟨D, vs, rfl, .inl ⟨SqL.of hD2, fun q hq => ?_⟩⟩
    have s := Same.new (o := .tup vs) hq
    exact k q ts _ (B2.same s) (kp1.trans (k2.trans (Keep.same s))) ⟨vs, SqT.of upd_same, GS.pw_monoK (fun _ _ z => z.keep (KeepN.of s)) pw⟩ (by have := Paired.length pw; omega) tm
/-- a condition, or none -/
theorem te_cnd {σ : L2.St} {H : Hp} {Q : VK} {a b l : Addr} {fl : List (Str × Str)} (hF : FlNm fl) (h0 : σ[0]? = some (some (.ref a))) (h5 : σ[5]? = some (some (.ref l))) (B : HAt H a b) (Fl : FlAt K H l fl) (na : l ≠ a) (nb : l ≠ b) (h100 : fl.length ≤ 100)
    (k : ∀ (v : V) (c : Option Tr) (H' : Hp), HAt H' a b → Keep a b H H' → OcAt K H' v c → CdD c → Q v H') :
    tIf (tTest (tOp (rI0 fun i j => V.bl (decide (j < i))) (tCall spNext [] E0 (tCons (tVar 0) (tCons (tC (V.int 4)) tNil))) (tC (V.int 0)))) (tCall (spCond K 4) [] E0 (tCons (tVar 0) (tCons (tVar 5) (tCons (tC (V.int 3)) tNil)))) (tC V.non) σ H Q := by
  refine ⟨_, h0, a, b, 4, rfl, by decide, by decide, B, fun z H1 z0 z4 B1 kp1 => ⟨_, _, rfl, rfl, _, rfl, ?_⟩⟩
  generalize decide ((0 : Int) < z) = bz
  cases bz with
  | true =>
    refine iteT ⟨_, h0, _, h5, a, b, l, fl, 3, rfl, by decide, by decide, B1, Fl.keep B kp1 na nb, na, nb, h100, fun v t H2 B2 kp2 T2 I2 d2 => ?_⟩
    have d2 : t.depth ≤ 5 := d2
    exact k v (some t) H2 B2 (kp1.trans kp2) T2 (fun u e => by obtain rfl := Option.some.inj e; exact ⟨wn_cd hF I2, d2, tne_cd hF I2⟩)
  | false => exact iteF (k _ none _ B1 kp1 rfl (fun u e => nomatch e))
/-- a condition, or none -/
theorem te_cndj {σ : L2.St} {H : Hp} {Q : VK} {a b l : Addr} {fl : List (Str × Str)} {j : Nat} (hF : FlNm fl) (h0 : σ[0]? = some (some (.ref a))) (h5 : σ[j]? = some (some (.ref l))) (B : HAt H a b) (Fl : FlAt K H l fl) (na : l ≠ a) (nb : l ≠ b) (h100 : fl.length ≤ 100)
    (k : ∀ (v : V) (c : Option Tr) (H' : Hp), HAt H' a b → Keep a b H H' → OcAt K H' v c → CdD c → Q v H') :
    tIf (tTest (tOp (rI0 fun i j => V.bl (decide (j < i))) (tCall spNext [] E0 (tCons (tVar 0) (tCons (tC (V.int 4)) tNil))) (tC (V.int 0)))) (tCall (spCond K 4) [] E0 (tCons (tVar 0) (tCons (tVar j) (tCons (tC (V.int 3)) tNil)))) (tC V.non) σ H Q := by
  refine ⟨_, h0, a, b, 4, rfl, by decide, by decide, B, fun z H1 z0 z4 B1 kp1 => ⟨_, _, rfl, rfl, _, rfl, ?_⟩⟩
  generalize decide ((0 : Int) < z) = bz
  cases bz with
  | true =>
    refine iteT ⟨_, h0, _, h5, a, b, l, fl, 3, rfl, by decide, by decide, B1, Fl.keep B kp1 na nb, na, nb, h100, fun v t H2 B2 kp2 T2 I2 d2 => ?_⟩
    have d2 : t.depth ≤ 5 := d2
    exact k v (some t) H2 B2 (kp1.trans kp2) T2 (fun u e => by obtain rfl := Option.some.inj e; exact ⟨wn_cd hF I2, d2, tne_cd hF I2⟩)
  | false => exact iteF (k _ none _ B1 kp1 rfl (fun u e => nomatch e))
theorem scAsk : FnScope ["_law_h", "_law_shapes_here", "_law_names", "_law_tables", "_law_k", "_law_fields", "_law_how", "_law_many", "_law_terms", "_law_cond_here", "_law_by", "_law_first_here"] ["_law_h", "_law_shapes_here"] (defScope sLask) := ⟨rfl, rfl, rfl, by decide +kernel, rfl, by decide +kernel, by decide +kernel⟩
theorem ok_ask {n : Nat} {f fn fs ft fc : Addr} {fd fdn fds fdt fdc : FuncData} (F : Fun K "_law_ask" "_law_ask" sLask f fd) (T : Txt6 mg) (Cnext : Cal P w K mg base n "_law_next" ["_law_h", "_law_many"] spNext fn fdn)
    (Csome : Cal P w K mg base n "_law_some" ["_law_h", "_law_shapes_here", "_law_tables"] (spSome K) fs fds) (Cterm : Cal P w K mg base n "_law_term" ["_law_h", "_law_fields", "_law_deep"] (spTerm K 3) ft fdt)
    (Ccond : Cal P w K mg base n "_law_cond" ["_law_h", "_law_fields", "_law_deep"] (spCond K 4) fc fdc) : FnOk P w K mg base CX0 (n + 1) f fd ["_law_h", "_law_shapes_here"] (spAsk K) := by
  refine F.ok scAsk (fun vs H Q E h => ?_) (fun cdv A outer s H vs Q E hr h => ?_)
  · obtain ⟨a, b, d, sh, rfl, _⟩ := h
    rfl
  · obtain ⟨a, b, d, sh, rfl, B, S, I, l1, k⟩ := h
    have hr1 : Room n _ := hr
    refine ⟨_, (pss_cons (ps_set (i := 2) scAsk.nd rfl (Or.inr rfl) (pe_callB (call_sortedD rfl) (by rfl) T.sorted (by decide +kernel) (pa_cons (pv 1) pa_nil)))
      (pss_cons (ps_setLc (i := 3) (own := [("_law_k", 4)]) rfl scAsk.nd rfl rfl (sw_true rfl rfl rfl (by decide +kernel)) (pi_range1 rfl T.range (pa_cons (pe_op op_add pe_int (pe_call Cnext.G hr1 (by rfl) Cnext.g Cnext.kp Cnext.b .nil pass0 (pa_cons (pv 0) (pa_cons (pe_callB (RK.lenQ (K := K)) (by rfl) T.len PySem.boot_len (pa_cons (pv 2) pa_nil)) pa_nil)))) pa_nil)) (blkOk_by (N := ["_law_h", "_law_shapes_here", "_law_names", "_law_tables", "_law_k", "_law_fields", "_law_how", "_law_many", "_law_terms", "_law_cond_here", "_law_by", "_law_first_here"]) (sc := defScope sLask) (by decide +kernel)) (fun _ _ _ _ _ => (pg_name (i := 4) scAsk.nd rfl (Or.inl rfl))) (fun _ _ _ _ _ => pts_nil) (fun _ _ _ _ _ => (RK.bm (K := K) PySem.F.plainAttrs_list PySem.F.slot_list_pop PySem.F.type_list_pop mt_popAt (pv 2) (pa_cons (pe_call Cnext.G hr1 (by rfl) Cnext.g Cnext.kp Cnext.b .nil pass0 (pa_cons (pv 0) (pa_cons (pe_callB (RK.lenQ (K := K)) (by rfl) T.len PySem.boot_len (pa_cons (pv 2) pa_nil)) pa_nil))) pa_nil))))
      (pss_cons (ps_set (i := 5) scAsk.nd rfl (Or.inr rfl) (pe_call Csome.G hr1 (by rfl) Csome.g Csome.kp Csome.b .nil pass0 (pa_cons (pv 0) (pa_cons (pv 1) (pa_cons (pv 3) pa_nil)))))
      (pss_cons (ps_set (i := 6) scAsk.nd rfl (Or.inl rfl) (pe_ix (RK.ixL (K := K)) (pe_lst (pa_cons pe_str (pa_cons pe_str (pa_cons pe_str (pa_cons pe_str (pa_cons pe_str (pa_cons pe_str (pa_cons pe_str pa_nil)))))))) (pe_call Cnext.G hr1 (by rfl) Cnext.g Cnext.kp Cnext.b .nil pass0 (pa_cons (pv 0) (pa_cons pe_int pa_nil))) (fun _ _ => rfl)))
      (pss_cons (ps_set (i := 7) scAsk.nd rfl (Or.inl rfl) (pe_ifExp (pt_cmpR op_eq (pv 6) pe_str (nomark _)) (pe_op op_add pe_int (pe_call Cnext.G hr1 (by rfl) Cnext.g Cnext.kp Cnext.b .nil pass0 (pa_cons (pv 0) (pa_cons pe_int pa_nil)))) (pe_callTy call_int1 (by rfl) T.int (by decide +kernel) (pa_cons (pe_cmpR op_ne (pv 6) pe_str (nomark _)) pa_nil))))
      (pss_cons (ps_set (i := 8) scAsk.nd rfl (Or.inl rfl) (pe_callTy (RK.tupQ (K := K)) (by rfl) T.tuple (by decide +kernel) (pa_cons (pe_lc (own := [("_law_k", 4)]) rfl scAsk.nd (pi_range1 rfl T.range (pa_cons (pv 7) pa_nil)) (blkOk_by (N := ["_law_h", "_law_shapes_here", "_law_names", "_law_tables", "_law_k", "_law_fields", "_law_how", "_law_many", "_law_terms", "_law_cond_here", "_law_by", "_law_first_here"]) (sc := defScope sLask) (by decide +kernel)) (fun _ _ _ _ _ => (pg_name (i := 4) scAsk.nd rfl (Or.inl rfl))) (fun _ _ _ _ _ => pts_nil) (fun _ _ _ _ _ => (pe_call Cterm.G hr1 (by rfl) Cterm.g Cterm.kp Cterm.b .nil pass0 (pa_cons (pv 0) (pa_cons (pv 5) (pa_cons pe_int pa_nil)))))) pa_nil)))
      (pss_cons (ps_set (i := 9) scAsk.nd rfl (Or.inl rfl) (pe_ifExp (pt_cmpR op_gt (pe_call Cnext.G hr1 (by rfl) Cnext.g Cnext.kp Cnext.b .nil pass0 (pa_cons (pv 0) (pa_cons pe_int pa_nil))) pe_int (nomark _)) (pe_call Ccond.G hr1 (by rfl) Ccond.g Ccond.kp Ccond.b .nil pass0 (pa_cons (pv 0) (pa_cons (pv 5) (pa_cons pe_int pa_nil)))) pe_non))
      (pss_cons (ps_asg (pe_tup (pa_cons (pe_tup pa_nil) (pa_cons pe_non pa_nil))) (RK.pgTup (K := K) (n := 2) rfl (pgs_cons (pg_name (i := 10) scAsk.nd rfl (Or.inl rfl)) (pgs_cons (pg_name (i := 11) scAsk.nd rfl (Or.inl rfl)) pgs_nil))))
      (pss_cons (ps_if (pt_cmpR op_eq (pv 6) pe_str (nomark _)) (pss_cons (ps_set (i := 10) scAsk.nd rfl (Or.inl rfl) (pe_callTy (RK.tupQ (K := K)) (by rfl) T.tuple (by decide +kernel) (pa_cons (pe_lc (own := [("_law_k", 4)]) rfl scAsk.nd (pi_range1 rfl T.range (pa_cons (pe_call Cnext.G hr1 (by rfl) Cnext.g Cnext.kp Cnext.b .nil pass0 (pa_cons (pv 0) (pa_cons pe_int pa_nil))) pa_nil)) (blkOk_by (N := ["_law_h", "_law_shapes_here", "_law_names", "_law_tables", "_law_k", "_law_fields", "_law_how", "_law_many", "_law_terms", "_law_cond_here", "_law_by", "_law_first_here"]) (sc := defScope sLask) (by decide +kernel)) (fun _ _ _ _ _ => (pg_name (i := 4) scAsk.nd rfl (Or.inl rfl))) (fun _ _ _ _ _ => pts_nil) (fun _ _ _ _ _ => (pe_call Cterm.G hr1 (by rfl) Cterm.g Cterm.kp Cterm.b .nil pass0 (pa_cons (pv 0) (pa_cons (pv 5) (pa_cons pe_int pa_nil)))))) pa_nil)))
        (pss_one (ps_set (i := 11) scAsk.nd rfl (Or.inl rfl) (pe_ix (RK.ixL (K := K)) (pe_lst (pa_cons pe_non (pa_cons (pe_call Cnext.G hr1 (by rfl) Cnext.g Cnext.kp Cnext.b .nil pass0 (pa_cons (pv 0) (pa_cons pe_int pa_nil))) pa_nil))) (pe_call Cnext.G hr1 (by rfl) Cnext.g Cnext.kp Cnext.b .nil pass0 (pa_cons (pv 0) (pa_cons pe_int pa_nil))) (fun _ _ => rfl))))) pss_nil)
      (pss_one (ps_ret (pe_tup (pa_cons pe_str (pa_cons (pv 6) (pa_cons (pv 8) (pa_cons (pe_callTy (RK.tupQ (K := K)) (by rfl) T.tuple (by decide +kernel) (pa_cons (pv 3) pa_nil)) (pa_cons (pv 9) (pa_cons (pv 10) (pa_cons (pv 11) pa_nil))))))))))))))))))), ?_⟩
    obtain ⟨kvs, hd, pr⟩ := id S
    have n64 : (sh.map (·.1)).length < 64 := by rw [List.length_map]; have := I.few; omega
    refine ⟨_, rfl, d, kvs, sh.map (·.1), rfl, Rd.of hd, pr_keys pr, n64, fun ys g perm _ hg => ?_⟩
    refine gn ?_
    have s1 := Same.new (o := .lst (ys.map V.str)) hg
    have B1 := B.same s1
    have ng := B.ne hg
    have hys : ∀ t ∈ ys, t ∈ sh.map (·.1) := fun t m => perm.mem_iff.mp m
    have ly : ys.length ≤ 3 ∧ 1 ≤ ys.length := by rw [perm.length_eq, List.length_map]; exact ⟨I.few, l1⟩
    have ndn : (sh.map (·.1)).Nodup := by
      rw [I.names]
      exact List.Sublist.nodup (List.take_sublist _ _) (by decide +kernel)
    have ndy : ys.Nodup := perm.nodup_iff.mpr ndn
    have lt : (ys.map V.str).length = ys.length := List.length_map ..
    try dsimp only
    refine sa1 ?_
    refine ⟨_, rfl, _, rfl, g, _, rfl, .inl (SqL.of upd_same), a, b, _, rfl, by omega, by omega, B1, fun m H2 m0 m1 B2 kp2 => ⟨_, _, rfl, rfl, _, rfl, by omega, by omega, fun D hD => ?_⟩⟩
    have kpg : Keep a b H (upd H g (.lst (ys.map V.str))) := Keep.same s1
    have kp02 : Keep a b H H2 := kpg.trans kp2
    have hg2 : H2 g = some (.lst (ys.map V.str)) := kp2 g _ ng.1 ng.2 upd_same
    have nD := B2.ne hD
    have ngD : g ≠ D := ne_of_none hg2 hD
    have hD0 : H D = none := by
      cases e : H D with
      | none => rfl
      | some o => rw [kp02 _ _ nD.1 nD.2 e] at hD; cases hD
    refine lc_range (lo := 0) (n := (1 + m).toNat) (fun i H' => HAt H' a b ∧ Keep a b H H' ∧ ∃ (ns ts : List Str), H' g = some (.lst (ns.map V.str)) ∧ H' D = some (.lst (ts.map V.str)) ∧ ts.length = i ∧ (ns ++ ts).Perm ys)
      ⟨B2.upd nD, fun x o n1 n2 e => by rw [upd_ne (ne_of_none e hD0)]; exact kp02 x o n1 n2 e, ys, [], by rw [upd_ne ngD]; exact hg2, upd_same, rfl, by rw [List.append_nil]⟩ ?_ ?_
    · rintro i H3 hi ⟨B3, k3, ns, ts, hg3, hD3, li, pm⟩
      have lns : ns.length + i = ys.length := by have q := pm.length_eq; rw [List.length_append, li] at q; exact q
      have lnm : (ns.map V.str).length = ns.length := List.length_map ..
      refine ⟨rfl, _, rfl, .inl ⟨rfl, _, SqL.of hg3⟩, _, rfl, _, rfl, g, _, rfl, .inl (SqL.of hg3), a, b, _, rfl, by omega, by omega, B3, fun z H4 z0 z1 B4 kp4 => ?_⟩
      have hz : z.toNat < ns.length := by omega
      have hg4 := kp4 g _ ng.1 ng.2 hg3
      have hD4 := kp4 D _ nD.1 nD.2 hD3
      have B5 : HAt (upd H4 g (.lst ((ns.map V.str).eraseIdx z.toNat))) a b := B4.upd ng
      have ez : (ns.map V.str).eraseIdx z.toNat = (ns.eraseIdx z.toNat).map V.str := map_erase _ _ _
      refine ⟨g, _, z, z.toNat, .str ns[z.toNat], rfl, rfl, hg4, by omega, by omega, ?_, by rw [List.getElem?_map, List.getElem?_eq_getElem hz]; rfl, ?_⟩
      · simp only [seqIndex?]
        rw [if_neg (by omega : ¬ z < 0), if_pos]
        rw [Bool.and_eq_true]
        exact ⟨decide_eq_true z0, decide_eq_true (by omega)⟩
      · refine ⟨ts.map V.str, by rw [upd_ne ngD.symm]; exact hD4, Nat.lt_of_le_of_lt (show (ts.map V.str).length ≤ 3 by rw [List.length_map]; omega) (by decide), B5.upd nD, fun x o n1 n2 e => ?_, ns.eraseIdx z.toNat, ts ++ [ns[z.toNat]], ?_, ?_, ?_, ?_⟩
        · rw [upd_ne (ne_of_none e hD0), upd_ne (ne_of_none e hg)]
          exact (k3.trans kp4) x o n1 n2 e
        · rw [upd_ne ngD, upd_same, ez]
        · rw [upd_same, List.map_append]; rfl
        · rw [List.length_append, li]; rfl
        · have p1 := perm_erase ns z.toNat hz
          refine List.Perm.trans ?_ pm
          rw [← List.append_assoc]
          refine List.perm_append_comm.trans ?_
          show (ns[z.toNat] :: (ns.eraseIdx z.toNat ++ ts)).Perm (ns ++ ts)
          exact List.Perm.append_right ts p1
    · rintro H3 ⟨B3, k3, ns, ts, hg3, hD3, li, pm⟩
      refine gn ?_
      have mts : ∀ t ∈ ts, t ∈ sh.map (·.1) := fun t mt => hys t (pm.mem_iff.mp (List.mem_append_right _ mt))
      have lts : ts.length ≤ 3 ∧ 1 ≤ ts.length := by have q := pm.length_eq; rw [List.length_append] at q; omega
      have ndt : ts.Nodup := (List.nodup_append.mp (pm.nodup_iff.mpr ndy)).2.1
      have tsok : TsOk sh ts := ⟨fun e => by rw [e] at lts; exact absurd lts.2 (by decide), ndt, lts.1, mts⟩
      have flok : FlOk (flOf sh ts) := fun q mq => by
        obtain ⟨t, mt, mq⟩ := List.mem_flatMap.mp mq
        obtain ⟨fs, n', e, _, _, efs⟩ := sh_look I (mts t mt)
        rw [e] at mq
        obtain ⟨f', mf, rfl⟩ := List.mem_map.mp mq
        exact ⟨ok_tabs _ (sh_names I (mts t mt)), ok_flds _ (List.mem_of_mem_take (efs ▸ mf))⟩
      have S3 := S.keep (k3.n B)
      have hF : FlNm (flOf sh ts) := fun q mq => by
        obtain ⟨t, mt, mq⟩ := List.mem_flatMap.mp mq
        obtain ⟨fs, n', e, _, _, efs⟩ := sh_look I (mts t mt)
        rw [e] at mq
        obtain ⟨f', mf, rfl⟩ := List.mem_map.mp mq
        exact ⟨⟨(show ∀ x ∈ K06.tabs, GS.Nm x by decide +kernel) _ (sh_names I (mts t mt)), (show ∀ x ∈ flds, GS.Nm x ∧ x ≠ GS.sE by decide +kernel) _ (List.mem_of_mem_take (efs ▸ mf))⟩, (show ∀ x ∈ K06.tabs, x ≠ GS.sE ∧ PyData.strOk x = true by decide +kernel) _ (sh_names I (mts t mt))⟩
      try dsimp only
      refine sa1 ?_
      refine ⟨_, rfl, _, rfl, _, rfl, _, d, D, sh, ts, rfl, S3, SqL.of hD3, fun t mt => ?_, lts.1, flok, fun r H4 s4 r0 Fl lfl => ?_⟩
      · obtain ⟨fs, n', e, n1, n4, efs⟩ := sh_look I (mts t mt)
        exact ⟨fs, e, by rw [efs, List.length_take]; show min n' 4 ≤ 4; omega⟩
      refine gn ?_
      have B4 := B3.same s4
      have nr := B3.ne r0
      have hD4 := s4 _ _ hD3
      have k04 : Keep a b H H4 := k3.trans (Keep.same s4)
      try dsimp only
      refine sa1 ?_
      refine ⟨(by show 7 ≤ sizeLine; decide), fun l hl => ?_⟩
      have s5 := Same.new (o := .lst ([Str.ofString "pick", Str.ofString "pick", Str.ofString "pick", Str.ofString "count", Str.ofString "sum", Str.ofString "least", Str.ofString "most"].map V.str)) hl
      have nl := B4.ne hl
      refine ⟨_, rfl, a, b, 7, rfl, by decide, by decide, B4.same s5, fun z H6 z0 z7 B6 kp6 => ?_⟩
      have hl6 := kp6 l _ nl.1 nl.2 upd_same
      obtain ⟨how, hhow, nhow⟩ : ∃ how : Str, atI ([Str.ofString "pick", Str.ofString "pick", Str.ofString "pick", Str.ofString "count", Str.ofString "sum", Str.ofString "least", Str.ofString "most"].map V.str) z = some (.str how) ∧ GS.Nm how := by
        have h : z = 0 ∨ z = 1 ∨ z = 2 ∨ z = 3 ∨ z = 4 ∨ z = 5 ∨ z = 6 := by omega
        rcases h with rfl | rfl | rfl | rfl | rfl | rfl | rfl <;> exact ⟨_, rfl, by decide +kernel⟩
      refine ⟨l, _, z, .str how, rfl, rfl, SqL.of hl6, hhow, ?_⟩
      refine gn ?_
      have k46 : Keep a b H4 H6 := (Keep.same s5).trans kp6
      have Fl6 := Fl.keep B4 k46 nr.1 nr.2
      have fl100 : (flOf sh ts).length ≤ 100 := by omega
      try dsimp only
      refine sa1 ?_
      refine te_many rfl rfl B6 fun many H7 n0 n3 B7 kp7 => ?_
      refine gn ?_
      have Fl7 := Fl6.keep B6 kp7 nr.1 nr.2
      try dsimp only
      refine sa1 ?_
      refine te_terms (K := K) hF rfl (by decide) (by decide) B7 Fl7 nr.1 nr.2 fl100 (fun Q' kq => ⟨_, rfl, kq _ _ n0 n3 B7 (Keep.refl _ _ _)⟩) fun tt us H8 B8 kp8 T8 u3 um => ?_
      refine gn ?_
      have Fl8 := Fl7.keep B7 kp8 nr.1 nr.2
      try dsimp only
      refine sa1 ?_
      refine te_cnd (K := K) hF rfl rfl B8 Fl8 nr.1 nr.2 fl100 fun cv c H9 B9 kp9 C9 hc9 => ?_
      refine gn ?_
      have Fl9 := Fl8.keep B8 kp9 nr.1 nr.2
      have T8 := T8.mono (fun _ _ z => (kp9.n B8).t z)
      have k09 : Keep a b H H9 := k04.trans (k46.trans (kp7.trans (kp8.trans kp9)))
      have hD9 : H9 D = some (.lst (ts.map V.str)) := (k46.trans (kp7.trans (kp8.trans kp9))) D _ nD.1 nD.2 hD4
      try dsimp only
      refine sa1 ?_
      refine ⟨(by show 0 ≤ sizeLine; decide), fun e0 he0 => ⟨(by show 2 ≤ sizeLine; decide), fun e1 he1 => ?_⟩⟩
      have sa := Same.new (o := .tup []) he0
      have sb := Same.new (o := .tup [.ref e0, .non]) he1
      have sab := sa.trans sb
      have B10 := B9.same sab
      have Fl10 := Fl9.same sab
      have hD10 := sab _ _ hD9
      have C10 := OcAt.mono (fun _ _ z => (KeepN.of sab).t z) C9
      have T10 := T8.mono (fun _ _ z => (KeepN.of sab).t z)
      have k10 := k09.trans (Keep.same sab)
      have E10 : TsAt K (upd (upd H9 e0 (.tup [])) e1 (.tup [.ref e0, .non])) e0 [] := ⟨[], SqT.of (sb _ _ upd_same), .nil⟩
      generalize hH10 : upd (upd H9 e0 (.tup [])) e1 (.tup [.ref e0, .non]) = H10 at B10 Fl10 hD10 C10 T10 E10 k10
      have fin : ∀ (b10 : Addr) (ob : List Tr) (fi : Option Int) (v4 : Option V) (v7 : V) (H' : Hp), HAt H' a b → Keep a b H10 H' → TsAt K H' b10 ob → ob.length ≤ 3 → (∀ t ∈ ob, TmD t) → (tRet (tTup (tCons (tC (V.str (Str.ofString "ask"))) (tCons (tVar 6) (tCons (tVar 8) (tCons (tCB (RK.rTupQ K) (tCons (tVar 3) tNil)) (tCons (tVar 9) (tCons (tVar 10) (tCons (tVar 11) tNil)))))))))
          { nx := fun x H' => Q V.non H', rt := Q } [some (.ref a), some (.ref d), some (.ref g), some (.ref D), v4, some (.ref r), some (.str how), some v7, some (.ref tt), some cv, some (.ref b10), some (OiV fi)] H' := fun b10 ob fi v4 v7 H' B' k' T' o3 om => by
        have hD' : H' D = some (.lst (ts.map V.str)) := k' D _ nD.1 nD.2 hD10
        refine ⟨_, rfl, _, rfl, _, rfl, D, _, rfl, .inl ⟨SqL.of hD', fun q hq => ?_⟩⟩
        have su := Same.new (o := .tup (ts.map V.str)) hq
        refine ⟨_, rfl, _, rfl, _, rfl, (by show 7 ≤ sizeLine; decide), fun q2 hq2 => ?_⟩
        have sv := Same.new (o := .tup [.str (Str.ofString "ask"), .str how, .ref tt, .ref q, cv, .ref b10, OiV fi]) hq2
        have suv := su.trans sv
        have kn := (k'.n B10).trans (KeepN.of suv)
        exact k q2 _ how us ts c ob fi ((B'.same su).same sv) (k10.trans (k'.trans (Keep.same suv))) ⟨tt, q, cv, b10, SqT.of upd_same, T10.mono (fun _ _ z => kn.t z), SqT.of (sv _ _ upd_same), OcAt.mono (fun _ _ z => kn.t z) C10, T'.mono (fun _ _ z => (KeepN.of suv).t z)⟩ ⟨nhow, u3, o3, um, om, hc9, tsok.1, tsok.2.2.1, fun t mt => sh_names I (tsok.2.2.2 t mt)⟩
      have h1 : H10 e1 = some (.tup [.ref e0, .non]) := by rw [← hH10]; exact upd_same
      dsimp only
      refine ⟨e1, _, rfl, SqT.of h1, rfl, _, _, rfl, gn ⟨_, _, rfl, gn ⟨rfl, ?_⟩⟩⟩
      refine sif ?_
      refine ⟨_, rfl, rfl, _, rfl, ?_⟩
      generalize decide (V.str how = V.str (Str.ofString "pick")) = bz
      cases bz with
      | false => exact iteF (fin e0 [] none _ _ _ B10 (Keep.refl _ _ _) E10 (Nat.zero_le _) (fun _ m => nomatch m))
      | true =>
        refine iteT ?_
        refine sa1 ?_
        refine te_terms (K := K) hF rfl (by decide) (by decide) B10 Fl10 nr.1 nr.2 fl100 (fun Q' kq => ⟨_, rfl, a, b, 4, rfl, by decide, by decide, B10, fun y H11 y0 y4 B11 kp11 => kq _ _ y0 (by omega) B11 kp11⟩) fun tb ob H12 B12 kp12 T12 o3 om => ?_
        refine gn ?_
        refine ⟨_, rfl, a, b, 5, rfl, by decide, by decide, B12, fun y H13 y0 y5 B13 kp13 => ⟨(by show 2 ≤ sizeLine; decide), fun q hq => ?_⟩⟩
        have sq := Same.new (o := .lst [.non, .int y]) hq
        have nq := B13.ne hq
        refine ⟨_, rfl, a, b, 2, rfl, by decide, by decide, B13.same sq, fun u H14 u0 u2 B14 kp14 => ?_⟩
        have hq14 := kp14 q _ nq.1 nq.2 upd_same
        have k1014 : Keep a b H10 H14 := kp12.trans (kp13.trans ((Keep.same sq).trans kp14))
        have T14 := T12.mono (fun _ _ z => ((((kp13.trans ((Keep.same sq).trans kp14))).n B12)).t z)
        have h : u = 0 ∨ u = 1 := by omega
        rcases h with rfl | rfl
        · exact ⟨q, _, _, .non, rfl, rfl, SqL.of hq14, rfl, gn (fin tb ob none _ _ _ B14 k1014 T14 o3 om)⟩
        · exact ⟨q, _, _, .int y, rfl, rfl, SqL.of hq14, rfl, gn (fin tb ob (some y) _ _ _ B14 k1014 T14 o3 om)⟩
end
end K06

set_option linter.all false
set_option maxHeartbeats 4000000
namespace K06
open PySem L2
def words16 : List Str := [Str.ofString "num", Str.ofString "field", Str.ofString "+", Str.ofString "-", Str.ofString "*", Str.ofString "=", Str.ofString "<", Str.ofString ">", Str.ofString "<=", Str.ofString ">=", Str.ofString "not", Str.ofString "and", Str.ofString "or", Str.ofString "ask", Str.ofString "set", Str.ofString "put"]
def words19 : List Str := words16 ++ [Str.ofString "strike", Str.ofString "table", Str.ofString "index"]
def Nx (x : Str) : Prop := GS.Nm x ∧ PyData.strOk x = true ∧ x ≠ GS.sE ∧ x ∉ words19
/-- statements as drawn, and with one name of theirs exchanged -/
def StP (R : Tr → Prop) : Stm → Prop
  | .table n fs => Nx n ∧ (∀ f ∈ fs, Nx f) ∧ fs.length ≤ 4
  | .index n f => Nx n ∧ Nx f
  | .put n ns => Nx n ∧ ns.length ≤ 4
  | .set n ss c => Nx n ∧ ss.length ≤ 4 ∧ (∀ q ∈ ss, Nx q.1 ∧ R q.2) ∧ (∀ t, c = some t → R t)
  | .strike n c => Nx n ∧ (∀ t, c = some t → R t)
  | .ask how ts tabs c ob _ => GS.Nm how ∧ ts.length ≤ 3 ∧ ob.length ≤ 3 ∧ (∀ t ∈ ts, R t) ∧ (∀ t ∈ ob, R t) ∧ (∀ t, c = some t → R t) ∧ tabs ≠ [] ∧ tabs.length ≤ 3 ∧ ∀ t ∈ tabs, Nx t
  | .word w => w ∈ GS.words3
theorem StP.mono {R R' : Tr → Prop} (m : ∀ t, R t → R' t) {S : Stm} (h : StP R S) : StP R' S := by
  cases S with
  | table n fs => exact h
  | index n f => exact h
  | put n ns => exact h
  | set n ss c => exact ⟨h.1, h.2.1, fun q mq => ⟨(h.2.2.1 q mq).1, m _ (h.2.2.1 q mq).2⟩, fun t e => m _ (h.2.2.2 t e)⟩
  | strike n c => exact ⟨h.1, fun t e => m _ (h.2 t e)⟩
  | ask how ts tabs c ob fi => obtain ⟨a0, a, b, x, y, z, r⟩ := h; exact ⟨a0, a, b, fun t mt => m _ (x t mt), fun t mt => m _ (y t mt), fun t e => m _ (z t e), r⟩
  | word w => exact h
theorem nx_tab : ∀ x ∈ K06.tabs, Nx x := by
  intro x m
  exact ⟨(show ∀ x ∈ K06.tabs, GS.Nm x by decide +kernel) x m, (show ∀ x ∈ K06.tabs, PyData.strOk x = true ∧ x ≠ GS.sE ∧ x ∉ words19 by decide +kernel) x m⟩
theorem nx_fld : ∀ x ∈ flds, Nx x := by
  intro x m
  exact ⟨(show ∀ x ∈ flds, GS.Nm x by decide +kernel) x m, (show ∀ x ∈ flds, PyData.strOk x = true ∧ x ≠ GS.sE ∧ x ∉ words19 by decide +kernel) x m⟩
def spStm (K : PySem.W.Frag) : Sp := fun vs H Q _ => ∃ (a b d : Addr) (sh : List (Str × List Str)), vs = [.ref a, .ref d] ∧ HAt H a b ∧ ShapesAt K H d sh ∧ IsShapes sh ∧ 1 ≤ sh.length ∧
  ∀ (p : Addr) (H' : Hp) (S : Stm), HAt H' a b → Keep a b H H' → SmAt K H' p S → StP TmD S → Q (.ref p) H'
theorem vI {a b : Int} : decide (V.int a = V.int b) = decide (a = b) := decide_eq_decide.mpr ⟨fun z => by injection z, fun z => by rw [z]⟩
section
variable {P : Program} {w : World} {K : PySem.W.Frag} {mg : Str → Option Value} {base : Heap}
theorem scSt : FnScope ["_law_h", "_law_shapes_here", "_law_way", "_law_table", "_law_fields", "_law_cond_here", "_law_field", "_law_names", "_law_some_here", "_law_k"] ["_law_h", "_law_shapes_here"] (defScope sLstatement) := ⟨rfl, rfl, rfl, by decide +kernel, rfl, by decide +kernel, by decide +kernel⟩
theorem ok_stm {n : Nat} {f fn fs ft fc fa fu : Addr} {fd fdn fds fdt fdc fda fdu : FuncData} (F : Fun K "_law_statement" "_law_statement" sLstatement f fd) (T : Txt6 mg) (Cnext : Cal P w K mg base n "_law_next" ["_law_h", "_law_many"] spNext fn fdn) (Cnumber : Cal P w K mg base n "_law_number" ["_law_h"] spNumber fu fdu)
    (Csome : Cal P w K mg base n "_law_some" ["_law_h", "_law_shapes_here", "_law_tables"] (spSome K) fs fds) (Cterm : Cal P w K mg base n "_law_term" ["_law_h", "_law_fields", "_law_deep"] (spTerm K 3) ft fdt)
    (Ccond : Cal P w K mg base n "_law_cond" ["_law_h", "_law_fields", "_law_deep"] (spCond K 4) fc fdc) (Cask : Cal P w K mg base n "_law_ask" ["_law_h", "_law_shapes_here"] (spAsk K) fa fda) : FnOk P w K mg base CX0 (n + 1) f fd ["_law_h", "_law_shapes_here"] (spStm K) := by
  refine F.ok scSt (fun vs H Q E h => ?_) (fun cdv A outer s H vs Q E hr h => ?_)
  · obtain ⟨a, b, d, sh, rfl, _⟩ := h
    rfl
  · obtain ⟨a, b, d, sh, rfl, B, S, I, l1, k⟩ := h
    have hr1 : Room n _ := hr
    refine ⟨_, (pss_cons (ps_par (i := 2) (j := 3) (by rfl) scSt.nd rfl rfl (by decide) rfl rfl (pa_cons (pe_call Cnext.G hr1 (by rfl) Cnext.g Cnext.kp Cnext.b .nil pass0 (pa_cons (pv 0) (pa_cons pe_int pa_nil))) (pa_cons (pe_ix (RK.ixL (K := K)) (pe_callB (call_sortedD rfl) (by rfl) T.sorted (by decide +kernel) (pa_cons (pv 1) pa_nil)) (pe_call Cnext.G hr1 (by rfl) Cnext.g Cnext.kp Cnext.b .nil pass0 (pa_cons (pv 0) (pa_cons (pe_callB call_lenD (by rfl) T.len PySem.boot_len (pa_cons (pv 1) pa_nil)) pa_nil))) (fun _ _ => rfl)) pa_nil)) (by rfl))
      (pss_cons (ps_set (i := 4) scSt.nd rfl (Or.inr rfl) (pe_call Csome.G hr1 (by rfl) Csome.g Csome.kp Csome.b .nil pass0 (pa_cons (pv 0) (pa_cons (pv 1) (pa_cons (pe_lst (pa_cons (pv 3) pa_nil)) pa_nil)))))
      (pss_cons (ps_set (i := 5) scSt.nd rfl (Or.inl rfl) (pe_ifExp (pt_cmpR op_gt (pe_call Cnext.G hr1 (by rfl) Cnext.g Cnext.kp Cnext.b .nil pass0 (pa_cons (pv 0) (pa_cons pe_int pa_nil))) pe_int (nomark _)) (pe_call Ccond.G hr1 (by rfl) Ccond.g Ccond.kp Ccond.b .nil pass0 (pa_cons (pv 0) (pa_cons (pv 4) (pa_cons pe_int pa_nil)))) pe_non))
      (pss_cons (ps_if (pt_cmpR op_lt (pv 2) pe_int (nomark _)) (pss_one (ps_ret (pe_call Cask.G hr1 (by rfl) Cask.g Cask.kp Cask.b .nil pass0 (pa_cons (pv 0) (pa_cons (pv 1) pa_nil))))) pss_nil)
      (pss_cons (ps_if (pt_cmpR op_lt (pv 2) pe_int (nomark _)) (pss_one (ps_ret (pe_tup (pa_cons pe_str (pa_cons (pv 3) (pa_cons (pe_callTy (RK.tupQ (K := K)) (by rfl) T.tuple (by decide +kernel) (pa_cons (pe_lc (own := [("_law_field", 6)]) rfl scSt.nd (RK.piT (K := K) (pe_dget (hu_of hr) (pv 1) (pv 3) (fun _ _ => rfl))) (blkOk_by (N := ["_law_h", "_law_shapes_here", "_law_way", "_law_table", "_law_fields", "_law_cond_here", "_law_field", "_law_names", "_law_some_here", "_law_k"]) (sc := defScope sLstatement) (by decide +kernel)) (fun _ _ _ _ _ => (pg_name (i := 6) scSt.nd rfl (Or.inl rfl))) (fun _ _ _ _ _ => pts_nil) (fun _ _ _ _ _ => (pe_call Cnumber.G hr1 (by rfl) Cnumber.g Cnumber.kp Cnumber.b .nil pass0 (pa_cons (pv 0) pa_nil)))) pa_nil)) pa_nil)))))) pss_nil)
      (pss_cons (ps_if (PW.pt (pw_and (pt_cmpR op_eq (pv 2) pe_int (nomark _)) (pw_and1 (pt_cmpR op_gt (pe_callB (RK.lenQ (K := K)) (by rfl) T.len PySem.boot_len (pa_cons (pe_dget (hu_of hr) (pv 1) (pv 3) (fun _ _ => rfl)) pa_nil)) pe_int (nomark _))))) (pss_cons (ps_set (i := 7) scSt.nd rfl (Or.inr rfl) (pe_callTy (RK.listQ (K := K)) (by rfl) T.list (by decide +kernel) (pa_cons (pe_slice (RK.slT (K := K)) (pe_dget (hu_of hr) (pv 1) (pv 3) (fun _ _ => rfl)) (po_some pe_int) po_none) pa_nil)))
        (pss_cons (ps_setLc (i := 8) (own := [("_law_k", 9)]) rfl scSt.nd rfl rfl (sw_true rfl rfl rfl (by decide +kernel)) (pi_range1 rfl T.range (pa_cons (pe_op op_add pe_int (pe_call Cnext.G hr1 (by rfl) Cnext.g Cnext.kp Cnext.b .nil pass0 (pa_cons (pv 0) (pa_cons (pe_callB (RK.lenQ (K := K)) (by rfl) T.len PySem.boot_len (pa_cons (pv 7) pa_nil)) pa_nil)))) pa_nil)) (blkOk_by (N := ["_law_h", "_law_shapes_here", "_law_way", "_law_table", "_law_fields", "_law_cond_here", "_law_field", "_law_names", "_law_some_here", "_law_k"]) (sc := defScope sLstatement) (by decide +kernel)) (fun _ _ _ _ _ => (pg_name (i := 9) scSt.nd rfl (Or.inl rfl))) (fun _ _ _ _ _ => pts_nil) (fun _ _ _ _ _ => (RK.bm (K := K) PySem.F.plainAttrs_list PySem.F.slot_list_pop PySem.F.type_list_pop mt_popAt (pv 7) (pa_cons (pe_call Cnext.G hr1 (by rfl) Cnext.g Cnext.kp Cnext.b .nil pass0 (pa_cons (pv 0) (pa_cons (pe_callB (RK.lenQ (K := K)) (by rfl) T.len PySem.boot_len (pa_cons (pv 7) pa_nil)) pa_nil))) pa_nil))))
        (pss_one (ps_ret (pe_tup (pa_cons pe_str (pa_cons (pv 3) (pa_cons (pe_callTy (RK.tupQ (K := K)) (by rfl) T.tuple (by decide +kernel) (pa_cons (pe_lc (own := [("_law_field", 6)]) rfl scSt.nd (RK.piL (K := K) (pv 8)) (blkOk_by (N := ["_law_h", "_law_shapes_here", "_law_way", "_law_table", "_law_fields", "_law_cond_here", "_law_field", "_law_names", "_law_some_here", "_law_k"]) (sc := defScope sLstatement) (by decide +kernel)) (fun _ _ _ _ _ => (pg_name (i := 6) scSt.nd rfl (Or.inl rfl))) (fun _ _ _ _ _ => pts_nil) (fun _ _ _ _ _ => (pe_tup (pa_cons (pv 6) (pa_cons (pe_call Cterm.G hr1 (by rfl) Cterm.g Cterm.kp Cterm.b .nil pass0 (pa_cons (pv 0) (pa_cons (pv 4) (pa_cons pe_int pa_nil)))) pa_nil))))) pa_nil)) (pa_cons (pv 5) pa_nil))))))))) pss_nil)
      (pss_cons (ps_if (pt_cmpR op_eq (pv 2) pe_int (nomark _)) (pss_one (ps_ret (pe_tup (pa_cons pe_str (pa_cons (pv 3) (pa_cons (pv 5) pa_nil)))))) pss_nil)
      (pss_cons (ps_if (pt_cmpR op_eq (pv 2) pe_int (nomark _)) (pss_one (ps_ret (pe_ix (RK.ixL (K := K)) (pe_lst (pa_cons (pe_tup (pa_cons pe_str pa_nil)) (pa_cons (pe_tup (pa_cons pe_str pa_nil)) (pa_cons (pe_tup (pa_cons pe_str pa_nil)) pa_nil)))) (pe_call Cnext.G hr1 (by rfl) Cnext.g Cnext.kp Cnext.b .nil pass0 (pa_cons (pv 0) (pa_cons pe_int pa_nil))) (fun _ _ => rfl)))) pss_nil)
      (pss_one (ps_ret (pe_ix (RK.ixL (K := K)) (pe_lst (pa_cons (pe_tup (pa_cons pe_str (pa_cons pe_str (pa_cons (pe_tup (pa_cons pe_str (pa_cons pe_str pa_nil))) pa_nil)))) (pa_cons (pe_tup (pa_cons pe_str (pa_cons (pv 3) (pa_cons pe_str pa_nil)))) pa_nil))) (pe_call Cnext.G hr1 (by rfl) Cnext.g Cnext.kp Cnext.b .nil pass0 (pa_cons (pv 0) (pa_cons pe_int pa_nil))) (fun _ _ => rfl)))))))))))), ?_⟩

    refine ⟨_, rfl, a, b, 9, rfl, by decide, by decide, B, fun way H1 w0 w9 B1 kp1 => ?_⟩
    have S1 := S.keep (kp1.n B)
    obtain ⟨kvs, hd, pr⟩ := id S1
    have n64 : (sh.map (·.1)).length < 64 := by rw [List.length_map]; have := I.few; omega
    have lk := pr_len pr
    have i3 := I.few
    refine ⟨_, rfl, d, kvs, sh.map (·.1), rfl, Rd.of hd, pr_keys pr, n64, fun ys g perm _ hg => ?_⟩
    have s2 := Same.new (o := .lst (ys.map V.str)) hg
    have B2 := B1.same s2
    have ng := B1.ne hg
    have lys : ys.length = sh.length := by rw [perm.length_eq, List.length_map]
    refine ⟨_, rfl, _, rfl, d, kvs, rfl, s2 _ _ hd, a, b, _, rfl, by omega, by omega, B2, fun z H3 z0 z1 B3 kp3 => ?_⟩
    have hz : z.toNat < ys.length := by omega
    have hg3 := kp3 g _ ng.1 ng.2 upd_same
    obtain ⟨t, et⟩ : ∃ t, ys[z.toNat]? = some t := ⟨_, List.getElem?_eq_getElem hz⟩
    have mt : t ∈ sh.map (·.1) := perm.mem_iff.mp (List.mem_of_getElem? et)
    refine ⟨g, _, z, .str t, rfl, rfl, SqL.of hg3, atI_of z0 (by rw [List.getElem?_map, et]; rfl), _, _, rfl, ?_⟩
    have kp13 : Keep a b H H3 := kp1.trans ((Keep.same s2).trans kp3)
    have S3 := S.keep (kp13.n B)
    refine GS.at_stD (σ' := [some (.ref a), some (.ref d), some (.int way), some (.str t), none, none, none, none, none, none]) rfl ?_
    generalize hH3 : H3 = G at B3 kp13 S3 ⊢
    subst hH3
    clear hg3 kp3 B2 s2 hg ng
    obtain ⟨fs, m, lf, m1, m4, efs⟩ := sh_look I mt
    have mtab := sh_names I mt
    have hN : FlNm (flOf sh [t]) := fun q mq => by
      obtain ⟨t', mt', mq2⟩ := List.mem_flatMap.mp mq
      rw [List.mem_singleton.mp mt', lf] at mq2
      obtain ⟨f', mf, rfl⟩ := List.mem_map.mp mq2
      exact ⟨⟨(nx_tab _ mtab).1, (nx_fld _ (List.mem_of_mem_take (efs ▸ mf))).1, (nx_fld _ (List.mem_of_mem_take (efs ▸ mf))).2.2.1⟩, (nx_tab _ mtab).2.2.1, (nx_tab _ mtab).2.1⟩
    have hO : FlOk (flOf sh [t]) := fun q mq => by
      obtain ⟨t', mt', mq2⟩ := List.mem_flatMap.mp mq
      rw [List.mem_singleton.mp mt', lf] at mq2
      obtain ⟨f', mf, rfl⟩ := List.mem_map.mp mq2
      exact ⟨(nx_tab _ mtab).2.1, (nx_fld _ (List.mem_of_mem_take (efs ▸ mf))).2.1⟩
    try dsimp only
    refine sa1 ⟨_, rfl, _, rfl, _, rfl, by show 1 ≤ sizeLine; decide, fun l hl => ?_⟩
    have sl := Same.new (o := .lst [.str t]) hl
    refine ⟨_, d, l, sh, [t], rfl, S3.keep (KeepN.of sl), SqL.of upd_same, fun t' mt' => ?_, by show 1 ≤ 3; decide, hO, fun r H4 s4 r0 Fl lfl => gn ?_⟩
    · rw [List.mem_singleton.mp mt']
      exact ⟨fs, lf, by rw [efs, List.length_take]; show min m 4 ≤ 4; omega⟩
    have sl4 := sl.trans s4
    have B4 := B3.same sl4
    have nr := (B3.same sl).ne r0
    have kp4 : Keep a b H H4 := kp13.trans (Keep.same sl4)
    have fl100 : (flOf sh [t]).length ≤ 100 := by omega
    try dsimp only
    refine sa1 ?_
    refine te_cndj (j := 4) (K := K) hN rfl rfl B4 Fl nr.1 nr.2 fl100 fun cv c H5 B5 kp5 hc5 cd => gn ?_
    have kp05 := kp4.trans kp5
    have S5 := S.keep (kp05.n B)
    have Fl5 := Fl.keep B4 kp5 nr.1 nr.2
    refine GS.at_stD (σ' := [some (.ref a), some (.ref d), some (.int way), some (.str t), some (.ref r), some cv, none, none, none, none]) rfl ?_
    generalize hH5 : H5 = G at B5 kp05 S5 Fl5 hc5 ⊢
    subst hH5
    have nr5 := nr
    clear kp5 kp4 sl4 B4 Fl
    have bcd : CdD c := cd
    obtain ⟨u, gu, hu⟩ := GS.sh_get S5 mt
    have efl : flds1 sh t = fs := by unfold flds1; rw [lf]; rfl
    rw [efl] at hu
    have lfs : fs.length ≤ 4 := by rw [efs, List.length_take]; show min m 4 ≤ 4; omega
    have nxt := nx_tab _ mtab
    have nxf : ∀ f ∈ fs, Nx f := fun f mf => nx_fld _ (List.mem_of_mem_take (efs ▸ mf))
    refine sif ⟨_, rfl, _, _, rfl, rfl, _, rfl, ?_⟩
    by_cases c1 : way < 3
    · rw [decide_eq_true c1]
      exact iteT ⟨_, rfl, _, rfl, a, b, d, sh, rfl, B5, S5, I, l1, fun p H' how ts tb c' ob fi B' kp' sm ad => k p H' _ B' (kp05.trans kp') sm ⟨ad.hw, ad.t3, ad.o3, ad.tm, ad.om, ad.cd, ad.b0, ad.b3, fun x mx => nx_tab _ (ad.bm x mx)⟩⟩
    rw [decide_eq_false c1]
    refine iteF ?_
    dsimp only [tNext]
    refine sif ⟨_, rfl, _, _, rfl, rfl, _, rfl, ?_⟩
    by_cases c2 : way < 5
    · rw [decide_eq_true c2]
      refine iteT ⟨_, rfl, _, rfl, _, rfl, d, .ref u, rfl, gu, u, rfl, ⟨_, hu⟩, fun D hD => ?_⟩
      have nD := B5.ne hD
      refine lc_tup (K := K) (a := u) (xs := fs.map V.str) (fun i H' => HAt H' a b ∧ Keep a b H5 H' ∧ ∃ ns : List Int, H' D = some (.lst (ns.map V.int)) ∧ ns.length = i)
        ⟨B5.upd nD, Keep.same (Same.new hD), [], upd_same, rfl⟩ (fun j H2 _ ⟨_, s2, _⟩ => (s2.n B5).t hu) ?_ ?_
      · rintro i x H' hi ⟨B', k', ns, hd', ln⟩
        have li : i < fs.length := by have q := (List.getElem?_eq_some_iff.mp hi).1; rw [List.length_map] at q; exact q
        refine ⟨rfl, _, rfl, a, b, rfl, B', fun r H6 _ _ B6 k6 => ?_⟩
        have hd6 := k6 D _ nD.1 nD.2 hd'
        refine ⟨ns.map V.int, hd6, Nat.lt_of_le_of_lt (show (ns.map V.int).length ≤ 4 by rw [List.length_map]; omega) (by decide), B6.upd nD, fun x o n1 n2 e => ?_, ns ++ [r], by rw [upd_same, List.map_append]; rfl, by rw [List.length_append, ln]; rfl⟩
        rw [upd_ne (ne_of_none e hD)]
        exact (k'.trans k6) _ _ n1 n2 e
      · rintro H' ⟨B', k', ns, hd', ln⟩
        rw [List.length_map] at ln
        refine ⟨D, _, rfl, .inl ⟨SqL.of hd', fun q hq => ⟨by show 3 ≤ sizeLine; decide, fun y hy => ?_⟩⟩⟩
        have sa := Same.new (o := .tup (ns.map V.int)) hq
        have sb := Same.new (o := .tup [.str (Str.ofString "put"), .str t, .ref q]) hy
        exact k y _ (.put t ns) (B'.same (sa.trans sb)) (kp05.trans (k'.trans (Keep.same (sa.trans sb)))) ⟨q, SqT.of upd_same, SqT.of (sb _ _ upd_same)⟩ ⟨nxt, by omega⟩
    rw [decide_eq_false c2]
    refine iteF ?_
    dsimp only [tNext]
    have rest : tSeq
        (tIfS (tTest (tOp rEq (tVar 2) (tC (V.int 6))))
          (tRet (tTup (tCons (tC (V.str (Str.ofString "strike"))) (tCons (tVar 3) (tCons (tVar 5) tNil))))) tNext)
        (tSeq
          (tIfS (tTest (tOp rEq (tVar 2) (tC (V.int 7))))
            (tRet
              (tOp (rIxL K)
                (tLst
                  (tCons (tTup (tCons (tC (V.str (Str.ofString "begin"))) tNil))
                    (tCons (tTup (tCons (tC (V.str (Str.ofString "done"))) tNil))
                      (tCons (tTup (tCons (tC (V.str (Str.ofString "undo"))) tNil)) tNil))))
                (tCall spNext [] E0 (tCons (tVar 0) (tCons (tC (V.int 3)) tNil)))))
            tNext)
          (tRet
            (tOp (rIxL K)
              (tLst
                (tCons
                  (tTup
                    (tCons (tC (V.str (Str.ofString "table")))
                      (tCons (tC (V.str (Str.ofString "td")))
                        (tCons
                          (tTup (tCons (tC (V.str (Str.ofString "k"))) (tCons (tC (V.str (Str.ofString "x"))) tNil)))
                          tNil))))
                  (tCons
                    (tTup
                      (tCons (tC (V.str (Str.ofString "index")))
                        (tCons (tVar 3) (tCons (tC (V.str (Str.ofString "x"))) tNil))))
                    tNil)))
              (tCall spNext [] E0 (tCons (tVar 0) (tCons (tC (V.int 2)) tNil))))))
        { nx := fun x H' => Q V.non H', rt := Q }
        [some (V.ref a), some (V.ref d), some (V.int way), some (V.str t), some (V.ref r), some cv, none, none, none, none] H5 := by
      refine sif ⟨_, rfl, rfl, _, rfl, ?_⟩
      rw [vI]
      by_cases c6 : way = 6
      · rw [decide_eq_true c6]
        refine iteT ⟨_, rfl, _, rfl, by show 3 ≤ sizeLine; decide, fun y hy => ?_⟩
        have sb := Same.new (o := .tup [.str (Str.ofString "strike"), .str t, cv]) hy
        exact k y _ (.strike t c) (B5.same sb) (kp05.trans (Keep.same sb)) ⟨cv, SqT.of upd_same, OcAt.mono (fun _ _ z => (KeepN.of sb).t z) hc5⟩ ⟨nxt, bcd⟩
      rw [decide_eq_false c6]
      refine iteF ?_
      dsimp only [tNext]
      refine sif ⟨_, rfl, rfl, _, rfl, ?_⟩
      rw [vI]
      by_cases c7 : way = 7
      · rw [decide_eq_true c7]
        refine iteT ⟨by show 1 ≤ sizeLine; decide, fun p1 h1 => ⟨by show 1 ≤ sizeLine; decide, fun p2 h2 => ⟨by show 1 ≤ sizeLine; decide, fun p3 h3 => ⟨by show 3 ≤ sizeLine; decide, fun l hl => ?_⟩⟩⟩⟩
        have sa := Same.new (o := .tup [.str (Str.ofString "begin")]) h1
        have sb := Same.new (o := .tup [.str (Str.ofString "done")]) h2
        have sc := Same.new (o := .tup [.str (Str.ofString "undo")]) h3
        have sd := Same.new (o := .lst [.ref p1, .ref p2, .ref p3]) hl
        have B6 := B5.same (sa.trans (sb.trans (sc.trans sd)))
        have nl := (B5.same (sa.trans (sb.trans sc))).ne hl
        refine ⟨_, rfl, a, b, 3, rfl, by decide, by decide, B6, fun z H7 z0 z3 B7 k7 => ?_⟩
        have kk : Keep a b H H7 := kp05.trans ((Keep.same (sa.trans (sb.trans (sc.trans sd)))).trans k7)
        have hl7 := k7 l _ nl.1 nl.2 upd_same
        have kn := k7.n B6
        have h : z = 0 ∨ z = 1 ∨ z = 2 := by omega
        rcases h with rfl | rfl | rfl
        · exact ⟨l, _, _, .ref p1, rfl, rfl, SqL.of hl7, rfl, k p1 _ (.word (Str.ofString "begin")) B7 kk (kn.t (SqT.of ((sb.trans (sc.trans sd)) _ _ upd_same))) (by show _ ∈ GS.words3; decide +kernel)⟩
        · exact ⟨l, _, _, .ref p2, rfl, rfl, SqL.of hl7, rfl, k p2 _ (.word (Str.ofString "done")) B7 kk (kn.t (SqT.of ((sc.trans sd) _ _ upd_same))) (by show _ ∈ GS.words3; decide +kernel)⟩
        · exact ⟨l, _, _, .ref p3, rfl, rfl, SqL.of hl7, rfl, k p3 _ (.word (Str.ofString "undo")) B7 kk (kn.t (SqT.of (sd _ _ upd_same))) (by show _ ∈ GS.words3; decide +kernel)⟩
      rw [decide_eq_false c7]
      refine iteF ?_
      dsimp only [tNext]
      refine ⟨by show 2 ≤ sizeLine; decide, fun p1 h1 => ⟨by show 3 ≤ sizeLine; decide, fun p2 h2 => ⟨_, rfl, by show 3 ≤ sizeLine; decide, fun p3 h3 => ⟨by show 2 ≤ sizeLine; decide, fun l hl => ?_⟩⟩⟩⟩
      have sa := Same.new (o := .tup [.str (Str.ofString "k"), .str (Str.ofString "x")]) h1
      have sb := Same.new (o := .tup [.str (Str.ofString "table"), .str (Str.ofString "td"), .ref p1]) h2
      have sc := Same.new (o := .tup [.str (Str.ofString "index"), .str t, .str (Str.ofString "x")]) h3
      have sd := Same.new (o := .lst [.ref p2, .ref p3]) hl
      have B6 := B5.same (sa.trans (sb.trans (sc.trans sd)))
      have nl := (B5.same (sa.trans (sb.trans sc))).ne hl
      refine ⟨_, rfl, a, b, 2, rfl, by decide, by decide, B6, fun z H7 z0 z3 B7 k7 => ?_⟩
      have kk : Keep a b H H7 := kp05.trans ((Keep.same (sa.trans (sb.trans (sc.trans sd)))).trans k7)
      have hl7 := k7 l _ nl.1 nl.2 upd_same
      have kn := k7.n B6
      have h : z = 0 ∨ z = 1 := by omega
      rcases h with rfl | rfl
      · refine ⟨l, _, _, .ref p2, rfl, rfl, SqL.of hl7, rfl, k p2 _ (.table (Str.ofString "td") [Str.ofString "k", Str.ofString "x"]) B7 kk ⟨p1, kn.t (SqT.of ((sc.trans sd) _ _ upd_same)), kn.t (SqT.of ((sb.trans (sc.trans sd)) _ _ upd_same))⟩ ?_⟩
        refine ⟨⟨by decide +kernel, by decide +kernel, by decide +kernel, by decide +kernel⟩, fun f mf => nx_fld f ?_, by show 2 ≤ 4; decide⟩
        exact (show ∀ f ∈ [Str.ofString "k", Str.ofString "x"], f ∈ flds by decide +kernel) f mf
      · exact ⟨l, _, _, .ref p3, rfl, rfl, SqL.of hl7, rfl, k p3 _ (.index t (Str.ofString "x")) B7 kk (kn.t (SqT.of (sd _ _ upd_same))) ⟨nxt, nx_fld _ (by decide +kernel)⟩⟩
    refine sif ⟨_, rfl, rfl, _, rfl, ?_⟩
    rw [vI]
    by_cases c5 : way = 5
    · rw [decide_eq_true c5]
      refine iteT ⟨_, rfl, _, rfl, d, .ref u, rfl, gu, u, _, rfl, .inr hu, _, _, rfl, rfl, _, rfl, ?_⟩
      rw [List.length_map]
      by_cases c4 : (1 : Int) < (fs.length : Nat)
      · rw [decide_eq_true c4]
        refine iteT ?_
        have l4 : 1 < fs.length := by omega
        refine sa1 ⟨_, rfl, _, rfl, d, .ref u, rfl, gu, 1, rfl, u, _, rfl, hu, fun z => ?_, fun _ pp hpp => ?_⟩
        · have e1 : HT.sIx (fs.map V.str).length 0 (some ((1 : Nat) : Int)) = min 1 (fs.map V.str).length := HT.sIx_nat _ 0 1
          have e2 := z.1
          rw [show (some (1 : Int)) = some ((1 : Nat) : Int) from rfl, e1, List.length_map] at e2
          omega
        have ecut : cutV (fs.map V.str) (some (1 : Int)) none = fs.tail.map V.str := by
          unfold cutV
          rw [show (some (1 : Int)) = some ((1 : Nat) : Int) from rfl, HT.sIx_nat, HT.sIx_none, List.length_map, Nat.min_eq_left (by omega), List.take_of_length_le (by rw [List.length_drop, List.length_map]; omega), List.drop_one, List.map_tail]
        rw [ecut]
        refine ⟨pp, _, rfl, .inr (SqT.of upd_same), fun g hg => gn ?_⟩
        have sp := Same.new (o := .tup (fs.tail.map V.str)) hpp
        have sg := Same.new (o := .lst (fs.tail.map V.str)) hg
        have s6 := sp.trans sg
        have B6 := B5.same s6
        have ng := (B5.same sp).ne hg
        have g0 : H5 g = none := by
          cases e : H5 g with
          | none => rfl
          | some o => rw [sp _ _ e] at hg; cases hg
        have S6 := S5.keep (KeepN.of s6)
        have Fl6 := Fl5.same s6
        have hc6 := OcAt.mono (fun _ _ z => (KeepN.of s6).t z) hc5
        have eg : (upd (upd H5 pp (.tup (fs.tail.map V.str))) g (.lst (fs.tail.map V.str))) g = some (.lst (fs.tail.map V.str)) := upd_same
        generalize upd (upd H5 pp (.tup (fs.tail.map V.str))) g (.lst (fs.tail.map V.str)) = H6 at s6 B6 S6 Fl6 hc6 eg ⊢
        clear sp sg hg
        have kp06 : Keep a b H5 H6 := Keep.same s6
        generalize hys : fs.tail = ys at eg
        have lys : ys.length ≤ 3 ∧ 1 ≤ ys.length := by rw [← hys, List.length_tail]; omega
        have mys : ∀ f ∈ ys, Nx f := fun f mf => nxf f (List.mem_of_mem_tail (by rw [hys]; exact mf))
        have lt : (ys.map V.str).length = ys.length := List.length_map ..
        try dsimp only
        refine sa1 ?_
        refine ⟨_, rfl, _, rfl, g, _, rfl, .inl (SqL.of eg), a, b, _, rfl, by omega, by omega, B6, fun mm H7 m0 m1' B7 kp7 => ⟨_, _, rfl, rfl, _, rfl, by omega, by omega, fun D hD => ?_⟩⟩
        have kp57 : Keep a b H5 H7 := kp06.trans kp7
        have hg7 : H7 g = some (.lst (ys.map V.str)) := kp7 g _ ng.1 ng.2 eg
        have nD := B7.ne hD
        have ngD : g ≠ D := ne_of_none hg7 hD
        have hD0 : H5 D = none := by
          cases e : H5 D with
          | none => rfl
          | some o => rw [kp57 _ _ nD.1 nD.2 e] at hD; cases hD
        refine lc_range (lo := 0) (n := (1 + mm).toNat) (fun i H' => HAt H' a b ∧ Keep a b H5 H' ∧ ∃ (ns ts : List Str), H' g = some (.lst (ns.map V.str)) ∧ H' D = some (.lst (ts.map V.str)) ∧ ts.length = i ∧ (ns ++ ts).Perm ys)
          ⟨B7.upd nD, fun x o n1 n2 e => by rw [upd_ne (ne_of_none e hD0)]; exact kp57 x o n1 n2 e, ys, [], by rw [upd_ne ngD]; exact hg7, upd_same, rfl, by rw [List.append_nil]⟩ ?_ ?_
        · rintro i H3 hi ⟨B3, k3, ns, ts, hg3, hD3, li, pm⟩
          have lns : ns.length + i = ys.length := by have q := pm.length_eq; rw [List.length_append, li] at q; exact q
          have lnm : (ns.map V.str).length = ns.length := List.length_map ..
          refine ⟨rfl, _, rfl, .inl ⟨rfl, _, SqL.of hg3⟩, _, rfl, _, rfl, g, _, rfl, .inl (SqL.of hg3), a, b, _, rfl, by omega, by omega, B3, fun z H4 z0 z1 B4 kp4 => ?_⟩
          have hz : z.toNat < ns.length := by omega
          have hg4 := kp4 g _ ng.1 ng.2 hg3
          have hD4 := kp4 D _ nD.1 nD.2 hD3
          have ez : (ns.map V.str).eraseIdx z.toNat = (ns.eraseIdx z.toNat).map V.str := map_erase _ _ _
          refine ⟨g, _, z, z.toNat, .str ns[z.toNat], rfl, rfl, hg4, by omega, by omega, ?_, by rw [List.getElem?_map, List.getElem?_eq_getElem hz]; rfl, ?_⟩
          · simp only [seqIndex?]
            rw [if_neg (by omega : ¬ z < 0), if_pos]
            rw [Bool.and_eq_true]
            exact ⟨decide_eq_true z0, decide_eq_true (by omega)⟩
          · refine ⟨ts.map V.str, by rw [upd_ne ngD.symm]; exact hD4, Nat.lt_of_le_of_lt (show (ts.map V.str).length ≤ 3 by rw [List.length_map]; omega) (by decide), (B4.upd ng).upd nD, fun x o n1 n2 e => ?_, ns.eraseIdx z.toNat, ts ++ [ns[z.toNat]], ?_, ?_, ?_, ?_⟩
            · rw [upd_ne (ne_of_none e hD0), upd_ne (ne_of_none e g0)]
              exact (k3.trans kp4) x o n1 n2 e
            · rw [upd_ne ngD, upd_same, ez]
            · rw [upd_same, List.map_append]; rfl
            · rw [List.length_append, li]; rfl
            · have p1 := perm_erase ns z.toNat hz
              refine List.Perm.trans ?_ pm
              rw [← List.append_assoc]
              refine List.perm_append_comm.trans ?_
              show (ns[z.toNat] :: (ns.eraseIdx z.toNat ++ ts)).Perm (ns ++ ts)
              exact List.Perm.append_right ts p1
        · rintro H3 ⟨B3, k3, ns, ts, hg3, hD3, li, pm⟩
          refine gn ?_
          have mts : ∀ f ∈ ts, Nx f := fun f mf => mys f (pm.mem_iff.mp (List.mem_append_right _ mf))
          have lts : ts.length ≤ 3 := by have q := pm.length_eq; rw [List.length_append] at q; omega
          have Fl3 := Fl5.keep B5 k3 nr5.1 nr5.2
          have hc3 := OcAt.mono (fun _ _ z => (k3.n B5).t z) hc5
          refine GS.at_stD (σ' := [some (.ref a), some (.ref d), some (.int way), some (.str t), some (.ref r), some cv, none, some (.ref g), some (.ref D), none]) rfl ?_
          refine ⟨_, rfl, _, rfl, D, rfl, ⟨_, SqL.of hD3⟩, fun D2 hD2 => ?_⟩
          have nD2 := B3.ne hD2
          have ts2 := ts
          refine lc_list (K := K) (a := D) (xs := ts.map V.str) (fun i H' => HAt H' a b ∧ Keep a b H3 H' ∧ ∃ (vs : List V) (ss : List (Str × Tr)), H' D2 = some (.lst vs) ∧ Paired (SeAt K H') vs ss ∧ ss.length = i ∧ ∀ q ∈ ss, Nx q.1 ∧ TmD q.2)
            ⟨B3.upd nD2, Keep.same (Same.new hD2), [], [], upd_same, .nil, rfl, fun _ m => nomatch m⟩ (fun i H' _ ⟨_, k', _⟩ => SqL.of (k' D _ nD.1 nD.2 hD3)) ?_ ?_
          · rintro i y H' hi ⟨B', k', vs, ss, hd', pw, ls, mss⟩
            obtain ⟨f, ef, rfl⟩ := GS.mapAt hi
            have li2 : i < ts.length := (List.getElem?_eq_some_iff.mp ef).1
            refine ⟨rfl, _, rfl, _, rfl, _, rfl, a, b, r, _, 2, rfl, by decide, by decide, B', Fl3.keep B3 k' nr5.1 nr5.2, nr5.1, nr5.2, fl100, fun v' t' H8 B8 k8 T8 I8 d8 => ⟨by show 2 ≤ sizeLine; decide, fun q hq => ?_⟩⟩
            have sq := Same.new (o := .tup [.str f, v']) hq
            have hd8 := sq _ _ (k8 D2 _ nD2.1 nD2.2 hd')
            have kb := KeepN.lst (ys := vs ++ [V.ref q]) hd8
            refine ⟨vs, hd8, Nat.lt_of_le_of_lt (show vs.length ≤ 4 by have := Paired.length pw; omega) (by decide), (B8.same sq).upd nD2, fun x o n1 n2 e => ?_, vs ++ [.ref q], ss ++ [(f, t')], upd_same, ?_, by rw [List.length_append, ls]; rfl, fun q' m' => ?_⟩
            · rw [upd_ne (ne_of_none e hD2)]
              exact (k'.trans (k8.trans (Keep.same sq))) _ _ n1 n2 e
            · refine Paired.snoc (GS.pw_monoK (fun _ _ z => GS.SeAt.mono kb (GS.SeAt.mono ((k8.trans (Keep.same sq)).n B') z)) pw) ⟨q, v', rfl, kb.t (SqT.of upd_same), (T8.keep (KeepN.of sq)).keep kb⟩
            · rcases List.mem_append.mp m' with m' | m'
              · exact mss q' m'
              · obtain rfl := List.mem_singleton.mp m'
                have d8 : t'.depth ≤ 2 := d8
                exact ⟨mts f (List.mem_of_getElem? ef), wn_tm hN I8, by show t'.depth ≤ 5; omega, tne_tm hN I8⟩
          · rintro H' ⟨B', k', vs, ss, hd', pw, ls, mss⟩
            rw [List.length_map] at ls
            refine ⟨D2, vs, rfl, .inl ⟨SqL.of hd', fun q hq => ?_⟩⟩
            have sq := Same.new (o := .tup vs) hq
            refine ⟨_, rfl, by show 4 ≤ sizeLine; decide, fun y hy => ?_⟩
            have sy := Same.new (o := .tup [.str (Str.ofString "set"), .str t, .ref q, cv]) hy
            have kn : KeepN H3 _ := (k'.n B3).trans (KeepN.of (sq.trans sy))
            exact k y _ (.set t ss c) (B'.same (sq.trans sy)) (kp05.trans (k3.trans (k'.trans (Keep.same (sq.trans sy))))) ⟨q, cv, SqT.of upd_same, ⟨vs, SqT.of (sy _ _ upd_same), GS.pw_monoK (fun _ _ z => GS.SeAt.mono (KeepN.of (sq.trans sy)) z) pw⟩, OcAt.mono (fun _ _ z => kn.t z) hc3⟩ ⟨nxt, by omega, mss, bcd⟩
      · rw [decide_eq_false c4]
        exact iteF rest
    · rw [decide_eq_false c5]
      exact iteF (iteF rest)
end
end K06

set_option linter.all false
set_option maxHeartbeats 4000000
namespace GS
open PySem L2 HX
open K06 hiding gn sa1 sif cb1 and2 or2 pw_mono Txt Cal
def pickS : List Str → Str
  | [] => sE
  | w :: r => if w = sE then pickS r else w
def ownT (sh : Shp) (ts : List Str) (t f : Str) : List Str := ts.filter fun x => decide (f ∈ flds1 sh x) && decide (t ∈ [sE, x])
def firstF (sh : Shp) (ts : List Str) (t f : Str) : Str := if t ≠ sE ∧ t ∉ ts then t else if (ownT sh ts t f).length = 1 then sE else f
def firstT (sh : Shp) (ts : List Str) : Tr → Str
  | .num _ => sE
  | .field t f => firstF sh ts t f
  | .bin _ l r => pickS [firstT sh ts l, firstT sh ts r]
  | .not x => pickS [firstT sh ts x]
def firstO (sh : Shp) (ts : List Str) : Option Tr → Str
  | none => sE
  | some t => firstT sh ts t
theorem pick_eq : ∀ ws : List Str, pickS ws = ((ws.filter fun w => !decide (w = sE)) ++ [sE]).headD sE
  | [] => rfl
  | w :: r => by
    unfold pickS
    by_cases c : w = sE
    · rw [if_pos c, List.filter_cons_of_neg (by simp [c]), pick_eq r]
    · rw [if_neg c, List.filter_cons_of_pos (by simp [c])]; rfl
/-- the first word of a list that is none -/
theorem te_pick1 {K : PySem.W.Frag} {H : Hp} {l : Addr} {ws : List Str} {Q : VK} (few : ws.length ≤ 1000)
    (hl : H l = some (.lst ((ws.filter fun w => !decide (w = sE)).map V.str)))
    (k : ∀ H', Same H H' → Q (.str (pickS ws)) H') : ∀ p, H p = none → ∀ q, (upd H p (.lst [.str sE])) q = none →
      rIxL K (.ref q) (.int 0) (upd (upd H p (.lst [.str sE])) q (.lst ((ws.filter fun w => !decide (w = sE)).map V.str ++ [.str sE]))) Q := by
  intro p hp q hq
  refine ⟨q, _, 0, .str (pickS ws), rfl, rfl, SqL.of upd_same, atI_nat (j := 0) ?_, k _ ((same_new hp).trans (same_new hq))⟩
  rw [pick_eq]
  cases ws.filter fun w => !decide (w = sE) <;> rfl
def kids : Tr → List Tr
  | .num _ => []
  | .field _ _ => []
  | .bin _ l r => [l, r]
  | .not x => [x]
def compound : Tr → Bool
  | .num _ => false
  | .field _ _ => false
  | _ => true
theorem first_kids {sh : Shp} {ts : List Str} {t : Tr} (h : compound t = true) : firstT sh ts t = pickS ((kids t).map (firstT sh ts)) := by
  cases t with
  | num _ => cases h
  | field _ _ => cases h
  | bin _ _ _ => rfl
  | not _ => rfl
theorem at_kids {K : PySem.W.Frag} {H : Hp} {v : V} {t : Tr} (h : TrAt K H v t) (c : compound t = true) : ∃ p xs, v = .ref p ∧ SqT K H p (.str (kind t) :: xs) ∧ Paired (TrAt K H) xs (kids t) := by
  cases t with
  | num _ => cases c
  | field _ _ => cases c
  | bin op l r => obtain ⟨p, x, y, e, a, b, c⟩ := h; exact ⟨p, [x, y], e, a, .cons b (.cons c .nil)⟩
  | not z => obtain ⟨p, x, e, a, b⟩ := h; exact ⟨p, [x], e, a, .cons b .nil⟩
theorem kids_ok {t : Tr} (c : compound t = true) (wt : Wn t) : (kids t).length ≤ 2 ∧ ∀ x ∈ kids t, Wn x ∧ x.depth < t.depth := by
  cases t with
  | num _ => cases c
  | field _ _ => cases c
  | bin op l r =>
    refine ⟨Nat.le_refl _, fun x m => ?_⟩
    rcases List.mem_cons.mp m with rfl | m
    · exact ⟨wt.2.1, by show _ < max _ _ + 1; omega⟩
    · obtain rfl := List.mem_singleton.mp m
      exact ⟨wt.2.2, by show _ < max _ _ + 1; omega⟩
  | not z =>
    refine ⟨by show 1 ≤ 2; decide, fun x m => ?_⟩
    obtain rfl := List.mem_singleton.mp m
    exact ⟨wt, by show _ < _ + 1; omega⟩
theorem kind_c {t : Tr} (c : compound t = true) (wt : Wn t) : decide (kind t = Str.ofString "num") = false ∧ decide (kind t = Str.ofString "field") = false := by
  cases t with
  | num _ => cases c
  | field _ _ => cases c
  | bin op l r => exact (show ∀ o ∈ joins, decide (o = Str.ofString "num") = false ∧ decide (o = Str.ofString "field") = false by decide +kernel) op wt.1
  | not z => exact ⟨by show decide (Str.ofString "not" = _) = _; decide +kernel, by show decide (Str.ofString "not" = _) = _; decide +kernel⟩
theorem sl_from1 {K : PySem.W.Frag} {H : Hp} {p : Addr} {x0 : V} {xs : List V} {Q : VK} (h : SqT K H p (x0 :: xs)) (k : ∀ q H', Same H H' → SqT K H' q xs → Q (.ref q) H') : rSlA K (.ref p) (some 1) none H Q := by
  refine ⟨p, _, rfl, h, fun z => ?_, fun _ q hq => ?_⟩
  · have e1 : HT.sIx (x0 :: xs).length 0 (some ((1 : Nat) : Int)) = min 1 (x0 :: xs).length := HT.sIx_nat _ 0 1
    have e2 := z.1
    rw [show (some (1 : Int)) = some ((1 : Nat) : Int) from rfl, e1, List.length_cons] at e2
    omega
  · have ecut : cutV (x0 :: xs) (some (1 : Int)) none = xs := by
      unfold cutV
      rw [show (some (1 : Int)) = some ((1 : Nat) : Int) from rfl, HT.sIx_nat, HT.sIx_none, List.length_cons, Nat.min_eq_left (by omega), List.take_of_length_le (by rw [List.length_drop, List.length_cons]; omega)]
      rfl
    rw [ecut]
    exact k q _ (same_new hq) (SqT.of upd_same)
theorem sifE {c : TT} {t u : TS} {D : Ends} {σ : L2.St} {H : Hp} (he : u D σ H) (h : u D σ H → c σ H fun b H1 => if b = true then t { D with nx := u D } σ H1 else tNext { D with nx := u D } σ H1) : tSeq (tIfS c t tNext) u D σ H := sif (h he)
def spFst (K : PySem.W.Frag) (n : Nat) : Sp := fun vs H Q _ => ∃ (v : V) (c : Option Tr) (d tt : Addr) (sh : Shp) (ts : List Str), vs = [v, .ref d, .ref tt] ∧ OcAt K H v c ∧ (∀ t, c = some t → Wn t ∧ t.depth < n) ∧ (c = none → 0 < n) ∧ ShapesAt K H d sh ∧ SqT K H tt (ts.map V.str) ∧ TabsOk sh ts ∧ ∀ H', Same H H' → Q (.str (firstO sh ts c)) H'
section
variable {P : Program} {w : World} {K : PySem.W.Frag} {mg : Str → Option Value} {base : Heap}
theorem scLf : FnScope ["_law_tree", "_law_shapes_here", "_law_tables", "_law_some_here", "_law_table", "_law_words", "_law_one", "_law_word_here"] ["_law_tree", "_law_shapes_here", "_law_tables"] (defScope s_l_first) := ⟨rfl, rfl, rfl, by decide +kernel, rfl, by decide +kernel, by decide +kernel⟩
theorem ok_fst {n j : Nat} {f fF : Addr} {fd fdF : FuncData} (F : Fun K "_law_first" "_law_first" s_l_first f fd) (T : GS.Txt mg) (gF : mg "_law_first" = some (.ref fF)) (kF : PySem.W.keepIn K (.ref fF) = true) (bF : Binds K fdF ["_law_tree", "_law_shapes_here", "_law_tables"] []) (G0 : FnOk P w K mg base CX0 j fF fdF ["_law_tree", "_law_shapes_here", "_law_tables"] (spFst K n)) :
    FnOk P w K mg base CX0 (j + 1) f fd ["_law_tree", "_law_shapes_here", "_law_tables"] (spFst K (n + 1)) := by
  refine F.ok scLf (fun vs H Q E h => ?_) (fun cdv A outer s H vs Q E hr h => ?_)
  · obtain ⟨v, c, d, tt, sh, ts, rfl, _⟩ := h
    rfl
  · obtain ⟨v, c, d, tt, sh, ts, rfl, hc, wc, _, S, ht, ⟨tok, few⟩, k⟩ := h
    have hr1 : Room j _ := hr
    refine ⟨_, (pss_cons (ps_if (PW.pt (pw_or (pt_cmpR op_isN (pv 0) pe_non (nomark _)) (pw_or1 (pt_cmpR op_eq (pe_ix (RK.ixT (K := K)) (pv 0) pe_int (fun _ _ => rfl)) pe_str (nomark _))))) (pss_one (ps_ret pe_str)) pss_nil)
      (pss_cons (ps_if (pt_cmpR op_eq (pe_ix (RK.ixT (K := K)) (pv 0) pe_int (fun _ _ => rfl)) pe_str (nomark _)) (pss_cons (ps_if (PW.pt (pw_and (pt_cmpR op_ne (pe_ix (RK.ixT (K := K)) (pv 0) pe_int (fun _ _ => rfl)) pe_str (nomark _)) (pw_and1 (pt_cmpR (RK.notInQ (K := K)) (pe_ix (RK.ixT (K := K)) (pv 0) pe_int (fun _ _ => rfl)) (pv 2) (by rfl))))) (pss_one (ps_ret (pe_ix (RK.ixT (K := K)) (pv 0) pe_int (fun _ _ => rfl)))) pss_nil)
        (pss_cons (ps_setLc (i := 3) (own := [("_law_table", 4)]) rfl scLf.nd rfl rfl (sw_true rfl rfl rfl (by decide +kernel)) (RK.piT (K := K) (pv 2)) (blkOk_by (N := ["_law_tree", "_law_shapes_here", "_law_tables", "_law_some_here", "_law_table", "_law_words", "_law_one", "_law_word_here"]) (sc := defScope s_l_first) (by decide +kernel)) (fun _ _ _ _ _ => (pg_name (i := 4) scLf.nd rfl (Or.inl rfl))) (fun _ _ _ _ _ => (pts_one (PW.pt (pw_and (pt_cmpR (RK.inQ (K := K)) (pe_ix (RK.ixT (K := K)) (pv 0) pe_int (fun _ _ => rfl)) (pe_dget (hu_of hr) (pv 1) (pv 4) (fun _ _ => rfl)) (by rfl)) (pw_and1 (pt_cmpR (RK.inQ (K := K)) (pe_ix (RK.ixT (K := K)) (pv 0) pe_int (fun _ _ => rfl)) (pe_tup (pa_cons pe_str (pa_cons (pv 4) pa_nil))) (by rfl))))))) (fun _ _ _ _ _ => (pv 4)))
        (pss_one (ps_ret (pe_ifExp (pt_cmpR op_eq (pe_callB (RK.lenQ (K := K)) (by rfl) T.len PySem.boot_len (pa_cons (pv 3) pa_nil)) pe_int (nomark _)) pe_str (pe_ix (RK.ixT (K := K)) (pv 0) pe_int (fun _ _ => rfl))))))) pss_nil)
      (pss_cons (ps_setLc (i := 5) (own := [("_law_one", 6)]) rfl scLf.nd rfl rfl (sw_true rfl rfl rfl (by decide +kernel)) (RK.piT (K := K) (pe_slice (RK.slT (K := K)) (pv 0) (po_some pe_int) po_none)) (blkOk_by (N := ["_law_tree", "_law_shapes_here", "_law_tables", "_law_some_here", "_law_table", "_law_words", "_law_one", "_law_word_here"]) (sc := defScope s_l_first) (by decide +kernel)) (fun _ _ _ _ _ => (pg_name (i := 6) scLf.nd rfl (Or.inl rfl))) (fun _ _ _ _ _ => pts_nil) (fun _ _ _ _ _ => (pe_call G0 hr1 (by rfl) gF kF bF .nil pass0 (pa_cons (pv 6) (pa_cons (pv 1) (pa_cons (pv 2) pa_nil))))))
      (pss_one (ps_ret (pe_ix (RK.ixL (K := K)) (pe_op op_cat (pe_lc (own := [("_law_word_here", 7)]) rfl scLf.nd (RK.piL (K := K) (pv 5)) (blkOk_by (N := ["_law_tree", "_law_shapes_here", "_law_tables", "_law_some_here", "_law_table", "_law_words", "_law_one", "_law_word_here"]) (sc := defScope s_l_first) (by decide +kernel)) (fun _ _ _ _ _ => (pg_name (i := 7) scLf.nd rfl (Or.inl rfl))) (fun _ _ _ _ _ => (pts_one (pt_cmpR op_ne (pv 7) pe_str (nomark _)))) (fun _ _ _ _ _ => (pv 7))) (pe_lst (pa_cons pe_str pa_nil))) pe_int (fun _ _ => rfl))))))), ?_⟩

    cases c with
    | none =>
      obtain rfl : v = .non := hc
      exact sif ⟨_, rfl, rfl, _, rfl, iteT (iteT (k _ (Same.refl _)))⟩
    | some t =>
      obtain ⟨wt, dt⟩ := wc t rfl
      have hT : TrAt K H v t := hc
      obtain ⟨p, xs0, rfl, hp0, e0⟩ := TrAt.hd hT
      refine sif ⟨_, rfl, rfl, _, rfl, iteF ⟨_, rfl, p, _, 0, _, rfl, rfl, hp0, e0, rfl, _, rfl, ?_⟩⟩
      rw [vS]
      by_cases cc : compound t = true
      · obtain ⟨n1, n2⟩ := kind_c cc wt
        rw [n1]
        refine iteF ?_
        dsimp only [tNext]
        refine sif ⟨_, rfl, p, _, 0, _, rfl, rfl, hp0, e0, rfl, _, rfl, ?_⟩
        rw [vS, n2]
        refine iteF ?_
        dsimp only [tNext]
        obtain ⟨p', xs, e, hp, pw⟩ := at_kids hT cc
        cases e
        obtain ⟨k2, kw⟩ := kids_ok cc wt
        refine ⟨_, rfl, 1, rfl, ?_⟩
        dsimp only [tNoPart]
        refine sl_from1 hp fun q H1 s1 hq => ⟨q, rfl, ⟨_, hq⟩, fun D hD => ?_⟩
        have hD0 : H D = none := none_of_same s1 hD
        refine lc_tup (K := K) (a := q) (xs := xs) (fun i H' => Same H1 H' ∧ H' D = some (.lst ((((kids t).take i).map (firstT sh ts)).map V.str)))
          ⟨same_new hD, upd_same⟩ (fun j H2 _ ⟨s2, _⟩ => (KeepN.of s2).t hq) ?_ ?_
        · rintro i x H' hi ⟨s2, hd⟩
          obtain ⟨y, ey, hy⟩ := pw_nth pw hi
          obtain ⟨w1, w2⟩ := kw y (List.mem_of_getElem? ey)
          have s12 := s1.trans s2
          have tk : (kids t).take (i + 1) = (kids t).take i ++ [y] := by rw [List.take_add_one, ey]; rfl
          refine ⟨rfl, _, rfl, _, rfl, _, rfl, x, some y, d, tt, sh, ts, rfl, TrAt.same s12 hy, fun u e => by obtain rfl := Option.some.inj e; exact ⟨w1, by omega⟩, (fun e => nomatch e), S.keep (KeepN.of s12), (KeepN.of s12).t ht, ⟨tok, few⟩, fun H3 s3 => ?_⟩
          have hd3 := s3 _ _ hd
          refine ⟨_, hd3, Nat.lt_of_le_of_lt (show ((((kids t).take i).map (firstT sh ts)).map V.str).length ≤ 2 by rw [List.length_map, List.length_map, List.length_take]; omega) (by decide), fun b o e => ?_, ?_⟩
          · rw [upd_ne (ne_of_none e hD)]; exact s3 _ _ (s2 _ _ e)
          · rw [upd_same, tk, List.map_append, List.map_append]; rfl
        · rintro H2 ⟨s2, hd⟩
          rw [pw_len pw, List.take_length] at hd
          refine gn ?_
          try dsimp only
          have kf : firstO sh ts (some t) = pickS ((kids t).map (firstT sh ts)) := first_kids cc
          rw [kf] at k
          have lw : ((kids t).map (firstT sh ts)).length ≤ 1000 := by rw [List.length_map]; omega
          generalize (kids t).map (firstT sh ts) = ws at hd k lw
          refine ⟨_, rfl, D, rfl, ⟨_, SqL.of hd⟩, fun D2 hD2 => ?_⟩
          refine lc_list (K := K) (a := D) (xs := ws.map V.str) (fun i H' => Same H2 H' ∧ H' D2 = some (.lst (((ws.take i).filter fun w => !decide (w = sE)).map V.str)))
            ⟨same_new hD2, upd_same⟩ (fun i H' _ ⟨s3, _⟩ => SqL.of (s3 _ _ hd)) ?_ ?_
          · rintro i y H' hi ⟨s3, hd3⟩
            obtain ⟨x, ex, rfl⟩ := mapAt hi
            have tk : ws.take (i + 1) = ws.take i ++ [x] := by rw [List.take_add_one, ex]; rfl
            refine ⟨rfl, _, rfl, rfl, _, rfl, ?_⟩
            rw [vS]
            by_cases cx : x = sE
            · rw [decide_eq_true cx]
              refine ⟨s3, ?_⟩
              rw [tk, List.filter_append, List.filter_cons_of_neg (by simp [cx]), List.filter_nil, List.append_nil]
              exact hd3
            · rw [decide_eq_false cx]
              refine ⟨_, rfl, _, hd3, Nat.lt_of_le_of_lt (show ((((ws.take i).filter fun w => !decide (w = sE))).map V.str).length ≤ 1000 by rw [List.length_map]; exact Nat.le_trans (List.length_filter_le _ _) (Nat.le_trans (List.length_take_le' ..) lw)) (by decide), fun b o e => ?_, ?_⟩
              · rw [upd_ne (ne_of_none e hD2)]; exact s3 _ _ e
              · rw [upd_same, tk, List.filter_append, List.filter_cons_of_pos (by simp [cx]), List.map_append]; rfl
          · rintro H3 ⟨s3, hd3⟩
            rw [List.length_map, List.take_length] at hd3
            have l3 : ((ws.filter fun w => !decide (w = sE)).map V.str).length ≤ 1000 := by rw [List.length_map]; exact Nat.le_trans (List.length_filter_le _ _) lw
            refine ⟨by show 1 ≤ sizeLine; decide, fun p1 hp1 => ⟨D2, p1, _, _, rfl, rfl, (same_new hp1) _ _ hd3, upd_same, ?_, fun q1 hq1 => ?_⟩⟩
            · exact Nat.le_trans (show _ + 1 ≤ 1001 by omega) (by decide)
            · exact te_pick1 lw hd3 (fun H' s' => k _ (s1.trans (s2.trans (s3.trans s')))) p1 hp1 q1 hq1
      · cases t with
        | bin _ _ _ => exact absurd rfl cc
        | not _ => exact absurd rfl cc
        | num i =>
          rw [show decide (kind (.num i) = Str.ofString "num") = true from decide_eq_true rfl]
          exact iteT (k _ (Same.refl _))
        | field t f =>
          rw [show decide (kind (.field t f) = Str.ofString "num") = false by show decide (Str.ofString "field" = _) = _; decide +kernel]
          refine iteF ?_
          dsimp only [tNext]
          refine sif ⟨_, rfl, p, _, 0, _, rfl, rfl, hp0, e0, rfl, _, rfl, ?_⟩
          rw [vS, show decide (kind (.field t f) = Str.ofString "field") = true from decide_eq_true rfl]
          refine iteT ?_
          obtain ⟨p', e, hp⟩ := hT
          cases e
          have fe : firstT sh ts (.field t f) = firstF sh ts t f := rfl
          have few' : ∀ i, (ownT sh (ts.take i) t f).length ≤ 100 := fun i => Nat.le_trans (List.length_filter_le _ _) (Nat.le_trans (List.length_take_le' ..) few)
          by_cases cb : t ≠ sE ∧ t ∉ ts
          · have fe : firstF sh ts t f = t := if_pos cb
            refine sif ⟨_, rfl, p, _, 1, .str t, rfl, rfl, hp, atI_nat (j := 1) rfl, rfl, _, rfl, ?_⟩
            rw [vS, decide_eq_false cb.1]
            refine iteT ⟨_, rfl, p, _, 1, .str t, rfl, rfl, hp, atI_nat (j := 1) rfl, _, rfl, tt, _, rfl, .inr ht, rfl, flS ts, _, rfl, ?_⟩
            rw [if_pos rfl, inS, decide_eq_false cb.2]
            refine iteT ⟨_, rfl, p, _, 1, .str t, rfl, rfl, hp, atI_nat (j := 1) rfl, ?_⟩
            have := k H (Same.refl _)
            rw [show firstO sh ts (some (.field t f)) = t from fe] at this
            exact this
          have fe : firstO sh ts (some (.field t f)) = if (ownT sh ts t f).length = 1 then sE else f := if_neg cb
          refine sifE ?_ fun rest => ?_
          · refine ⟨_, rfl, tt, rfl, ⟨_, ht⟩, fun D hD => ?_⟩
            refine lc_tup (K := K) (a := tt) (xs := ts.map V.str) (fun i H' => Same H H' ∧ H' D = some (.lst ((ownT sh (ts.take i) t f).map V.str)))
              ⟨same_new hD, upd_same⟩ (fun j H2 _ ⟨s2, _⟩ => (KeepN.of s2).t ht) ?_ ?_
            · rintro i y H' hi ⟨s1, hd⟩
              obtain ⟨x, ex, rfl⟩ := mapAt hi
              have tk : ownT sh (ts.take (i + 1)) t f = ownT sh (ts.take i) t f ++ if (decide (f ∈ flds1 sh x) && decide (t ∈ [sE, x])) = true then [x] else [] := by
                rw [List.take_add_one, ex]
                show List.filter _ (ts.take i ++ [x]) = _
                rw [List.filter_append]
                by_cases c : (decide (f ∈ flds1 sh x) && decide (t ∈ [sE, x])) = true
                · rw [if_pos c, List.filter_cons_of_pos (by simpa using c)]; rfl
                · rw [if_neg c, List.filter_cons_of_neg (by simpa using c)]; rfl
              obtain ⟨q, g, hq⟩ := sh_get (S.keep (KeepN.of s1)) (tok _ (List.mem_of_getElem? ex))
              have hp1 := (KeepN.of s1).t hp
              have put : ∀ H3, Same H' H3 → (decide (f ∈ flds1 sh x) && decide (t ∈ [sE, x])) = true → ∃ acc, H3 D = some (.lst acc) ∧ acc.length < sizeLine ∧ Same H (upd H3 D (.lst (acc ++ [V.str x]))) ∧ (upd H3 D (.lst (acc ++ [V.str x]))) D = some (.lst ((ownT sh (ts.take (i + 1)) t f).map V.str)) := fun H3 s3 c =>
                ⟨_, s3 _ _ hd, Nat.lt_of_le_of_lt (show ((ownT sh (ts.take i) t f).map V.str).length ≤ 100 by rw [List.length_map]; exact few' i) (by decide), fun b o e => by rw [upd_ne (ne_of_none e hD)]; exact s3 _ _ (s1 _ _ e), by rw [upd_same, tk, if_pos c, List.map_append]; rfl⟩
              refine ⟨rfl, _, rfl, p, _, 2, .str f, rfl, rfl, hp1, atI_nat (j := 2) rfl, _, rfl, _, rfl, d, .ref q, rfl, g, q, _, rfl, .inr hq, rfl, flS _, _, rfl, ?_⟩
              rw [if_neg Bool.false_ne_true, inS]
              by_cases c1 : f ∈ flds1 sh x
              · rw [decide_eq_true c1] at tk put ⊢
                refine iteT ⟨_, rfl, p, _, 1, .str t, rfl, rfl, hp1, atI_nat (j := 1) rfl, _, rfl, by show 2 ≤ sizeLine; decide, fun u hu => ⟨u, _, rfl, .inr (SqT.of upd_same), rfl, flS [sE, x], _, rfl, ?_⟩⟩
                rw [if_neg Bool.false_ne_true, show inV (.str t) [V.str sE, V.str x] = decide (t ∈ [sE, x]) from inS t [sE, x]]
                have s3 := same_new (o := .tup [.str sE, .str x]) hu
                by_cases c2 : t ∈ [sE, x]
                · rw [decide_eq_true c2] at put ⊢
                  exact ⟨_, rfl, put _ s3 rfl⟩
                · rw [decide_eq_false c2] at tk ⊢
                  refine ⟨s1.trans s3, ?_⟩
                  rw [tk, if_neg (by simp), List.append_nil]
                  exact s3 _ _ hd
              · rw [decide_eq_false c1] at tk ⊢
                refine iteF ⟨s1, ?_⟩
                rw [tk, if_neg (by simp), List.append_nil]
                exact hd
            · rintro H' ⟨s1, hd⟩
              rw [List.length_map, List.take_length] at hd
              refine gn ?_
              try dsimp only
              refine ⟨_, rfl, D, _, rfl, .inl (SqL.of hd), rfl, _, rfl, ?_⟩
              rw [List.length_map, show decide (V.int ((ownT sh ts t f).length : Nat) = V.int 1) = decide ((ownT sh ts t f).length = 1) from decide_eq_decide.mpr ⟨fun z => by injection z with z; omega, fun z => by rw [z]; rfl⟩]
              have kk := k H' s1
              rw [fe] at kk
              by_cases cl : (ownT sh ts t f).length = 1
              · rw [decide_eq_true cl]
                rw [if_pos cl] at kk
                exact iteT kk
              · rw [decide_eq_false cl]
                rw [if_neg cl] at kk
                exact iteF ⟨_, rfl, p, _, 2, .str f, rfl, rfl, (KeepN.of s1).t hp, atI_nat (j := 2) rfl, kk⟩
          · refine ⟨_, rfl, p, _, 1, .str t, rfl, rfl, hp, atI_nat (j := 1) rfl, rfl, _, rfl, ?_⟩
            rw [vS]
            by_cases c0 : t = sE
            · rw [decide_eq_true c0]
              exact iteF (iteF rest)
            · rw [decide_eq_false c0]
              refine iteT ⟨_, rfl, p, _, 1, .str t, rfl, rfl, hp, atI_nat (j := 1) rfl, _, rfl, tt, _, rfl, .inr ht, rfl, flS ts, _, rfl, ?_⟩
              have c9 : t ∈ ts := Classical.byContradiction fun z => cb ⟨c0, z⟩
              rw [if_pos rfl, inS, decide_eq_true c9]
              exact iteF rest
/-- at any depth -/
theorem all_fst {f : Addr} {fd : FuncData} (F : Fun K "_law_first" "_law_first" s_l_first f fd) (T : GS.Txt mg) (gF : mg "_law_first" = some (.ref f)) (kF : PySem.W.keepIn K (.ref f) = true) (bF : Binds K fd ["_law_tree", "_law_shapes_here", "_law_tables"] []) : ∀ n : Nat, FnOk P w K mg base CX0 (n + 1) f fd ["_law_tree", "_law_shapes_here", "_law_tables"] (spFst K (n + 1))
  | 0 => ok_fst F T gF kF bF (n := 0) (none_leftX fun vs H Q E ⟨v, c, _, _, _, _, _, _, h, h0, _⟩ => match c, h, h0 with | none, _, h0 => absurd (h0 rfl) (Nat.lt_irrefl 0) | some t, h, _ => Nat.not_lt_zero _ (h t rfl).2)
  | n + 1 => ok_fst F T gF kF bF (all_fst F T gF kF bF n)
end
end GS

set_option linter.all false
set_option maxHeartbeats 4000000
namespace GS
open PySem L2 HX
open K06 hiding gn sa1 sif cb1 and2 or2 pw_mono Txt Cal
inductive Bare (sh : Shp) (ts : List Str) : Tr → Tr → Prop
  | num {n : Int} : Bare sh ts (.num n) (.num n)
  | keep {t f : Str} : Bare sh ts (.field t f) (.field t f)
  | drop {t f : Str} : owners sh ts f = [t] → Bare sh ts (.field t f) (.field sE f)
  | bin {op : Str} {l r l' r' : Tr} : Bare sh ts l l' → Bare sh ts r r' → Bare sh ts (.bin op l r) (.bin op l' r')
  | not {x x' : Tr} : Bare sh ts x x' → Bare sh ts (.not x) (.not x')
def BareO (sh : Shp) (ts : List Str) : Option Tr → Option Tr → Prop
  | none, c => c = none
  | some t, c => ∃ t', c = some t' ∧ Bare sh ts t t'
theorem Bare.fill {sh : Shp} {ts : List Str} {t t' : Tr} (h : Bare sh ts t t') : Tne t → ∀ r, fillT sh ts t' = .ok r → r = t := by
  induction h with
  | num => intro _ r e; cases e; rfl
  | @keep t f =>
    intro ne r e
    have e : fieldF sh ts t f = .ok r := e
    unfold fieldF at e
    rw [if_neg ne.1] at e
    split at e
    · split at e
      · cases e; rfl
      · cases e
    · cases e
  | @drop t f ow =>
    intro ne r e
    have e : fieldF sh ts sE f = .ok r := e
    rw [fieldF_eq, ow] at e
    cases e; rfl
  | @bin op l r l' r' _ _ a b =>
    intro ne z e
    have e : (match fillT sh ts l' with | .error e => Except.error e | .ok l' => (match fillT sh ts r' with | .error e => .error e | .ok r' => .ok (Tr.bin op l' r'))) = .ok z := e
    cases e1 : fillT sh ts l' with
    | error x => rw [e1] at e; cases e
    | ok l2 =>
      rw [e1] at e
      have e : (match fillT sh ts r' with | .error e => Except.error e | .ok r' => .ok (Tr.bin op l2 r')) = .ok z := e
      cases e2 : fillT sh ts r' with
      | error x => rw [e2] at e; cases e
      | ok r2 =>
        rw [e2] at e
        cases e
        rw [a ne.1 _ e1, b ne.2 _ e2]
  | @not x x' _ a =>
    intro ne z e
    have e : (match fillT sh ts x' with | .error e => Except.error e | .ok x' => .ok (Tr.not x')) = .ok z := e
    cases e1 : fillT sh ts x' with
    | error y => rw [e1] at e; cases e
    | ok x2 =>
      rw [e1] at e
      cases e
      rw [a ne _ e1]
theorem Bare.wn {sh : Shp} {ts : List Str} {t t' : Tr} (h : Bare sh ts t t') : (Wn t → Wn t') ∧ t'.depth = t.depth := by
  induction h with
  | num => exact ⟨id, rfl⟩
  | keep => exact ⟨id, rfl⟩
  | drop _ => exact ⟨fun w => ⟨by decide +kernel, w.2⟩, rfl⟩
  | bin _ _ a b => exact ⟨fun w => ⟨w.1, a.1 w.2.1, b.1 w.2.2⟩, by show max _ _ + 1 = max _ _ + 1; rw [a.2, b.2]⟩
  | not _ a => exact ⟨fun w => a.1 w, by show _ + 1 = _ + 1; rw [a.2]⟩
theorem at_mk {K : PySem.W.Frag} {H : Hp} {sh : Shp} {ts : List Str} {t : Tr} {p : Addr} {vs : List V} {ks : List Tr} (c : compound t = true) (h : SqT K H p (.str (kind t) :: vs)) (pw : Paired (TrAt K H) vs ks) (pb : Paired (Bare sh ts) (kids t) ks) : ∃ t', TrAt K H (.ref p) t' ∧ Bare sh ts t t' := by
  cases t with
  | num _ => cases c
  | field _ _ => cases c
  | bin op l r =>
    cases pb with
    | cons b1 pb => cases pb with
      | cons b2 pb => cases pb with
        | nil => cases pw with
          | cons a1 pw => cases pw with
            | cons a2 pw => cases pw with
              | nil => exact ⟨.bin op _ _, ⟨p, _, _, rfl, h, a1, a2⟩, .bin b1 b2⟩
  | not x =>
    cases pb with
    | cons b1 pb => cases pb with
      | nil => cases pw with
        | cons a1 pw => cases pw with
          | nil => exact ⟨.not _, ⟨p, _, rfl, h, a1⟩, .not b1⟩
theorem dpS {K : PySem.W.Frag} {H : Hp} : ∀ xs : List Str, DpAll K H (xs.map V.str) (xs.map PyData.str)
  | [] => .nil
  | x :: xs => .cons (.str x) (dpS xs)
theorem layS : ∀ xs : List Str, (∀ x ∈ xs, PyData.strOk x = true) → PyData.canLayAll0 (xs.map PyData.str) = true ∧ PyData.depthAll (xs.map PyData.str) ≤ 1
  | [], _ => by simp [PyData.canLayAll0, PyData.depthAll]
  | x :: xs, h => by
    obtain ⟨a, b⟩ := layS xs fun y m => h y (List.mem_cons_of_mem _ m)
    have o := h x List.mem_cons_self
    refine ⟨by simp [PyData.canLayAll0, PyData.canLay0, a, o], ?_⟩
    simp only [List.map_cons, PyData.depthAll, PyData.depth]
    omega
theorem shS {xs : List Str} (h : ∀ x ∈ xs, PyData.strOk x = true) : SeqAt.shaped (.list (xs.map PyData.str)) = true := by
  obtain ⟨a, b⟩ := layS xs h
  show (PyData.canLay0 (.list (xs.map PyData.str)) && decide (PyData.depth (.list (xs.map PyData.str)) ≤ 64)) = true
  rw [Bool.and_eq_true]
  refine ⟨by simp only [PyData.canLay0]; exact a, decide_eq_true ?_⟩
  simp only [PyData.depth]
  omega
theorem eqvS : ∀ xs ys : List Str, PyData.eqvAll (xs.map PyData.str) (ys.map PyData.str) = decide (xs = ys)
  | [], [] => by simp [PyData.eqvAll]
  | [], y :: ys => by simp [PyData.eqvAll]
  | x :: xs, [] => by simp [PyData.eqvAll]
  | x :: xs, y :: ys => by
    rw [List.map_cons, List.map_cons, PyData.eqvAll, eqv_str, eqvS xs ys]
    by_cases a : x = y <;> by_cases b : xs = ys <;> simp [a, b]
theorem eqvL (xs ys : List Str) : PyData.eqv (.list (xs.map PyData.str)) (.list (ys.map PyData.str)) = decide (xs = ys) := by
  rw [← eqvS]; simp [PyData.eqv]
theorem tne_kids {t : Tr} (c : compound t = true) (ne : Tne t) : ∀ y ∈ kids t, Tne y := by
  cases t with
  | num _ => cases c
  | field _ _ => cases c
  | bin op l r =>
    intro y m
    rcases List.mem_cons.mp m with rfl | m
    · exact ne.1
    · obtain rfl := List.mem_singleton.mp m; exact ne.2
  | not x => intro y m; obtain rfl := List.mem_singleton.mp m; exact ne
theorem isD {K : PySem.W.Frag} {H : Hp} {d : Addr} {sh : Shp} (S : ShapesAt K H d sh) : IsD H d := by
  obtain ⟨kvs, hd, _⟩ := S
  exact .inl ⟨kvs, Rd.of hd⟩
/-- shapes.get(t, ()) -/
theorem sh_get2 {K : PySem.W.Frag} {H : Hp} {d e : Addr} {sh : Shp} (S : ShapesAt K H d sh) (t : Str) (he : SqT K H e []) : ∃ o q, DGet H d (.str t) o ∧ o.getD (.ref e) = .ref q ∧ SqT K H q ((flds1 sh t).map V.str) := by
  by_cases h : t ∈ sh.map (·.1)
  · obtain ⟨q, g, hq⟩ := sh_get S h
    exact ⟨_, q, g, rfl, hq⟩
  · obtain ⟨kvs, hd, pr⟩ := S
    rcases pr_look t pr with ⟨e1, e2⟩ | ⟨x, v, e1, _⟩
    · refine ⟨none, e, .inl ⟨kvs, .inr t, .inl hd, rfl, e2.symm⟩, rfl, ?_⟩
      unfold flds1
      rw [lookup_none_of h]; exact he
    · rw [lookup_none_of h] at e1; cases e1
def spBare (K : PySem.W.Frag) (n : Nat) : Sp := fun vs H Q _ => ∃ (a b : Addr) (v : V) (c : Option Tr) (d tt : Addr) (sh : Shp) (ts : List Str), vs = [.ref a, v, .ref d, .ref tt] ∧ HAt H a b ∧ OcAt K H v c ∧ (∀ t, c = some t → Wn t ∧ Tne t ∧ t.depth < n) ∧ (c = none → 0 < n) ∧ ShapesAt K H d sh ∧ SqT K H tt (ts.map V.str) ∧ (∀ t ∈ ts, PyData.strOk t = true) ∧ ts.length ≤ 100 ∧
  ∀ v' c' H', HAt H' a b → Keep a b H H' → OcAt K H' v' c' → BareO sh ts c c' → Q v' H'
section
variable {P : Program} {w : World} {K : PySem.W.Frag} {mg : Str → Option Value} {base : Heap}
theorem scBa : FnScope ["_law_h", "_law_tree", "_law_shapes_here", "_law_tables", "_law_some_here", "_law_table", "_law_one"] ["_law_h", "_law_tree", "_law_shapes_here", "_law_tables"] (defScope s_l_bare) := ⟨rfl, rfl, rfl, by decide +kernel, rfl, by decide +kernel, by decide +kernel⟩
theorem ok_bare {n j : Nat} {f fF fn : Addr} {fd fdF fdn : FuncData} (F : Fun K "_law_bare" "_law_bare" s_l_bare f fd) (T : GS.Txt mg) (j1 : 1 ≤ j) (Cnext : K06.Cal P w K mg base 1 "_law_next" ["_law_h", "_law_many"] spNext fn fdn) (gF : mg "_law_bare" = some (.ref fF)) (kF : PySem.W.keepIn K (.ref fF) = true) (bF : Binds K fdF ["_law_h", "_law_tree", "_law_shapes_here", "_law_tables"] []) (G0 : FnOk P w K mg base CX0 j fF fdF ["_law_h", "_law_tree", "_law_shapes_here", "_law_tables"] (spBare K n)) :
    FnOk P w K mg base CX0 (j + 1) f fd ["_law_h", "_law_tree", "_law_shapes_here", "_law_tables"] (spBare K (n + 1)) := by
  refine F.ok scBa (fun vs H Q E h => ?_) (fun cdv A outer s H vs Q E hr h => ?_)
  · obtain ⟨a, b, v, c, d, tt, sh, ts, rfl, _⟩ := h
    rfl
  · obtain ⟨a, b, v, c, d, tt, sh, ts, rfl, B, hc, wc, _, S, ht, oks, few, k⟩ := h
    have hr1 : Room j _ := hr
    refine ⟨_, (pss_cons (ps_if (PW.pt (pw_or (pt_cmpR op_isN (pv 1) pe_non (nomark _)) (pw_or1 (pt_cmpR op_eq (pe_ix (RK.ixT (K := K)) (pv 1) pe_int (fun _ _ => rfl)) pe_str (nomark _))))) (pss_one (ps_ret (pv 1))) pss_nil)
      (pss_cons (ps_if (pt_cmpR op_eq (pe_ix (RK.ixT (K := K)) (pv 1) pe_int (fun _ _ => rfl)) pe_str (nomark _)) (pss_cons (ps_setLc (i := 4) (own := [("_law_table", 5)]) rfl scBa.nd rfl rfl (sw_true rfl rfl rfl (by decide +kernel)) (RK.piT (K := K) (pv 3)) (blkOk_by (N := ["_law_h", "_law_tree", "_law_shapes_here", "_law_tables", "_law_some_here", "_law_table", "_law_one"]) (sc := defScope s_l_bare) (by decide +kernel)) (fun _ _ _ _ _ => (pg_name (i := 5) scBa.nd rfl (Or.inl rfl))) (fun _ _ _ _ _ => (pts_one (pt_cmpR (RK.inQ (K := K)) (pe_ix (RK.ixT (K := K)) (pv 1) pe_int (fun _ _ => rfl)) (pe_dget2 (hu_of hr) (pv 2) (pv 5) (pe_tup pa_nil) ⟨rfl, rfl, rfl, rfl⟩) (by rfl)))) (fun _ _ _ _ _ => (pv 5)))
        (pss_one (ps_ret (pe_tup (pa_cons pe_str (pa_cons (pe_ifExp (PW.pt (pw_and (pt_cmpR (RK.eqD (K := K) hr.units) (pv 4) (pe_lst (pa_cons (pe_ix (RK.ixT (K := K)) (pv 1) pe_int (fun _ _ => rfl)) pa_nil)) (nomark _)) (pw_and1 (pt_cmpR op_eq (pe_call Cnext.G (hr1.mono j1) (by rfl) Cnext.g Cnext.kp Cnext.b .nil pass0 (pa_cons (pv 0) (pa_cons pe_int pa_nil))) pe_int (nomark _))))) pe_str (pe_ix (RK.ixT (K := K)) (pv 1) pe_int (fun _ _ => rfl))) (pa_cons (pe_ix (RK.ixT (K := K)) (pv 1) pe_int (fun _ _ => rfl)) pa_nil))))))) pss_nil)
      (pss_one (ps_ret (pe_op (RK.catT (K := K)) (pe_tup (pa_cons (pe_ix (RK.ixT (K := K)) (pv 1) pe_int (fun _ _ => rfl)) pa_nil)) (pe_callTy (RK.tupQ (K := K)) (by rfl) T.tuple (by decide +kernel) (pa_cons (pe_lc (own := [("_law_one", 6)]) rfl scBa.nd (RK.piT (K := K) (pe_slice (RK.slT (K := K)) (pv 1) (po_some pe_int) po_none)) (blkOk_by (N := ["_law_h", "_law_tree", "_law_shapes_here", "_law_tables", "_law_some_here", "_law_table", "_law_one"]) (sc := defScope s_l_bare) (by decide +kernel)) (fun _ _ _ _ _ => (pg_name (i := 6) scBa.nd rfl (Or.inl rfl))) (fun _ _ _ _ _ => pts_nil) (fun _ _ _ _ _ => (pe_call G0 hr1 (by rfl) gF kF bF .nil pass0 (pa_cons (pv 0) (pa_cons (pv 6) (pa_cons (pv 2) (pa_cons (pv 3) pa_nil))))))) pa_nil))))))), ?_⟩

    cases c with
    | none =>
      obtain rfl : v = .non := hc
      exact sif ⟨_, rfl, rfl, _, rfl, iteT (iteT ⟨_, rfl, k _ none _ B (K06.Keep.refl _ _ _) rfl rfl⟩)⟩
    | some t =>
      obtain ⟨wt, ne, dt⟩ := wc t rfl
      have hT : TrAt K H v t := hc
      obtain ⟨p, xs0, rfl, hp0, e0⟩ := TrAt.hd hT
      refine sif ⟨_, rfl, rfl, _, rfl, iteF ⟨_, rfl, p, _, 0, _, rfl, rfl, hp0, e0, rfl, _, rfl, ?_⟩⟩
      rw [vS]
      by_cases cc : compound t = true
      · obtain ⟨n1, n2⟩ := kind_c cc wt
        rw [n1]
        refine iteF ?_
        dsimp only [tNext]
        refine sif ⟨_, rfl, p, _, 0, _, rfl, rfl, hp0, e0, rfl, _, rfl, ?_⟩
        rw [vS, n2]
        refine iteF ?_
        dsimp only [tNext]
        obtain ⟨p', xs, e, hp, pw⟩ := at_kids hT cc
        cases e
        obtain ⟨k2, kw⟩ := kids_ok cc wt
        refine ⟨_, rfl, p, _, 0, _, rfl, rfl, hp0, e0, by show 1 ≤ sizeLine; decide, fun u hu => ?_⟩
        have su := same_new (o := .tup [.str (kind t)]) hu
        refine ⟨_, rfl, 1, rfl, ?_⟩
        dsimp only [tNoPart]
        refine sl_from1 ((KeepN.of su).t hp) fun q H1 s1 hq => ⟨q, rfl, ⟨_, hq⟩, fun D hD => ?_⟩
        have su1 := su.trans s1
        have B1 := B.same su1
        have nD := B1.ne hD
        have nek : ∀ y ∈ kids t, Tne y := tne_kids cc ne
        refine lc_tup (K := K) (a := q) (xs := xs) (fun i H' => HAt H' a b ∧ Keep a b H1 H' ∧ ∃ vs ks, H' D = some (.lst vs) ∧ vs.length = i ∧ Paired (TrAt K H') vs ks ∧ Paired (Bare sh ts) ((kids t).take i) ks)
          ⟨B1.upd nD, K06.Keep.same (Same.new hD), [], [], upd_same, rfl, .nil, by rw [List.take_zero]; exact .nil⟩ (fun j H2 _ ⟨_, s2, _⟩ => (s2.n B1).t hq) ?_ ?_
        · rintro i x H' hi ⟨B2, s2, vs, ks, hd, lv, pv1, pv2⟩
          obtain ⟨y, ey, hy⟩ := pw_nth pw hi
          obtain ⟨w1, w2⟩ := kw y (List.mem_of_getElem? ey)
          have sn : KeepN H H' := (KeepN.of su1).trans (s2.n B1)
          have tk : (kids t).take (i + 1) = (kids t).take i ++ [y] := by rw [List.take_add_one, ey]; rfl
          have li : i < (kids t).length := (List.getElem?_eq_some_iff.mp ey).1
          refine ⟨rfl, _, rfl, _, rfl, _, rfl, _, rfl, a, b, x, some y, d, tt, sh, ts, rfl, B2, TrAt.keep sn hy, fun u e => by obtain rfl := Option.some.inj e; exact ⟨w1, nek y (List.mem_of_getElem? ey), by omega⟩, (fun e => nomatch e), S.keep sn, sn.t ht, oks, few, fun v' c' H3 B3 k3 h3 bo => ?_⟩
          obtain ⟨t', rfl, bt⟩ := bo
          have hd3 := k3 D _ nD.1 nD.2 hd
          have kb := KeepN.lst (ys := vs ++ [v']) hd3
          refine ⟨vs, hd3, Nat.lt_of_le_of_lt (show vs.length ≤ 2 by omega) (by decide), B3.upd nD, fun x o n1 n2 e => ?_, vs ++ [v'], ks ++ [t'], upd_same, by rw [List.length_append, lv]; rfl, ?_, ?_⟩
          · rw [upd_ne (ne_of_none e hD)]; exact k3 _ _ n1 n2 (s2 _ _ n1 n2 e)
          · exact pw_app (pw_imp (fun _ _ z => TrAt.keep kb (TrAt.keep (k3.n B2) z)) pv1) (.cons (TrAt.keep kb h3) .nil)
          · rw [tk]; exact pw_app pv2 (.cons bt .nil)
        · rintro H' ⟨B2, s2, vs, ks, hd, lv, pv1, pv2⟩
          rw [pw_len pw, List.take_length] at pv2
          have lk := pw_len pw
          have l1 : 1 ≤ vs.length := by
            rw [lv, lk]
            cases t with
            | num _ => cases cc
            | field _ _ => cases cc
            | bin _ _ _ => show 1 ≤ 2; decide
            | not _ => show 1 ≤ 1; decide
          refine ⟨D, vs, rfl, .inl ⟨SqL.of hd, fun q2 hq2 => ?_⟩⟩
          have s3 := Same.new (o := .tup vs) hq2
          have hu2 : SqT K (upd H' q2 (.tup vs)) u [.str (kind t)] := (KeepN.of s3).t ((s2.n B1).t ((KeepN.of s1).t (SqT.of upd_same)))
          refine ⟨u, q2, _, _, rfl, rfl, hu2, SqT.of upd_same, ?_, (fun z => nomatch z), (fun _ z => ?_), fun _ _ q3 hq3 => ?_⟩
          · exact Nat.le_trans (show 1 + vs.length ≤ 3 by omega) (by decide)
          · rw [z] at l1; exact absurd l1 (by decide)
          · have s4 := Same.new (o := .tup ([V.str (kind t)] ++ vs)) hq3
            obtain ⟨t', ht', bt⟩ := at_mk (K := K) (H := upd (upd H' q2 (.tup vs)) q3 (.tup ([V.str (kind t)] ++ vs))) (p := q3) (vs := vs) cc (SqT.of upd_same) (pw_imp (fun _ _ z => TrAt.keep (KeepN.of (s3.trans s4)) z) pv1) pv2
            exact k _ (some t') _ (B2.same (s3.trans s4)) ((K06.Keep.same su1).trans (s2.trans (K06.Keep.same (s3.trans s4)))) ht' ⟨t', rfl, bt⟩
      · cases t with
        | bin _ _ _ => exact absurd rfl cc
        | not _ => exact absurd rfl cc
        | num i =>
          rw [show decide (kind (.num i) = Str.ofString "num") = true from decide_eq_true rfl]
          exact iteT ⟨_, rfl, k _ (some (.num i)) _ B (K06.Keep.refl _ _ _) hT ⟨_, rfl, .num⟩⟩
        | field t f =>
          rw [show decide (kind (.field t f) = Str.ofString "num") = false by show decide (Str.ofString "field" = _) = _; decide +kernel]
          refine iteF ?_
          dsimp only [tNext]
          refine sif ⟨_, rfl, p, _, 0, _, rfl, rfl, hp0, e0, rfl, _, rfl, ?_⟩
          rw [vS, show decide (kind (.field t f) = Str.ofString "field") = true from decide_eq_true rfl]
          refine iteT ?_
          obtain ⟨p', e, hp⟩ := hT
          cases e
          refine ⟨_, rfl, tt, rfl, ⟨_, ht⟩, fun D hD => ?_⟩
          have nD := B.ne hD
          refine lc_tup (K := K) (a := tt) (xs := ts.map V.str) (fun i H' => Same H H' ∧ H' D = some (.lst ((owners sh (ts.take i) f).map V.str)))
            ⟨same_new hD, upd_same⟩ (fun j H2 _ ⟨s2, _⟩ => (KeepN.of s2).t ht) ?_ ?_
          · rintro i y H' hi ⟨s1, hd⟩
            obtain ⟨x, ex, rfl⟩ := mapAt hi
            have tk : owners sh (ts.take (i + 1)) f = owners sh (ts.take i) f ++ if f ∈ flds1 sh x then [x] else [] := by
              rw [List.take_add_one, ex]
              show List.filter _ (ts.take i ++ [x]) = _
              rw [List.filter_append]
              by_cases c : f ∈ flds1 sh x
              · rw [if_pos c, List.filter_cons_of_pos (by simpa using c)]; rfl
              · rw [if_neg c, List.filter_cons_of_neg (by simpa using c)]; rfl
            refine ⟨rfl, _, rfl, p, _, 2, .str f, rfl, rfl, (KeepN.of s1).t hp, atI_nat (j := 2) rfl, ?_⟩
            refine ⟨_, rfl, d, rfl, isD (S.keep (KeepN.of s1)), _, rfl, by show 0 ≤ sizeLine; decide, fun e he => ?_⟩
            have se := same_new (o := .tup []) he
            obtain ⟨o, q, g, eo, hq⟩ := sh_get2 (e := e) (S.keep (KeepN.of (s1.trans se))) x (SqT.of upd_same)
            refine ⟨o, g, ?_⟩
            rw [eo]
            refine ⟨q, _, rfl, .inr hq, rfl, flS _, _, rfl, ?_⟩
            rw [if_neg Bool.false_ne_true, inS, tk]
            by_cases c : f ∈ flds1 sh x
            · rw [decide_eq_true c, if_pos c]
              refine ⟨_, rfl, _, se _ _ hd, Nat.lt_of_le_of_lt (show ((owners sh (ts.take i) f).map V.str).length ≤ 100 by rw [List.length_map]; exact Nat.le_trans (List.length_filter_le _ _) (Nat.le_trans (List.length_take_le' ..) few)) (by decide), fun b o e => by rw [upd_ne (ne_of_none e hD)]; exact se _ _ (s1 _ _ e), ?_⟩
              rw [upd_same, List.map_append]; rfl
            · rw [decide_eq_false c, if_neg c, List.append_nil]
              exact ⟨s1.trans se, se _ _ hd⟩
          · rintro H' ⟨s1, hd⟩
            rw [List.length_map, List.take_length] at hd
            refine gn ?_
            try dsimp only
            have okO : ∀ x ∈ owners sh ts f, PyData.strOk x = true := fun x m => oks x (List.mem_filter.mp m).1
            have ne : t ≠ sE ∧ PyData.strOk t = true := ne
            have hp1 := (KeepN.of s1).t hp
            refine ⟨_, rfl, _, rfl, p, _, 1, .str t, rfl, rfl, hp1, atI_nat (j := 1) rfl, by show 1 ≤ sizeLine; decide, fun l hl => ?_⟩
            have sl := Same.new (o := .lst [V.str t]) hl
            have s1l := s1.trans sl
            refine ⟨.list ((owners sh ts f).map PyData.str), .list ([t].map PyData.str), .lst (SqL.of (sl _ _ hd)) (dpS _), .lst (SqL.of upd_same) (dpS [t]), shS okO, shS (fun x m => by obtain rfl := List.mem_singleton.mp m; exact ne.2), _, rfl, ?_⟩
            rw [eqvL]
            have whole : ∀ H3, HAt H3 a b → Keep a b H H3 → ∀ t', Bare sh ts (.field t f) (.field t' f) → ∀ q, H3 q = none → Q (.ref q) (upd H3 q (.tup [.str (Str.ofString "field"), .str t', .str f])) := fun H3 B3 k3 t' bt q hq => by
              have s3 := Same.new (o := .tup [.str (Str.ofString "field"), .str t', .str f]) hq
              exact k _ (some (.field t' f)) _ (B3.same s3) (k3.trans (K06.Keep.same s3)) ⟨q, rfl, SqT.of upd_same⟩ ⟨_, rfl, bt⟩
            by_cases ce : owners sh ts f = [t]
            · rw [decide_eq_true ce]
              refine iteT ⟨_, rfl, a, b, 2, rfl, by decide, by decide, B.same s1l, fun z H3 z0 z2 B3 k3 => ⟨rfl, _, rfl, ?_⟩⟩
              have kk : Keep a b H H3 := (K06.Keep.same s1l).trans k3
              have hp3 := (kk.n B).t hp
              rw [vI]
              by_cases cz : z = 0
              · rw [decide_eq_true cz]
                exact iteT ⟨_, rfl, p, _, 2, .str f, rfl, rfl, hp3, atI_nat (j := 2) rfl, by show 3 ≤ sizeLine; decide, fun q hq => whole H3 B3 kk sE (.drop ce) q hq⟩
              · rw [decide_eq_false cz]
                exact iteF ⟨_, rfl, p, _, 1, .str t, rfl, rfl, hp3, atI_nat (j := 1) rfl, _, rfl, p, _, 2, .str f, rfl, rfl, hp3, atI_nat (j := 2) rfl, by show 3 ≤ sizeLine; decide, fun q hq => whole H3 B3 kk t .keep q hq⟩
            · rw [decide_eq_false ce]
              have hp3 := (KeepN.of s1l).t hp
              exact iteF (iteF ⟨_, rfl, p, _, 1, .str t, rfl, rfl, hp3, atI_nat (j := 1) rfl, _, rfl, p, _, 2, .str f, rfl, rfl, hp3, atI_nat (j := 2) rfl, by show 3 ≤ sizeLine; decide, fun q hq => whole _ (B.same s1l) (K06.Keep.same s1l) t .keep q hq⟩)
/-- at any depth -/
theorem all_bare {f fn : Addr} {fd fdn : FuncData} (F : Fun K "_law_bare" "_law_bare" s_l_bare f fd) (T : GS.Txt mg) (Cnext : K06.Cal P w K mg base 1 "_law_next" ["_law_h", "_law_many"] spNext fn fdn) (gF : mg "_law_bare" = some (.ref f)) (kF : PySem.W.keepIn K (.ref f) = true) (bF : Binds K fd ["_law_h", "_law_tree", "_law_shapes_here", "_law_tables"] []) : ∀ n : Nat, FnOk P w K mg base CX0 (n + 2) f fd ["_law_h", "_law_tree", "_law_shapes_here", "_law_tables"] (spBare K (n + 1))
  | 0 => ok_bare F T (Nat.le_refl _) Cnext gF kF bF (n := 0) (none_leftX fun vs H Q E ⟨_, _, v, c, _, _, _, _, _, _, _, h, h0, _⟩ => match c, h, h0 with | none, _, h0 => absurd (h0 rfl) (Nat.lt_irrefl 0) | some t, h, _ => Nat.not_lt_zero _ (h t rfl).2.2)
  | n + 1 => ok_bare F T (by omega) Cnext gF kF bF (all_bare F T Cnext gF kF bF n)
end
end GS

set_option linter.all false
set_option maxHeartbeats 4000000
namespace GS
open PySem L2 HX
open K06 hiding gn sa1 sif cb1 and2 or2 pw_mono Txt Cal
/-- a place in data -/
def Val : PyData → List Nat → Prop
  | _, [] => True
  | .tuple ds, k :: p => ∃ d, ds[k]? = some d ∧ Val d p
  | _, _ :: _ => False
def putD : PyData → List Nat → Str → PyData
  | _, [], w => .str w
  | .tuple ds, k :: p, w => match ds[k]? with | some d => .tuple (ds.take k ++ (putD d p w :: ds.drop (k + 1))) | none => .tuple ds
  | d, _ :: _, _ => d
def pathV (p : List Nat) : List V := p.map fun k : Nat => V.int (k : Int)
theorem Dp.same {K : PySem.W.Frag} {H H' : Hp} (s : Same H H') : ∀ {v : V} {d : PyData}, Dp K H v d → Dp K H' v d := by
  intro v d h
  exact Dp.rec (motive_1 := fun v d _ => Dp K H' v d) (motive_2 := fun vs ds _ => DpAll K H' vs ds) .non (fun b => .bl b) (fun i => .int i) (fun x => .str x) (fun h _ r => .lst (ak_sqL s h) r) (fun h _ r => .tup (ak_sqT s h) r) .nil (fun _ _ a b => .cons a b) h
theorem DpAll.same {K : PySem.W.Frag} {H H' : Hp} (s : Same H H') : ∀ {vs : List V} {ds : List PyData}, DpAll K H vs ds → DpAll K H' vs ds
  | _, _, .nil => .nil
  | _, _, .cons a b => .cons (Dp.same s a) (DpAll.same s b)
theorem Dp.ref {K : PySem.W.Frag} {H : Hp} {v : V} {ds : List PyData} (h : Dp K H v (.tuple ds)) : ∃ a xs, v = .ref a ∧ SqT K H a xs ∧ DpAll K H xs ds := by
  cases h with
  | tup a b => exact ⟨_, _, rfl, a, b⟩
theorem dpa_at {K : PySem.W.Frag} {H : Hp} : ∀ {vs : List V} {ds : List PyData} {i : Nat} {d : PyData}, DpAll K H vs ds → ds[i]? = some d → ∃ v, vs[i]? = some v ∧ Dp K H v d
  | _, _, 0, _, .cons a _, e => ⟨_, rfl, by cases e; exact a⟩
  | _, _, i + 1, _, .cons _ b, e => dpa_at (i := i) b e
theorem dpa_len {K : PySem.W.Frag} {H : Hp} : ∀ {vs : List V} {ds : List PyData}, DpAll K H vs ds → vs.length = ds.length
  | _, _, .nil => rfl
  | _, _, .cons _ b => congrArg (· + 1) (dpa_len b)
theorem dpa_take {K : PySem.W.Frag} {H : Hp} : ∀ (i : Nat) {vs : List V} {ds : List PyData}, DpAll K H vs ds → DpAll K H (vs.take i) (ds.take i)
  | 0, _, _, _ => .nil
  | i + 1, _, _, .nil => .nil
  | i + 1, _, _, .cons a b => .cons a (dpa_take i b)
theorem dpa_drop {K : PySem.W.Frag} {H : Hp} : ∀ (i : Nat) {vs : List V} {ds : List PyData}, DpAll K H vs ds → DpAll K H (vs.drop i) (ds.drop i)
  | 0, _, _, h => h
  | i + 1, _, _, .nil => .nil
  | i + 1, _, _, .cons _ b => dpa_drop i b
theorem dpa_app {K : PySem.W.Frag} {H : Hp} : ∀ {a c : List V} {b d : List PyData}, DpAll K H a b → DpAll K H c d → DpAll K H (a ++ c) (b ++ d)
  | _, _, _, _, .nil, h => h
  | _, _, _, _, .cons x r, h => .cons x (dpa_app r h)
theorem cat_ok {K : PySem.W.Frag} {H : Hp} {a b : Addr} {xs ys : List V} {Q : VK} (ha : SqT K H a xs) (hb : SqT K H b ys) (l : xs.length + ys.length ≤ 100000) (k : ∀ q H', Same H H' → SqT K H' q (xs ++ ys) → Q (.ref q) H') : rCatA K (.ref a) (.ref b) H Q := by
  refine ⟨a, b, xs, ys, rfl, rfl, ha, hb, Nat.le_trans l (by decide), fun e => ?_, fun _ e => ?_, fun _ _ p hp => ?_⟩
  · subst e; exact k b H (Same.refl _) hb
  · subst e; exact k a H (Same.refl _) (by rw [List.append_nil]; exact ha)
  · exact k p _ (same_new hp) (SqT.of upd_same)
theorem sl_from {K : PySem.W.Frag} {H : Hp} {p : Addr} {xs : List V} {i : Nat} {Q : VK} (h : SqT K H p xs) (k : ∀ q H', Same H H' → SqT K H' q (xs.drop i) → Q (.ref q) H') : rSlA K (.ref p) (some (i : Int)) none H Q := by
  refine ⟨p, xs, rfl, h, fun ⟨e, _⟩ => ?_, fun _ q hq => ?_⟩
  · rw [HT.sIx_nat] at e
    have : i = 0 ∨ xs.length = 0 := by omega
    rcases this with z | z
    · subst z; exact k p H (Same.refl _) h
    · have : xs = [] := List.length_eq_zero_iff.mp z
      subst this
      exact k p H (Same.refl _) (by rw [List.drop_nil]; exact h)
  · have ecut : cutV xs (some (i : Int)) none = xs.drop i := by
      unfold cutV
      rw [HT.sIx_nat, HT.sIx_none]
      by_cases c : i ≤ xs.length
      · rw [Nat.min_eq_left c, List.take_of_length_le (by rw [List.length_drop]; exact Nat.le_refl _)]
      · rw [Nat.min_eq_right (by omega), List.drop_length, List.take_nil, List.drop_of_length_le (by omega)]
    rw [ecut]
    exact k q _ (same_new hq) (SqT.of upd_same)
theorem dpI {K : PySem.W.Frag} {H : Hp} : ∀ p : List Nat, DpAll K H (pathV p) (p.map fun k : Nat => PyData.int (k : Int))
  | [] => .nil
  | k :: p => .cons (.int k) (dpI p)
theorem layI : ∀ p : List Nat, PyData.canLayAll0 (p.map fun k : Nat => PyData.int (k : Int)) = true ∧ PyData.depthAll (p.map fun k : Nat => PyData.int (k : Int)) ≤ 1
  | [] => by simp [PyData.canLayAll0, PyData.depthAll]
  | k :: p => by
    obtain ⟨a, b⟩ := layI p
    refine ⟨by simp [PyData.canLayAll0, PyData.canLay0, a], ?_⟩
    simp only [List.map_cons, PyData.depthAll, PyData.depth]
    omega
theorem shI (p : List Nat) : SeqAt.shaped (.tuple (p.map fun k : Nat => PyData.int (k : Int))) = true := by
  obtain ⟨a, b⟩ := layI p
  show (PyData.canLay0 (.tuple (p.map fun k : Nat => PyData.int (k : Int))) && decide (PyData.depth (.tuple (p.map fun k : Nat => PyData.int (k : Int))) ≤ 64)) = true
  rw [Bool.and_eq_true]
  refine ⟨by simp only [PyData.canLay0]; exact a, decide_eq_true ?_⟩
  simp only [PyData.depth]
  omega
def short : PyData → Prop
  | .tuple ds => ds.length ≤ 1000
  | _ => True
/-- tuples on the way are short -/
def ShortP : PyData → List Nat → Prop
  | .tuple ds, k :: p => ds.length ≤ 1000 ∧ ∀ d, ds[k]? = some d → ShortP d p
  | _, _ => True
def spPut (K : PySem.W.Frag) (n : Nat) : Sp := fun vs H Q _ => ∃ (v : V) (pp : Addr) (w : Str) (d : PyData) (p : List Nat), vs = [v, .ref pp, .str w] ∧ Dp K H v d ∧ SqT K H pp (pathV p) ∧ Val d p ∧ ShortP d p ∧ p.length < n ∧ ∀ v' H', Same H H' → Dp K H' v' (putD d p w) → Q v' H'
section
variable {P : Program} {w : World} {K : PySem.W.Frag} {mg : Str → Option Value} {base : Heap}
theorem scPu : FnScope ["_law_one", "_law_path", "_law_word_here", "_law_at"] ["_law_one", "_law_path", "_law_word_here"] (defScope s_l_put) := ⟨rfl, rfl, rfl, by decide +kernel, rfl, by decide +kernel, by decide +kernel⟩
theorem ok_put {n j : Nat} {f fF : Addr} {fd fdF : FuncData} (F : Fun K "_law_put" "_law_put" s_l_put f fd) (gF : mg "_law_put" = some (.ref fF)) (kF : PySem.W.keepIn K (.ref fF) = true) (bF : Binds K fdF ["_law_one", "_law_path", "_law_word_here"] []) (G0 : FnOk P w K mg base CX0 j fF fdF ["_law_one", "_law_path", "_law_word_here"] (spPut K n)) :
    FnOk P w K mg base CX0 (j + 1) f fd ["_law_one", "_law_path", "_law_word_here"] (spPut K (n + 1)) := by
  refine F.ok scPu (fun vs H Q E h => ?_) (fun cdv A outer s H vs Q E hr h => ?_)
  · obtain ⟨v, pp, w, d, p, rfl, _⟩ := h
    rfl
  · obtain ⟨v, pp, w, d, p, rfl, hv, hp, va, sP, lp, k⟩ := h
    have hr1 : Room j _ := hr
    refine ⟨_, (pss_cons (ps_if (pt_cmpR (RK.eqD (K := K) hr.units) (pv 1) (pe_tup pa_nil) (nomark _)) (pss_one (ps_ret (pv 2))) pss_nil)
      (pss_cons (ps_set (i := 3) scPu.nd rfl (Or.inl rfl) (pe_ix (RK.ixT (K := K)) (pv 1) pe_int (fun _ _ => rfl)))
      (pss_one (ps_ret (pe_op (RK.catT (K := K)) (pe_op (RK.catT (K := K)) (pe_slice (RK.slT (K := K)) (pv 0) po_none (po_some (pv 3))) (pe_tup (pa_cons (pe_call G0 hr1 (by rfl) gF kF bF .nil pass0 (pa_cons (pe_ix (RK.ixT (K := K)) (pv 0) (pv 3) (fun _ _ => rfl)) (pa_cons (pe_slice (RK.slT (K := K)) (pv 1) (po_some pe_int) po_none) (pa_cons (pv 2) pa_nil)))) pa_nil))) (pe_slice (RK.slT (K := K)) (pv 0) (po_some (pe_op op_add (pv 3) pe_int)) po_none)))))), ?_⟩

    refine sif ⟨_, rfl, by show 0 ≤ sizeLine; decide, fun e he => ?_⟩
    have se := same_new (o := .tup []) he
    refine ⟨.tuple (p.map fun k : Nat => PyData.int (k : Int)), .tuple [], .tup ((KeepN.of se).t hp) (dpI p), .tup (SqT.of upd_same) .nil, shI p, shI [], _, rfl, ?_⟩
    cases p with
    | nil =>
      rw [show PyData.eqv (.tuple (([] : List Nat).map fun k : Nat => PyData.int (k : Int))) (.tuple []) = true by simp [PyData.eqv, PyData.eqvAll]]
      exact iteT ⟨_, rfl, k _ _ se (.str w)⟩
    | cons i p =>
      rw [show PyData.eqv (.tuple ((i :: p).map fun k : Nat => PyData.int (k : Int))) (.tuple []) = false by simp [PyData.eqv, PyData.eqvAll]]
      refine iteF ?_
      dsimp only [tNext]
      cases d with
      | tuple ds =>
        obtain ⟨di, ei, vai⟩ := va
        obtain ⟨a, xs, rfl, ha, hds⟩ := Dp.ref (Dp.same se hv)
        obtain ⟨vi, evi, hvi⟩ := dpa_at hds ei
        have hp1 := (KeepN.of se).t hp
        have lds : ds.length ≤ 1000 := sP.1
        have lxs : xs.length = ds.length := dpa_len hds
        refine sa1 ⟨_, rfl, pp, _, 0, .int (i : Nat), rfl, rfl, hp1, atI_nat (j := 0) rfl, gn ?_⟩
        try dsimp only
        generalize upd H e (.tup []) = H1 at se ha hds hvi hp1 ⊢
        refine ⟨_, rfl, _, rfl, i, rfl, ?_⟩
        dsimp only
        refine sl_to ha fun q1 H2 s2 h1 => ?_
        have ha2 := (KeepN.of s2).t ha
        refine ⟨_, rfl, _, rfl, a, _, (i : Nat), vi, rfl, rfl, ha2, atI_nat evi, _, rfl, 1, rfl, ?_⟩
        dsimp only [tNoPart]
        refine sl_from (i := 1) ((KeepN.of s2).t hp1) fun q2 H3 s3 h2 => ?_
        have s23 := s2.trans s3
        have h2' : SqT K H3 q2 (pathV p) := h2
        refine ⟨_, rfl, vi, q2, w, di, p, rfl, Dp.same s23 hvi, h2', vai, sP.2 di ei, Nat.lt_of_succ_lt_succ lp, fun v' H4 s4 h4 => ⟨by show 1 ≤ sizeLine; decide, fun q3 hq3 => ?_⟩⟩
        have s5 := same_new (o := .tup [v']) hq3
        refine cat_ok (ys := [v']) ((KeepN.of (s3.trans (s4.trans s5))).t h1) (SqT.of upd_same) ?_ fun q4 H5 s6 h5 => ?_
        · rw [List.length_take]; show min i xs.length + 1 ≤ _; omega
        have s16 := s2.trans (s3.trans (s4.trans (s5.trans s6)))
        refine ⟨_, rfl, _, rfl, _, _, rfl, rfl, ((i + 1 : Nat) : Int), by show V.int ((i : Int) + 1) = V.int ((i + 1 : Nat) : Int); rw [Int.natCast_add]; rfl, ?_⟩
        dsimp only [tNoPart]
        refine sl_from (i := i + 1) ((KeepN.of s16).t ha) fun q5 H6 s7 h6 => ?_
        refine cat_ok ((KeepN.of s7).t h5) h6 ?_ fun q6 H7 s8 h7 => ?_
        · rw [List.length_append, List.length_take, List.length_drop]; show min i xs.length + 1 + (xs.length - (i + 1)) ≤ _; omega
        have s18 := s16.trans (s7.trans s8)
        have ed : putD (.tuple ds) (i :: p) w = .tuple (ds.take i ++ (putD di p w :: ds.drop (i + 1))) := by
          show (match ds[i]? with | some d => PyData.tuple (ds.take i ++ (putD d p w :: ds.drop (i + 1))) | none => .tuple ds) = _
          rw [ei]
        refine k _ _ (se.trans s18) ?_
        rw [ed]
        have e7 : xs.take i ++ [v'] ++ xs.drop (i + 1) = xs.take i ++ (v' :: xs.drop (i + 1)) := by rw [List.append_assoc]; rfl
        rw [e7] at h7
        exact .tup h7 (dpa_app (dpa_take i (DpAll.same s18 hds)) (.cons (Dp.same (s5.trans (s6.trans (s7.trans s8))) h4) (dpa_drop (i + 1) (DpAll.same s18 hds))))
      | _ => exact va.elim
/-- at any depth -/
theorem all_put {f : Addr} {fd : FuncData} (F : Fun K "_law_put" "_law_put" s_l_put f fd) (gF : mg "_law_put" = some (.ref f)) (kF : PySem.W.keepIn K (.ref f) = true) (bF : Binds K fd ["_law_one", "_law_path", "_law_word_here"] []) : ∀ n : Nat, FnOk P w K mg base CX0 n f fd ["_law_one", "_law_path", "_law_word_here"] (spPut K n)
  | 0 => none_leftX fun vs H Q E ⟨_, _, _, _, _, _, _, _, _, _, h, _⟩ => Nat.not_lt_zero _ h
  | n + 1 => ok_put F gF kF bF (all_put F gF kF bF n)
end
end GS

set_option linter.all false
set_option maxHeartbeats 4000000
namespace GS
open PySem L2 HX
open K06 hiding gn sa1 sif cb1 and2 or2 pw_mono Txt Cal
def isAsk : PyData → Bool
  | .str x => decide (x = Str.ofString "ask")
  | _ => false
def isHead : PyData → Bool
  | .str x => decide (x ∈ words19)
  | _ => false
def beg : List PyData → Nat
  | [] => 0
  | d :: _ => if isAsk d = true then 2 else if isHead d = true then 1 else 0
/-- places of all names -/
def lvD : Nat → PyData → List Nat → List (List Nat)
  | 0, _, _ => []
  | n + 1, .str _, p => [p]
  | n + 1, .tuple ds, p => (List.range' (beg ds) (ds.length - beg ds)).flatMap fun k => lvD n (ds.getD k .none) (p ++ [k])
  | n + 1, _, _ => []
def Good : Nat → PyData → Prop
  | 0, _ => False
  | _ + 1, .str _ => True
  | _ + 1, .int _ => True
  | _ + 1, .none => True
  | n + 1, .tuple ds => ds.length ≤ 1000 ∧ ∀ d ∈ ds, Good n d
  | _ + 1, _ => False
def PAt (K : PySem.W.Frag) (H : Hp) (v : V) (p : List Nat) : Prop := ∃ a, v = .ref a ∧ SqT K H a (pathV p)
theorem PAt.same {K : PySem.W.Frag} {H H' : Hp} (s : Same H H') {v : V} {p : List Nat} (h : PAt K H v p) : PAt K H' v p := by
  obtain ⟨a, e, h⟩ := h
  exact ⟨a, e, (KeepN.of s).t h⟩
theorem dpa_keep {K : PySem.W.Frag} {H : Hp} : True := trivial
theorem lay_in : ∀ {ds : List PyData} {d : PyData}, PyData.canLayAll0 ds = true → d ∈ ds → PyData.canLay0 d = true ∧ PyData.depth d ≤ PyData.depthAll ds
  | x :: ds, d, h, m => by
    have h : (PyData.canLay0 x && PyData.canLayAll0 ds) = true := by simpa [PyData.canLayAll0] using h
    rw [Bool.and_eq_true] at h
    rcases List.mem_cons.mp m with rfl | m
    · exact ⟨h.1, by simp only [PyData.depthAll]; omega⟩
    · obtain ⟨a, b⟩ := lay_in h.2 m
      exact ⟨a, by simp only [PyData.depthAll]; omega⟩
theorem shd_in {ds : List PyData} {d : PyData} (h : SeqAt.shaped (.tuple ds) = true) (m : d ∈ ds) : SeqAt.shaped d = true := by
  have h : (PyData.canLay0 (.tuple ds) && decide (PyData.depth (.tuple ds) ≤ 64)) = true := h
  rw [Bool.and_eq_true] at h
  have h1 : PyData.canLayAll0 ds = true := by simpa [PyData.canLay0] using h.1
  have h2 := of_decide_eq_true h.2
  simp only [PyData.depth] at h2
  obtain ⟨a, b⟩ := lay_in h1 m
  show (PyData.canLay0 d && decide (PyData.depth d ≤ 64)) = true
  rw [Bool.and_eq_true]
  exact ⟨a, decide_eq_true (by omega)⟩
/-- the heap by what is known of it -/
theorem gen_h {t : TS} {D : Ends} {σ : L2.St} {H : Hp} (R : Hp → Prop) (r : R H) (h : ∀ G, R G → t D σ G) : t D σ H := h H r
def spLv (K : PySem.W.Frag) (n : Nat) : Sp := fun vs H Q _ => ∃ (v : V) (pp : Addr) (d : PyData) (p : List Nat), vs = [v, .ref pp] ∧ Dp K H v d ∧ SqT K H pp (pathV p) ∧ Good n d ∧ SeqAt.shaped d = true ∧ (lvD n d p).length ≤ 100000 ∧ p.length + n ≤ 1000 ∧
  ∀ l us H', Same H H' → H l = none → H' l = some (.lst us) → Paired (PAt K H') us (lvD n d p) → Q (.ref l) H'
def isStr : PyData → Bool
  | .str _ => true
  | _ => false
theorem tyS {K : PySem.W.Frag} {H : Hp} {v : V} {d : PyData} {m : Nat} (h : Dp K H v d) (g : Good m d) : ∃ cv b, TyX K H v cv ∧ PySem.W.kitOne K cv (.type "str") = some b ∧ b = isStr d := by
  have kS : PySem.W.kitOne K (.type "str") (.type "str") = some true := by unfold PySem.W.kitOne; rw [if_pos (by decide)]
  have kIs : PySem.W.kitOne K (.type "int") (.type "str") = some false := by first | rfl | decide +kernel
  have kNs : PySem.W.kitOne K (.type "NoneType") (.type "str") = some false := by first | rfl | decide +kernel
  have kTs : PySem.W.kitOne K (.type "tuple") (.type "str") = some false := by first | rfl | decide +kernel
  cases m with
  | zero => exact g.elim
  | succ m =>
    cases h with
    | non => exact ⟨_, false, .base .non, kNs, rfl⟩
    | int i => exact ⟨_, false, .base (.int i), kIs, rfl⟩
    | str x => exact ⟨_, true, .base (.str x), kS, rfl⟩
    | tup a b => exact ⟨_, false, akT a, kTs, rfl⟩
    | bl b => exact g.elim
    | lst a b => exact g.elim
/-- what of a tuple is no name: where names begin -/
theorem te_beg {K : PySem.W.Frag} {H : Hp} {σ : L2.St} {Q : VK} {a w2 : Addr} {v0 : V} {vs : List V} {d0 : PyData} {m : Nat} (s0 : σ[0]? = some (some (.ref a))) (s2 : σ[2]? = some (some (.ref w2))) (ha : SqT K H a (v0 :: vs)) (h0 : Dp K H v0 d0) (g0 : Good m d0) (ew2 : H w2 = some (.lst (words19.map V.str))) (k : Q (.int (if isHead d0 = true then 1 else 0)) H) :
    tCB (fun xs H Q => (∃ i, xs = [V.int i] ∧ Q (V.int i) H) ∨ ∃ k, xs = [V.bl k] ∧ Q (V.int (if k = true then 1 else 0)) H)
      (tCons (tAndV (tCB (rIsi K) (tCons (tOp (rIxT K) (tVar 0) (tC (V.int 0))) (tCons (tC (V.ty "str")) tNil))) (tOp (rIn K false) (tOp (rIxT K) (tVar 0) (tC (V.int 0))) (tVar 2))) tNil) σ H Q := by
  obtain ⟨cv0, b0, u1, u2, u3⟩ := tyS (K := K) h0 g0
  have at0 : atI (v0 :: vs) 0 = some v0 := atI_nat (j := 0) rfl
  refine ⟨_, s0, a, _, 0, v0, rfl, rfl, ha, at0, _, _, _, _, b0, rfl, .ty "str", u1, u2, _, rfl, ?_⟩
  cases d0 with
  | str x =>
    subst u3
    cases h0
    refine iteT ⟨_, s0, a, _, 0, _, rfl, rfl, ha, at0, _, s2, w2, _, rfl, .inl (SqL.of ew2), rfl, flS _, ?_⟩
    rw [if_neg Bool.false_ne_true, inS]
    exact .inr ⟨_, rfl, k⟩
  | _ => subst u3; exact iteF (.inr ⟨false, rfl, k⟩)
section
variable {P : Program} {w : World} {K : PySem.W.Frag} {mg : Str → Option Value} {base : Heap}
theorem scLv : FnScope ["_law_one", "_law_path", "_law_words", "_law_found", "_law_begin", "_law_k"] ["_law_one", "_law_path"] (defScope s_l_leaves) := ⟨rfl, rfl, rfl, by decide +kernel, rfl, by decide +kernel, by decide +kernel⟩
theorem ok_lv {n j : Nat} {f fF : Addr} {fd fdF : FuncData} (F : Fun K "_law_leaves" "_law_leaves" s_l_leaves f fd) (T : GS.Txt mg) (gF : mg "_law_leaves" = some (.ref fF)) (kF : PySem.W.keepIn K (.ref fF) = true) (bF : Binds K fdF ["_law_one", "_law_path"] []) (G0 : FnOk P w K mg base CX0 j fF fdF ["_law_one", "_law_path"] (spLv K n)) :
    FnOk P w K mg base CX0 (j + 1) f fd ["_law_one", "_law_path"] (spLv K (n + 1)) := by
  have kS : PySem.W.kitOne K (.type "str") (.type "str") = some true := by unfold PySem.W.kitOne; rw [if_pos (by decide)]
  have kT : PySem.W.kitOne K (.type "tuple") (.type "tuple") = some true := by unfold PySem.W.kitOne; rw [if_pos (by decide)]
  have kIs : PySem.W.kitOne K (.type "int") (.type "str") = some false := by first | rfl | decide +kernel
  have kNs : PySem.W.kitOne K (.type "NoneType") (.type "str") = some false := by first | rfl | decide +kernel
  have kTs : PySem.W.kitOne K (.type "tuple") (.type "str") = some false := by first | rfl | decide +kernel
  have kIt : PySem.W.kitOne K (.type "int") (.type "tuple") = some false := by first | rfl | decide +kernel
  have kNt : PySem.W.kitOne K (.type "NoneType") (.type "tuple") = some false := by first | rfl | decide +kernel
  refine F.ok scLv (fun vs H Q E h => ?_) (fun cdv A outer s H vs Q E hr h => ?_)
  · obtain ⟨v, pp, d, p, rfl, _⟩ := h
    rfl
  · obtain ⟨v, pp, d, p, rfl, hv, hp, gd, sd, fewL, lp, k⟩ := h
    have hr1 : Room j _ := hr
    refine ⟨_, (pss_cons (ps_if (pt_val (pe_callB (RK.isi (K := K)) (by rfl) T.isinstance (by decide +kernel) (pa_cons (pv 0) (pa_cons (pe_bltn (v := .ty "str") (u := .type "str") (by rfl) T.str (by decide +kernel) rfl) pa_nil)))) (pss_one (ps_ret (pe_lst (pa_cons (pv 1) pa_nil)))) pss_nil)
      (pss_cons (ps_set (i := 2) scLv.nd rfl (Or.inl rfl) (pe_lst (pa_cons pe_str (pa_cons pe_str (pa_cons pe_str (pa_cons pe_str (pa_cons pe_str (pa_cons pe_str (pa_cons pe_str (pa_cons pe_str (pa_cons pe_str (pa_cons pe_str (pa_cons pe_str (pa_cons pe_str (pa_cons pe_str (pa_cons pe_str (pa_cons pe_str (pa_cons pe_str pa_nil))))))))))))))))))
      (pss_cons (ps_par (i := 3) (j := 2) (by rfl) scLv.nd rfl rfl (by decide) rfl rfl (pa_cons (pe_lst pa_nil) (pa_cons (pe_op op_cat (pv 2) (pe_lst (pa_cons pe_str (pa_cons pe_str (pa_cons pe_str pa_nil))))) pa_nil)) (by rfl))
      (pss_cons (ps_if (PW.pt (pw_and (pt_val (pe_callB (RK.isi (K := K)) (by rfl) T.isinstance (by decide +kernel) (pa_cons (pv 0) (pa_cons (pe_bltn (v := .ty "tuple") (u := .type "tuple") (by rfl) T.tuple (by decide +kernel) rfl) pa_nil)))) (pw_and1 (pt_cmpR (NE.op_neT (K := K) (by have z := hr.units; exact Nat.lt_of_le_of_lt (Nat.add_le_add_left (by decide) _) z)) (pv 0) (pe_tup pa_nil) (nomark _))))) (pss_cons (ps_set (i := 4) scLv.nd rfl (Or.inl rfl) (pe_callTy call_int1 (by rfl) T.int (by decide +kernel) (pa_cons (pe_and (pe_callB (RK.isi (K := K)) (by rfl) T.isinstance (by decide +kernel) (pa_cons (pe_ix (RK.ixT (K := K)) (pv 0) pe_int (fun _ _ => rfl)) (pa_cons (pe_bltn (v := .ty "str") (u := .type "str") (by rfl) T.str (by decide +kernel) rfl) pa_nil))) (pe_one (pe_cmpR (RK.inQ (K := K)) (pe_ix (RK.ixT (K := K)) (pv 0) pe_int (fun _ _ => rfl)) (pv 2) (by rfl)))) pa_nil)))
        (pss_cons (ps_set (i := 4) scLv.nd rfl (Or.inl rfl) (pe_ifExp (pt_cmpR (RK.eqD (K := K) hr.units) (pe_ix (RK.ixT (K := K)) (pv 0) pe_int (fun _ _ => rfl)) pe_str (nomark _)) pe_int (pv 4)))
        (pss_one (ps_for PassesOwn.never rfl (pi_range2 rfl T.range (pa_cons (pv 4) (pa_cons (pe_callB (RK.lenQ (K := K)) (by rfl) T.len PySem.boot_len (pa_cons (pv 0) pa_nil)) pa_nil))) (pg_name (i := 5) scLv.nd rfl (Or.inl rfl))
          (pss_one (ps_set (i := 3) scLv.nd rfl (Or.inl rfl) (pe_op op_cat (pv 3) (pe_call G0 hr1 (by rfl) gF kF bF .nil pass0 (pa_cons (pe_ix (RK.ixT (K := K)) (pv 0) (pv 5) (fun _ _ => rfl)) (pa_cons (pe_op (RK.catT (K := K)) (pv 1) (pe_tup (pa_cons (pv 5) pa_nil))) pa_nil)))))))))) pss_nil)
      (pss_one (ps_ret (pv 3))))))), ?_⟩

    obtain ⟨cv, bb, t1, t2, t3⟩ := tyS (K := K) hv gd
    refine sif ⟨_, rfl, v, _, _, _, bb, rfl, .ty "str", t1, t2, _, rfl, ?_⟩
    by_cases isS : ∃ x, d = .str x
    · obtain ⟨x, rfl⟩ := isS
      cases hv
      subst t3
      exact iteT ⟨_, rfl, by show 1 ≤ sizeLine; decide, fun l hl => k l [.ref pp] _ (same_new hl) hl upd_same (.cons ⟨pp, rfl, (KeepN.of (same_new hl)).t hp⟩ .nil)⟩
    have bf : bb = false := by
      rw [t3]
      cases d with
      | str x => exact absurd ⟨x, rfl⟩ isS
      | _ => rfl
    subst bf
    refine iteF ?_
    dsimp only [tNext]
    refine sa1 ⟨by show 16 ≤ sizeLine; decide, fun wl hwl => gn ?_⟩
    try dsimp only
    have sw := same_new (o := .lst (words16.map V.str)) hwl
    refine ⟨by show 0 ≤ sizeLine; decide, fun fl hfl => ⟨_, rfl, by show 3 ≤ sizeLine; decide, fun l3 hl3 => ⟨wl, l3, _, _, rfl, rfl, (same_new hl3) _ _ ((same_new hfl) _ _ upd_same), upd_same, by show 19 ≤ sizeLine; decide, fun w2 hw2 => ⟨_, _, rfl, ?_⟩⟩⟩⟩
    have sf := same_new (o := .lst []) hfl
    have s3 := same_new (o := .lst [.str (Str.ofString "strike"), .str (Str.ofString "table"), .str (Str.ofString "index")]) hl3
    have s4 := same_new (o := .lst (words16.map V.str ++ [.str (Str.ofString "strike"), .str (Str.ofString "table"), .str (Str.ofString "index")])) hw2
    have sH : Same H _ := sw.trans (sf.trans (s3.trans s4))
    have fl0 : H fl = none := none_of_same sw hfl
    have efl : (upd (upd (upd (upd H wl (.lst (words16.map V.str))) fl (.lst [])) l3 (.lst [.str (Str.ofString "strike"), .str (Str.ofString "table"), .str (Str.ofString "index")])) w2 (.lst (words16.map V.str ++ [.str (Str.ofString "strike"), .str (Str.ofString "table"), .str (Str.ofString "index")]))) fl = some (.lst []) := (s3.trans s4) _ _ upd_same
    have ew2 : (upd (upd (upd (upd H wl (.lst (words16.map V.str))) fl (.lst [])) l3 (.lst [.str (Str.ofString "strike"), .str (Str.ofString "table"), .str (Str.ofString "index")])) w2 (.lst (words16.map V.str ++ [.str (Str.ofString "strike"), .str (Str.ofString "table"), .str (Str.ofString "index")]))) w2 = some (.lst (words19.map V.str)) := upd_same
    refine at_stD (σ' := [some v, some (.ref pp), some (.ref w2), some (.ref fl), none, none]) rfl ?_
    refine gen_h (R := fun G => Same H G ∧ G fl = some (.lst []) ∧ G w2 = some (.lst (words19.map V.str))) ⟨sH, efl, ew2⟩ fun G ⟨sH, efl, ew2⟩ => ?_
    clear sf s3 s4 sw
    have none1 : lvD (n + 1) d p = [] → tRet (tVar 3) { nx := fun x H' => Q V.non H', rt := Q } [some v, some (.ref pp), some (.ref w2), some (.ref fl), none, none] G := fun e =>
      ⟨_, rfl, k fl [] G sH fl0 efl (by rw [e]; exact .nil)⟩
    try dsimp only
    have hv1 := Dp.same sH hv
    have hp1 := (KeepN.of sH).t hp
    cases hv1 with
    | bl b => exact gd.elim
    | lst a b => exact gd.elim
    | str x => exact absurd ⟨x, rfl⟩ isS
    | non => exact sif ⟨_, rfl, _, _, _, _, false, rfl, .ty "tuple", .base .non, kNt, _, rfl, iteF (iteF (none1 rfl))⟩
    | int i => exact sif ⟨_, rfl, _, _, _, _, false, rfl, .ty "tuple", .base (.int i), kIt, _, rfl, iteF (iteF (none1 rfl))⟩
    | @tup a xs ds ha hds =>
      refine sif ⟨_, rfl, _, _, _, _, true, rfl, .ty "tuple", akT ha, kT, _, rfl, iteT ⟨_, rfl, by show 0 ≤ sizeLine; decide, fun e he => ⟨a, e, xs, rfl, rfl, ak_sqT (same_new he) ha, SqT.of upd_same, _, rfl, ?_⟩⟩⟩
      have se := same_new (o := .tup []) he
      cases hds with
      | nil =>
        refine iteF ?_
        exact ⟨_, rfl, k fl [] _ (sH.trans se) fl0 (se _ _ efl) .nil⟩
      | @cons v0 vs d0 ds' h0 hds' =>
        refine iteT ?_
        have gd : (d0 :: ds').length ≤ 1000 ∧ ∀ d ∈ d0 :: ds', Good n d := gd
        have sG := sH.trans se
        have ha := ak_sqT se ha
        have h0 := Dp.same se h0
        have hds' := DpAll.same se hds'
        have hp1 := (KeepN.of se).t hp1
        have efl := se _ _ efl
        have ew2 := se _ _ ew2
        generalize upd G e (.tup []) = G2 at sG ha h0 hds' hp1 efl ew2 ⊢
        have at0 : atI (v0 :: vs) 0 = some v0 := atI_nat (j := 0) rfl
        refine sa1 (te_beg rfl rfl ha h0 (gd.2 d0 List.mem_cons_self) ew2 (gn ?_))
        have shd := shd_in sd (List.mem_cons_self (a := d0) (l := ds'))
        refine sa1 ⟨_, rfl, a, _, 0, v0, rfl, rfl, ha, at0, d0, .str (Str.ofString "ask"), h0, .str _, shd, by decide +kernel, _, rfl, ?_⟩
        have eqA : PyData.eqv d0 (.str (Str.ofString "ask")) = isAsk d0 := by
          cases d0 with
          | str x =>
            rw [eqv_str]
            show (x == Str.ofString "ask") = decide (x = Str.ofString "ask")
            by_cases c : x = Str.ofString "ask" <;> simp [c]
          | _ => simp [PyData.eqv, isAsk]
        rw [eqA]
        have lds : vs.length = ds'.length := dpa_len hds'
        have l1000 : ds'.length + 1 ≤ 1000 := gd.1
        have hall : DpAll K G2 (v0 :: vs) (d0 :: ds') := .cons h0 hds'
        generalize hds : d0 :: ds' = ds at gd sd fewL k hall
        have lx : (v0 :: vs).length = ds.length := dpa_len hall
        have lz : ds.length ≤ 1000 := gd.1
        have total : lvD (n + 1) (.tuple ds) p = (List.range' (beg ds) (ds.length - beg ds)).flatMap fun k => lvD n (ds.getD k .none) (p ++ [k]) := rfl
        generalize v0 :: vs = xs at ha hall lx
        have b2 : beg ds ≤ 2 := by
          rw [← hds]
          show (if isAsk d0 = true then 2 else if isHead d0 = true then 1 else 0) ≤ 2
          split
          · exact Nat.le_refl _
          · split <;> omega
        have pre : ∀ i, i ≤ ds.length - beg ds → ((List.range' (beg ds) i).flatMap fun k => lvD n (ds.getD k .none) (p ++ [k])).length ≤ 100000 := fun i hi => by
          have e : List.range' (beg ds) (ds.length - beg ds) = List.range' (beg ds) i ++ List.range' (beg ds + i) (ds.length - beg ds - i) := by
            have := List.range'_append_1 (s := beg ds) (m := i) (n := ds.length - beg ds - i)
            rw [this]
            congr 1
            omega
          rw [total, e, List.flatMap_append, List.length_append] at fewL
          omega
        have loop : ∀ s4 : Int, s4 = (beg ds : Nat) → tFor (iRng2 (tCons (tVar 4) (tCons (tCB (RK.rLenQ K) (tCons (tVar 0) tNil)) tNil))) (gName 5)
            (tAsg (tOp rCat (tVar 3) (tCall (spLv K n) [] E0 (tCons (tOp (rIxT K) (tVar 0) (tVar 5)) (tCons (tOp (rCatA K) (tVar 1) (tTup (tCons (tVar 5) tNil))) tNil)))) (gName 3))
            { nx := tRet (tVar 3) { nx := fun x H' => Q V.non H', rt := Q }, rt := Q } [some (.ref a), some (.ref pp), some (.ref w2), some (.ref fl), some (.int s4), none] G2 := fun s4 es4 => by
          refine ⟨_, rfl, _, rfl, a, _, rfl, .inr ha, _, _, rfl, by omega, for_range (lo := s4) (n := ((xs.length : Nat) - s4 : Int).toNat) (fun i σ H' => ∃ r us v5, σ = [some (.ref a), some (.ref pp), some (.ref w2), some (.ref r), some (.int s4), v5] ∧ Same G2 H' ∧ H r = none ∧ H' r = some (.lst us) ∧ Paired (PAt K H') us ((List.range' (beg ds) i).flatMap fun k => lvD n (ds.getD k .none) (p ++ [k])))
            ⟨fl, [], none, rfl, Same.refl _, fl0, efl, .nil⟩ ?_ ?_⟩
          · rintro i σ H' hi ⟨r, us, v5, rfl, s1, r0, er, pw⟩
            have li : beg ds + i < ds.length := by omega
            obtain ⟨dk, edk⟩ : ∃ dk, ds[beg ds + i]? = some dk := ⟨_, List.getElem?_eq_getElem li⟩
            obtain ⟨vk, evk, hk⟩ := dpa_at hall edk
            have gk := gd.2 dk (List.mem_of_getElem? edk)
            have zk : s4 + ((i : Nat) : Int) = ((beg ds + i : Nat) : Int) := by rw [es4]; omega
            have e1 : List.range' (beg ds) (i + 1) = List.range' (beg ds) i ++ [beg ds + i] := by
              rw [← List.range'_append_1]; rfl
            have egd : ds.getD (beg ds + i) .none = dk := by rw [List.getD_eq_getElem?_getD, edk]; rfl
            have lp1 := pre (i + 1) (by omega)
            rw [e1, List.flatMap_append, List.length_append] at lp1
            have lp2 : (lvD n dk (p ++ [beg ds + i])).length ≤ 100000 - ((List.range' (beg ds) i).flatMap fun k => lvD n (ds.getD k .none) (p ++ [k])).length := by
              have : ([beg ds + i].flatMap fun k => lvD n (ds.getD k .none) (p ++ [k])) = lvD n dk (p ++ [beg ds + i]) := by
                show lvD n (ds.getD (beg ds + i) .none) (p ++ [beg ds + i]) ++ [] = _
                rw [List.append_nil, egd]
              rw [this] at lp1
              omega
            have sk := s1
            refine gn ?_
            rw [zk]
            refine ⟨_, rfl, _, rfl, _, rfl, a, _, _, vk, rfl, rfl, (KeepN.of s1).t ha, atI_nat evk, _, rfl, _, rfl, by show 1 ≤ sizeLine; decide, fun q1 hq1 => ?_⟩
            have s2 := same_new (o := .tup [.int ((beg ds + i : Nat) : Int)]) hq1
            refine cat_ok ((KeepN.of (s1.trans s2)).t hp1) (SqT.of upd_same) ?_ fun q2 H3 s3 h3 => ?_
            · show (pathV p).length + 1 ≤ _
              unfold pathV
              rw [List.length_map]; omega
            have s13 := s1.trans (s2.trans s3)
            have h3' : SqT K H3 q2 (pathV (p ++ [beg ds + i])) := by
              unfold pathV at h3 ⊢
              rw [List.map_append]; exact h3
            refine ⟨vk, q2, dk, p ++ [beg ds + i], rfl, Dp.same s13 hk, h3', gk, shd_in sd (List.mem_of_getElem? edk), by omega, by rw [List.length_append]; show p.length + 1 + n ≤ _; omega, fun l us' H4 s4' l0 el pw' => ?_⟩
            have s14 := s13.trans s4'
            refine ⟨r, l, us, us', rfl, rfl, (s2.trans (s3.trans s4')) _ _ er, el, ?_, fun q hq => gn ?_⟩
            · have z1 := pw_len pw
              have z2 := pw_len pw'
              exact Nat.le_trans (show _ ≤ 100000 by omega) (by decide)
            · have s5 := same_new (o := .lst (us ++ us')) hq
              have sA := sG.trans s14
              refine ⟨q, us ++ us', _, rfl, s14.trans s5, none_of_same sA hq, upd_same, ?_⟩
              rw [e1, List.flatMap_append]
              have : ([beg ds + i].flatMap fun k => lvD n (ds.getD k .none) (p ++ [k])) = lvD n dk (p ++ [beg ds + i]) := by
                show lvD n (ds.getD (beg ds + i) .none) (p ++ [beg ds + i]) ++ [] = _
                rw [List.append_nil, egd]
              rw [this]
              exact pw_app (pw_imp (fun _ _ z => z.same (s2.trans (s3.trans (s4'.trans s5)))) pw) (pw_imp (fun _ _ z => z.same s5) pw')
          · rintro σ H' ⟨r, us, v5, rfl, s1, r0, er, pw⟩
            have en : ((xs.length : Nat) - s4 : Int).toNat = ds.length - beg ds := by omega
            rw [en, ← total] at pw
            exact ⟨_, rfl, k r us H' (sG.trans s1) r0 er pw⟩
        by_cases ca : isAsk d0 = true
        · rw [ca]
          refine iteT (gn (loop 2 ?_))
          rw [← hds]
          show (2 : Int) = ((if isAsk d0 = true then 2 else _ : Nat) : Int)
          rw [if_pos ca]; rfl
        · rw [Bool.eq_false_iff.mpr ca]
          refine iteF ⟨_, rfl, gn (loop _ ?_)⟩
          rw [← hds]
          show _ = ((if isAsk d0 = true then 2 else if isHead d0 = true then 1 else 0 : Nat) : Int)
          rw [if_neg ca]
          cases isHead d0 <;> rfl
/-- at any depth -/
theorem all_lv {f : Addr} {fd : FuncData} (F : Fun K "_law_leaves" "_law_leaves" s_l_leaves f fd) (T : GS.Txt mg) (gF : mg "_law_leaves" = some (.ref f)) (kF : PySem.W.keepIn K (.ref f) = true) (bF : Binds K fd ["_law_one", "_law_path"] []) : ∀ n : Nat, FnOk P w K mg base CX0 n f fd ["_law_one", "_law_path"] (spLv K n)
  | 0 => none_leftX fun vs H Q E ⟨_, _, _, _, _, _, _, g, _⟩ => g
  | n + 1 => ok_lv F T gF kF bF (all_lv F T gF kF bF n)
end
end GS

set_option linter.all false
set_option maxHeartbeats 4000000
namespace GS
open PySem L2 HX
open K06 hiding gn sa1 sif cb1 and2 or2 pw_mono Txt Cal
def pdT : Tr → PyData
  | .num n => .tuple [.str (Str.ofString "num"), .int n]
  | .field t f => .tuple [.str (Str.ofString "field"), .str t, .str f]
  | .bin op l r => .tuple [.str op, pdT l, pdT r]
  | .not x => .tuple [.str (Str.ofString "not"), pdT x]
def pdO : Option Tr → PyData
  | none => .none
  | some t => pdT t
def pdI : Option Int → PyData
  | none => .none
  | some i => .int i
def pdQ (q : Str × Tr) : PyData := .tuple [.str q.1, pdT q.2]
def pdSt : Stm → PyData
  | .table n fs => .tuple [.str (Str.ofString "table"), .str n, .tuple (fs.map PyData.str)]
  | .index n f => .tuple [.str (Str.ofString "index"), .str n, .str f]
  | .put n ns => .tuple [.str (Str.ofString "put"), .str n, .tuple (ns.map PyData.int)]
  | .set n ss c => .tuple [.str (Str.ofString "set"), .str n, .tuple (ss.map pdQ), pdO c]
  | .strike n c => .tuple [.str (Str.ofString "strike"), .str n, pdO c]
  | .ask how ts tabs c ob fi => .tuple [.str (Str.ofString "ask"), .str how, .tuple (ts.map pdT), .tuple (tabs.map PyData.str), pdO c, .tuple (ob.map pdT), pdI fi]
  | .word w => .tuple [.str w]
section
variable {K : PySem.W.Frag} {H : Hp}
theorem dp_tr : ∀ {v : V} {t : Tr}, TrAt K H v t → Dp K H v (pdT t)
  | _, .num _, ⟨_, e, a⟩ => e ▸ .tup a (.cons (.str _) (.cons (.int _) .nil))
  | _, .field _ _, ⟨_, e, a⟩ => e ▸ .tup a (.cons (.str _) (.cons (.str _) (.cons (.str _) .nil)))
  | _, .bin _ _ _, ⟨_, _, _, e, a, b, c⟩ => e ▸ .tup a (.cons (.str _) (.cons (dp_tr b) (.cons (dp_tr c) .nil)))
  | _, .not _, ⟨_, _, e, a, b⟩ => e ▸ .tup a (.cons (.str _) (.cons (dp_tr b) .nil))
theorem dp1 {v : V} {x : Str} (h : Dp K H v (.str x)) : v = .str x := by cases h; rfl
theorem dpi {v : V} {x : Int} (h : Dp K H v (.int x)) : v = .int x := by cases h; rfl
theorem tr_dp : ∀ {t : Tr} {v : V}, Dp K H v (pdT t) → TrAt K H v t
  | .num _, v, h => by
    obtain ⟨a, xs, e, hx, hd⟩ := Dp.ref h
    cases hd with | cons h1 hd => cases hd with | cons h2 hd => cases hd with | nil => rw [dp1 h1, dpi h2] at hx; exact ⟨a, e, hx⟩
  | .field _ _, v, h => by
    obtain ⟨a, xs, e, hx, hd⟩ := Dp.ref h
    cases hd with | cons h1 hd => cases hd with | cons h2 hd => cases hd with | cons h3 hd => cases hd with | nil => rw [dp1 h1, dp1 h2, dp1 h3] at hx; exact ⟨a, e, hx⟩
  | .bin _ _ _, v, h => by
    obtain ⟨a, xs, e, hx, hd⟩ := Dp.ref h
    cases hd with | cons h1 hd => cases hd with | cons h2 hd => cases hd with | cons h3 hd => cases hd with | nil => rw [dp1 h1] at hx; exact ⟨a, _, _, e, hx, tr_dp h2, tr_dp h3⟩
  | .not _, v, h => by
    obtain ⟨a, xs, e, hx, hd⟩ := Dp.ref h
    cases hd with | cons h1 hd => cases hd with | cons h2 hd => cases hd with | nil => rw [dp1 h1] at hx; exact ⟨a, _, e, hx, tr_dp h2⟩
theorem dp_oc {v : V} : ∀ {c : Option Tr}, OcAt K H v c → Dp K H v (pdO c)
  | none, h => by obtain rfl : v = .non := h; exact .non
  | some _, h => dp_tr h
theorem oc_dp {v : V} : ∀ {c : Option Tr}, Dp K H v (pdO c) → OcAt K H v c
  | none, h => by cases h; rfl
  | some _, h => tr_dp h
theorem dpa_of {α : Type} {R : V → α → Prop} {f : α → PyData} (m : ∀ v x, R v x → Dp K H v (f x)) : ∀ {vs : List V} {xs : List α}, Paired R vs xs → DpAll K H vs (xs.map f)
  | _, _, .nil => .nil
  | _, _, .cons a b => .cons (m _ _ a) (dpa_of m b)
theorem of_dpa {α : Type} {R : V → α → Prop} {f : α → PyData} (m : ∀ v x, Dp K H v (f x) → R v x) : ∀ {xs : List α} {vs : List V}, DpAll K H vs (xs.map f) → Paired R vs xs
  | [], _, .nil => .nil
  | _ :: _, _, .cons a b => .cons (m _ _ a) (of_dpa m b)
theorem of_dpaS {f : Str → PyData} : ∀ {xs : List Str} {vs : List V}, DpAll K H vs (xs.map PyData.str) → vs = xs.map V.str
  | [], _, .nil => rfl
  | _ :: _, _, .cons a b => by rw [dp1 a, of_dpaS (f := f) b]; rfl
theorem of_dpaI : ∀ {xs : List Int} {vs : List V}, DpAll K H vs (xs.map PyData.int) → vs = xs.map V.int
  | [], _, .nil => rfl
  | _ :: _, _, .cons a b => by rw [dpi a, of_dpaI b]; rfl
theorem dpa_int : ∀ xs : List Int, DpAll K H (xs.map V.int) (xs.map PyData.int)
  | [] => .nil
  | x :: xs => .cons (.int x) (dpa_int xs)
theorem dp_fi : ∀ fi : Option Int, Dp K H (OiV fi) (pdI fi)
  | none => .non
  | some i => .int i
theorem fi_dp {v : V} : ∀ {fi : Option Int}, Dp K H v (pdI fi) → v = OiV fi
  | none, h => by cases h; rfl
  | some _, h => dpi h
theorem dp_st {p : Addr} {S : Stm} (h : SmAt K H p S) : Dp K H (.ref p) (pdSt S) := by
  cases S with
  | table n fs => obtain ⟨q, a, b⟩ := h; exact .tup a (.cons (.str _) (.cons (.str _) (.cons (.tup b (dpS fs)) .nil)))
  | index n f => exact .tup h (.cons (.str _) (.cons (.str _) (.cons (.str _) .nil)))
  | put n ns => obtain ⟨q, a, b⟩ := h; exact .tup a (.cons (.str _) (.cons (.str _) (.cons (.tup b (dpa_int ns)) .nil)))
  | set n ss c =>
    obtain ⟨q, v, a, ⟨vs, b, pw⟩, c⟩ := h
    exact .tup a (.cons (.str _) (.cons (.str _) (.cons (.tup b (dpa_of (fun _ _ ⟨p, x, e, z, y⟩ => e ▸ .tup z (.cons (.str _) (.cons (dp_tr y) .nil))) pw)) (.cons (dp_oc c) .nil))))
  | strike n c => obtain ⟨v, a, b⟩ := h; exact .tup a (.cons (.str _) (.cons (.str _) (.cons (dp_oc b) .nil)))
  | ask how ts tabs c ob fi =>
    obtain ⟨q, r, v, b, a, ⟨vs, x, pw⟩, y, z, ⟨us, u, pu⟩⟩ := h
    exact .tup a (.cons (.str _) (.cons (.str _) (.cons (.tup x (dpa_of (R := TrAt K H) (f := pdT) (fun _ _ h => dp_tr h) pw)) (.cons (.tup y (dpS tabs)) (.cons (dp_oc z) (.cons (.tup u (dpa_of (R := TrAt K H) (f := pdT) (fun _ _ h => dp_tr h) pu)) (.cons (dp_fi fi) .nil)))))))
  | word x => exact .tup h (.cons (.str _) .nil)
theorem st_dp {v : V} {S : Stm} (h : Dp K H v (pdSt S)) : ∃ p, v = .ref p ∧ SmAt K H p S := by
  cases S with
  | table n fs =>
    obtain ⟨a, xs, e, hx, hd⟩ := Dp.ref h
    cases hd with | cons h1 hd => cases hd with | cons h2 hd => cases hd with | cons h3 hd => cases hd with | nil =>
      obtain ⟨b, ys, rfl, hy, hb⟩ := Dp.ref h3
      rw [dp1 h1, dp1 h2] at hx
      rw [of_dpaS (f := PyData.str) hb] at hy
      exact ⟨a, e, b, hx, hy⟩
  | index n f =>
    obtain ⟨a, xs, e, hx, hd⟩ := Dp.ref h
    cases hd with | cons h1 hd => cases hd with | cons h2 hd => cases hd with | cons h3 hd => cases hd with | nil =>
      rw [dp1 h1, dp1 h2, dp1 h3] at hx
      exact ⟨a, e, hx⟩
  | put n ns =>
    obtain ⟨a, xs, e, hx, hd⟩ := Dp.ref h
    cases hd with | cons h1 hd => cases hd with | cons h2 hd => cases hd with | cons h3 hd => cases hd with | nil =>
      obtain ⟨b, ys, rfl, hy, hb⟩ := Dp.ref h3
      rw [dp1 h1, dp1 h2] at hx
      rw [of_dpaI hb] at hy
      exact ⟨a, e, b, hx, hy⟩
  | set n ss c =>
    obtain ⟨a, xs, e, hx, hd⟩ := Dp.ref h
    cases hd with | cons h1 hd => cases hd with | cons h2 hd => cases hd with | cons h3 hd => cases hd with | cons h4 hd => cases hd with | nil =>
      obtain ⟨b, ys, rfl, hy, hb⟩ := Dp.ref h3
      rw [dp1 h1, dp1 h2] at hx
      refine ⟨a, e, b, _, hx, ⟨ys, hy, of_dpa (fun v q h => ?_) hb⟩, oc_dp h4⟩
      obtain ⟨p, zs, e, hz, hp⟩ := Dp.ref h
      cases hp with | cons g1 hp => cases hp with | cons g2 hp => cases hp with | nil =>
        rw [dp1 g1] at hz
        exact ⟨p, _, e, hz, tr_dp g2⟩
  | strike n c =>
    obtain ⟨a, xs, e, hx, hd⟩ := Dp.ref h
    cases hd with | cons h1 hd => cases hd with | cons h2 hd => cases hd with | cons h3 hd => cases hd with | nil =>
      rw [dp1 h1, dp1 h2] at hx
      exact ⟨a, e, _, hx, oc_dp h3⟩
  | ask how ts tabs c ob fi =>
    obtain ⟨a, xs, e, hx, hd⟩ := Dp.ref h
    cases hd with | cons h1 hd => cases hd with | cons h2 hd => cases hd with | cons h3 hd => cases hd with | cons h4 hd => cases hd with | cons h5 hd => cases hd with | cons h6 hd => cases hd with | cons h7 hd => cases hd with | nil =>
      obtain ⟨b3, y3, rfl, hy3, hb3⟩ := Dp.ref h3
      obtain ⟨b4, y4, rfl, hy4, hb4⟩ := Dp.ref h4
      obtain ⟨b6, y6, rfl, hy6, hb6⟩ := Dp.ref h6
      rw [dp1 h1, dp1 h2, fi_dp h7] at hx
      rw [of_dpaS (f := PyData.str) hb4] at hy4
      exact ⟨a, e, b3, b4, _, b6, hx, ⟨y3, hy3, of_dpa (R := TrAt K H) (f := pdT) (fun _ _ h => tr_dp h) hb3⟩, hy4, oc_dp h5, ⟨y6, hy6, of_dpa (R := TrAt K H) (f := pdT) (fun _ _ h => tr_dp h) hb6⟩⟩
  | word x =>
    obtain ⟨a, xs, e, hx, hd⟩ := Dp.ref h
    cases hd with | cons h1 hd => cases hd with | nil =>
      rw [dp1 h1] at hx
      exact ⟨a, e, hx⟩
end
/-! ### places of names in terms and conditions -/
theorem beg_op {op : Str} (m : op ∈ joins) (r : List PyData) : beg (.str op :: r) = 1 := by
  have h := (show ∀ o ∈ joins, isAsk (.str o) = false ∧ isHead (.str o) = true by decide +kernel) op m
  show (if isAsk (.str op) = true then 2 else if isHead (.str op) = true then 1 else 0) = 1
  rw [h.1, h.2]; rfl
theorem beg_of {x : Str} {b : Nat} (r : List PyData) (h : (if isAsk (.str x) = true then 2 else if isHead (.str x) = true then 1 else 0) = b) : beg (.str x :: r) = b := h
theorem lv_num {n : Nat} {i : Int} {p : List Nat} : lvD (n + 2) (pdT (.num i)) p = [] := by
  show (List.range' (beg [.str (Str.ofString "num"), .int i]) ([PyData.str (Str.ofString "num"), .int i].length - beg [.str (Str.ofString "num"), .int i])).flatMap _ = _
  rw [beg_of (b := 1) _ (by decide +kernel)]
  rfl
theorem lv_field {n : Nat} {t f : Str} {p : List Nat} : lvD (n + 2) (pdT (.field t f)) p = [p ++ [1], p ++ [2]] := by
  show (List.range' (beg [.str (Str.ofString "field"), .str t, .str f]) ([PyData.str (Str.ofString "field"), .str t, .str f].length - beg [.str (Str.ofString "field"), .str t, .str f])).flatMap _ = _
  rw [beg_of (b := 1) _ (by decide +kernel)]
  rfl
theorem lv_bin {n : Nat} {op : Str} {l r : Tr} {p : List Nat} (m : op ∈ joins) : lvD (n + 1) (pdT (.bin op l r)) p = lvD n (pdT l) (p ++ [1]) ++ lvD n (pdT r) (p ++ [2]) := by
  show (List.range' (beg [.str op, pdT l, pdT r]) ([PyData.str op, pdT l, pdT r].length - beg [.str op, pdT l, pdT r])).flatMap _ = _
  rw [beg_op m]
  show lvD n (pdT l) (p ++ [1]) ++ (lvD n (pdT r) (p ++ [2]) ++ []) = _
  rw [List.append_nil]
theorem lv_not {n : Nat} {x : Tr} {p : List Nat} : lvD (n + 1) (pdT (.not x)) p = lvD n (pdT x) (p ++ [1]) := by
  show (List.range' (beg [.str (Str.ofString "not"), pdT x]) ([PyData.str (Str.ofString "not"), pdT x].length - beg [.str (Str.ofString "not"), pdT x])).flatMap _ = _
  rw [beg_of (b := 1) _ (by decide +kernel)]
  show lvD n (pdT x) (p ++ [1]) ++ [] = _
  rw [List.append_nil]
theorem lv_len : ∀ {t : Tr} {n : Nat} {p : List Nat}, Wn t → t.depth + 2 ≤ n → (lvD n (pdT t) p).length ≤ 2 ^ (t.depth + 1)
  | .num i, n + 2, p, _, _ => by rw [lv_num]; exact Nat.zero_le _
  | .field _ _, n + 2, p, _, _ => by rw [lv_field]; exact Nat.le_refl _
  | .bin op l r, n + 1, p, w, h => by
    have h : max l.depth r.depth + 1 + 2 ≤ n + 1 := h
    rw [lv_bin w.1, List.length_append]
    have a := lv_len (n := n) (p := p ++ [1]) w.2.1 (by omega)
    have b := lv_len (n := n) (p := p ++ [2]) w.2.2 (by omega)
    show _ ≤ 2 ^ (max l.depth r.depth + 1 + 1)
    rw [Nat.pow_succ]
    have c : 2 ^ (l.depth + 1) ≤ 2 ^ (max l.depth r.depth + 1) := Nat.pow_le_pow_right (by decide) (by omega)
    have d : 2 ^ (r.depth + 1) ≤ 2 ^ (max l.depth r.depth + 1) := Nat.pow_le_pow_right (by decide) (by omega)
    omega
  | .not x, n + 1, p, w, h => by
    have h : x.depth + 1 + 2 ≤ n + 1 := h
    rw [lv_not]
    have a := lv_len (n := n) (p := p ++ [1]) (t := x) w (by omega)
    exact Nat.le_trans a (Nat.pow_le_pow_right (by decide) (by show x.depth + 1 ≤ x.depth + 1 + 1; omega))
/-- one name exchanged -/
def Bend (w : Str) (t : Tr) (p q : List Nat) : Prop := ∃ r, q = p ++ r ∧ Val (pdT t) r ∧ ShortP (pdT t) r ∧ r.length ≤ t.depth + 1 ∧ ∃ t', putD (pdT t) r w = pdT t' ∧ Wn t' ∧ t'.depth = t.depth
theorem bendT {w : Str} (nw : Nm w) (w0 : w ≠ sE) : ∀ {t : Tr} {n : Nat} {p q : List Nat}, Wn t → t.depth + 2 ≤ n → q ∈ lvD n (pdT t) p → Bend w t p q
  | .num i, n + 2, p, q, _, _, m => by rw [lv_num] at m; cases m
  | .field t f, n + 2, p, q, wt, _, m => by
    rw [lv_field] at m
    rcases List.mem_cons.mp m with rfl | m
    · exact ⟨[1], rfl, ⟨_, rfl, trivial⟩, ⟨by show 3 ≤ 1000; decide, fun d e => by obtain rfl := Option.some.inj e; trivial⟩, by show 1 ≤ 1; decide, .field w f, rfl, ⟨nw, wt.2⟩, rfl⟩
    · obtain rfl := List.mem_singleton.mp m
      exact ⟨[2], rfl, ⟨_, rfl, trivial⟩, ⟨by show 3 ≤ 1000; decide, fun d e => by obtain rfl := Option.some.inj e; trivial⟩, by show 1 ≤ 1; decide, .field t w, rfl, ⟨wt.1, nw, w0⟩, rfl⟩
  | .bin op l r, n + 1, p, q, wt, h, m => by
    have h : max l.depth r.depth + 1 + 2 ≤ n + 1 := h
    rw [lv_bin wt.1] at m
    rcases List.mem_append.mp m with m | m
    · obtain ⟨s, rfl, a, b, c, t', e1, e2, e3⟩ := bendT nw w0 (n := n) (p := p ++ [1]) wt.2.1 (by omega) m
      refine ⟨1 :: s, by rw [List.append_assoc]; rfl, ⟨_, rfl, a⟩, ⟨by show 3 ≤ 1000; decide, fun d e => by obtain rfl := Option.some.inj e; exact b⟩, by show s.length + 1 ≤ max l.depth r.depth + 1 + 1; omega, .bin op t' r, ?_, ⟨wt.1, e2, wt.2.2⟩, by show max _ _ + 1 = max _ _ + 1; rw [e3]⟩
      show PyData.tuple ([.str op] ++ (putD (pdT l) s w :: [pdT r])) = _
      rw [e1]; rfl
    · obtain ⟨s, rfl, a, b, c, t', e1, e2, e3⟩ := bendT nw w0 (n := n) (p := p ++ [2]) wt.2.2 (by omega) m
      refine ⟨2 :: s, by rw [List.append_assoc]; rfl, ⟨_, rfl, a⟩, ⟨by show 3 ≤ 1000; decide, fun d e => by obtain rfl := Option.some.inj e; exact b⟩, by show s.length + 1 ≤ max l.depth r.depth + 1 + 1; omega, .bin op l t', ?_, ⟨wt.1, wt.2.1, e2⟩, by show max _ _ + 1 = max _ _ + 1; rw [e3]⟩
      show PyData.tuple ([.str op, pdT l] ++ (putD (pdT r) s w :: [])) = _
      rw [e1]; rfl
  | .not x, n + 1, p, q, wt, h, m => by
    have h : x.depth + 1 + 2 ≤ n + 1 := h
    rw [lv_not] at m
    obtain ⟨s, rfl, a, b, c, t', e1, e2, e3⟩ := bendT nw w0 (n := n) (p := p ++ [1]) (t := x) wt (by omega) m
    refine ⟨1 :: s, by rw [List.append_assoc]; rfl, ⟨_, rfl, a⟩, ⟨by show 2 ≤ 1000; decide, fun d e => by obtain rfl := Option.some.inj e; exact b⟩, by show s.length + 1 ≤ x.depth + 1 + 1; omega, .not t', ?_, e2, by show _ + 1 = _ + 1; rw [e3]⟩
    show PyData.tuple ([.str (Str.ofString "not")] ++ (putD (pdT x) s w :: [])) = _
    rw [e1]; rfl
end GS

set_option linter.all false
set_option maxHeartbeats 4000000
namespace GS
open PySem L2 HX
open K06 hiding gn sa1 sif cb1 and2 or2 pw_mono Txt Cal
def TmB (t : Tr) : Prop := Wn t ∧ t.depth ≤ 5
theorem lv_mem {n : Nat} {ds : List PyData} {p q : List Nat} (m : q ∈ lvD (n + 1) (.tuple ds) p) : ∃ k d, beg ds ≤ k ∧ ds[k]? = some d ∧ q ∈ lvD n d (p ++ [k]) := by
  obtain ⟨k, mk, mq⟩ := List.mem_flatMap.mp (show q ∈ (List.range' (beg ds) (ds.length - beg ds)).flatMap fun k => lvD n (ds.getD k .none) (p ++ [k]) from m)
  obtain ⟨h1, h2⟩ := List.mem_range'_1.mp mk
  have hk : k < ds.length := by omega
  refine ⟨k, ds[k], h1, List.getElem?_eq_getElem hk, ?_⟩
  rw [List.getD_eq_getElem?_getD, List.getElem?_eq_getElem hk] at mq
  exact mq
/-- a name exchanged in what f makes of x -/
def Bd {α : Type} (f : α → PyData) (R : α → Prop) (w : Str) (m : Nat) (x : α) (p q : List Nat) : Prop := ∃ s, q = p ++ s ∧ Val (f x) s ∧ ShortP (f x) s ∧ s.length ≤ m ∧ ∃ x', putD (f x) s w = f x' ∧ R x'
theorem bd_list {α : Type} {f : α → PyData} {R : α → Prop} {w : Str} {m n : Nat} {xs : List α} {p q : List Nat} (l : xs.length ≤ 1000) (hR : ∀ x ∈ xs, R x) (h : ∀ x ∈ xs, ∀ p q, q ∈ lvD n (f x) p → Bd f R w m x p q) (mq : q ∈ lvD (n + 1) (.tuple (xs.map f)) p) :
    Bd (fun ys : List α => PyData.tuple (ys.map f)) (fun ys => ys.length = xs.length ∧ ∀ x ∈ ys, R x) w (m + 1) xs p q := by
  obtain ⟨k, d, _, ek, mq⟩ := lv_mem mq
  rw [List.getElem?_map] at ek
  cases ex : xs[k]? with
  | none => rw [ex] at ek; cases ek
  | some x =>
    rw [ex] at ek
    obtain rfl := Option.some.inj ek
    obtain ⟨s, rfl, a, b, c, x', e1, e2⟩ := h x (List.mem_of_getElem? ex) _ _ mq
    have lk : k < xs.length := (List.getElem?_eq_some_iff.mp ex).1
    refine ⟨k :: s, by rw [List.append_assoc]; rfl, ⟨f x, by rw [List.getElem?_map, ex]; rfl, a⟩, ⟨by rw [List.length_map]; exact l, fun d e => ?_⟩, by show s.length + 1 ≤ m + 1; omega, xs.set k x', ?_, by rw [List.length_set], fun y my => ?_⟩
    · rw [List.getElem?_map, ex] at e
      obtain rfl := Option.some.inj e
      exact b
    · show (match (xs.map f)[k]? with | some d => PyData.tuple ((xs.map f).take k ++ (putD d s w :: (xs.map f).drop (k + 1))) | none => .tuple (xs.map f)) = _
      rw [List.getElem?_map, ex]
      show PyData.tuple ((xs.map f).take k ++ (putD (f x) s w :: (xs.map f).drop (k + 1))) = _
      rw [e1, List.set_eq_take_append_cons_drop, if_pos lk]
      show _ = PyData.tuple ((xs.take k ++ x' :: xs.drop (k + 1)).map f)
      rw [List.map_append, List.map_cons, List.map_take, List.map_drop]
    · rcases List.mem_or_eq_of_mem_set my with my | rfl
      · exact hR y my
      · exact e2
theorem bd_str {w x : Str} {n : Nat} {p q : List Nat} {R : Str → Prop} (rw' : R w) (m : q ∈ lvD n (.str x) p) : Bd PyData.str R w 0 x p q := by
  cases n with
  | zero => cases m
  | succ n =>
    obtain rfl := List.mem_singleton.mp (show q ∈ [p] from m)
    exact ⟨[], by rw [List.append_nil], trivial, trivial, Nat.le_refl _, w, rfl, rw'⟩
theorem bd_tm {w : Str} (nw : Nx w) {t : Tr} {n : Nat} {p q : List Nat} (h : TmB t) (l : 7 ≤ n) (m : q ∈ lvD n (pdT t) p) : Bd pdT TmB w 6 t p q := by
  obtain ⟨s, a, b, c, d, t', e1, e2, e3⟩ := bendT nw.1 nw.2.2.1 h.1 (by have := h.2; omega) m
  exact ⟨s, a, b, c, by have := h.2; omega, t', e1, e2, by rw [e3]; exact h.2⟩
theorem bd_oc {w : Str} (nw : Nx w) {c : Option Tr} {n : Nat} {p q : List Nat} (h : ∀ t, c = some t → TmB t) (l : 7 ≤ n) (m : q ∈ lvD n (pdO c) p) : Bd pdO (fun c => ∀ t, c = some t → TmB t) w 6 c p q := by
  cases c with
  | none => cases n <;> cases m
  | some t =>
    obtain ⟨s, a, b, c, d, t', e1, e2⟩ := bd_tm nw (h t rfl) l m
    exact ⟨s, a, b, c, d, some t', e1, fun u e => by obtain rfl := Option.some.inj e; exact e2⟩
theorem nx_beg {x : Str} (h : Nx x) (r : List PyData) : beg (.str x :: r) = 0 := by
  have h2 : decide (x ∈ words19) = false := decide_eq_false h.2.2.2
  have h1 : decide (x = Str.ofString "ask") = false := decide_eq_false fun e => h.2.2.2 (by rw [e]; decide +kernel)
  show (if decide (x = Str.ofString "ask") = true then 2 else if decide (x ∈ words19) = true then 1 else 0) = 0
  rw [h1, h2]; rfl
theorem bd_set {w : Str} (nw : Nx w) {z : Str × Tr} {n : Nat} {p q : List Nat} (h : Nx z.1 ∧ TmB z.2) (l : 8 ≤ n) (m : q ∈ lvD n (pdQ z) p) : Bd pdQ (fun z => Nx z.1 ∧ TmB z.2) w 7 z p q := by
  obtain ⟨n, rfl⟩ : ∃ k, n = k + 1 := ⟨n - 1, by omega⟩
  obtain ⟨k, d, _, ek, mq⟩ := lv_mem m
  match k, ek, mq with
  | 0, ek, mq =>
    obtain rfl := Option.some.inj ek
    obtain ⟨s, rfl, a, b, c, x', e1, e2⟩ := bd_str (R := Nx) nw mq
    exact ⟨0 :: s, by rw [List.append_assoc]; rfl, ⟨_, rfl, a⟩, ⟨by show 2 ≤ 1000; decide, fun d e => by obtain rfl := Option.some.inj e; exact b⟩, by show s.length + 1 ≤ 7; omega, (x', z.2), by show PyData.tuple ([] ++ (putD (.str z.1) s w :: [pdT z.2])) = _; rw [e1]; rfl, e2, h.2⟩
  | 1, ek, mq =>
    obtain rfl := Option.some.inj ek
    obtain ⟨s, rfl, a, b, c, x', e1, e2⟩ := bd_tm nw h.2 (by omega) mq
    exact ⟨1 :: s, by rw [List.append_assoc]; rfl, ⟨_, rfl, a⟩, ⟨by show 2 ≤ 1000; decide, fun d e => by obtain rfl := Option.some.inj e; exact b⟩, by show s.length + 1 ≤ 7; omega, (z.1, x'), by show PyData.tuple ([.str z.1] ++ (putD (pdT z.2) s w :: [])) = _; rw [e1]; rfl, h.1, e2⟩
  | k + 2, ek, _ => cases ek
/-- a name of a statement exchanged -/
def BdS (w : Str) (S : Stm) (q : List Nat) : Prop := Val (pdSt S) q ∧ ShortP (pdSt S) q ∧ q.length ≤ 9 ∧ ∃ S', putD (pdSt S) q w = pdSt S' ∧ StP TmB S'
theorem bendS {w : Str} (nw : Nx w) {S : Stm} {q : List Nat} (h : StP TmB S) (m : q ∈ lvD 11 (pdSt S) []) (nword : ∀ x, S ≠ .word x) : BdS w S q := by
  cases S with
  | word x => exact absurd rfl (nword x)
  | table n fs =>
    obtain ⟨k, d, hb, ek, mq⟩ := lv_mem m
    rw [beg_of (b := 1) _ (by decide +kernel)] at hb
    match k, hb, ek, mq with
    | 1, _, ek, mq =>
      obtain rfl := Option.some.inj ek
      obtain ⟨s, rfl, a, b, c, x', e1, e2⟩ := bd_str (R := Nx) nw mq
      exact ⟨⟨_, rfl, a⟩, ⟨by show 3 ≤ 1000; decide, fun d e => by obtain rfl := Option.some.inj e; exact b⟩, by show s.length + 1 ≤ 9; omega, .table x' fs, by show PyData.tuple ([.str (Str.ofString "table")] ++ (putD (.str n) s w :: [.tuple (fs.map PyData.str)])) = _; rw [e1]; rfl, e2, h.2⟩
    | 2, _, ek, mq =>
      obtain rfl := Option.some.inj ek
      obtain ⟨s, rfl, a, b, c, x', e1, e2, e3⟩ := bd_list (f := PyData.str) (R := Nx) (m := 0) (by have := h.2.2; omega) h.2.1 (fun x _ p q mq => bd_str nw mq) mq
      exact ⟨⟨_, rfl, a⟩, ⟨by show 3 ≤ 1000; decide, fun d e => by obtain rfl := Option.some.inj e; exact b⟩, by show s.length + 1 ≤ 9; omega, .table n x', by show PyData.tuple ([.str (Str.ofString "table"), .str n] ++ (putD (.tuple (fs.map PyData.str)) s w :: [])) = _; rw [e1]; rfl, h.1, e3, by rw [e2]; exact h.2.2⟩
    | k + 3, _, ek, _ => cases ek
  | index n f =>
    obtain ⟨k, d, hb, ek, mq⟩ := lv_mem m
    rw [beg_of (b := 1) _ (by decide +kernel)] at hb
    match k, hb, ek, mq with
    | 1, _, ek, mq =>
      obtain rfl := Option.some.inj ek
      obtain ⟨s, rfl, a, b, c, x', e1, e2⟩ := bd_str (R := Nx) nw mq
      exact ⟨⟨_, rfl, a⟩, ⟨by show 3 ≤ 1000; decide, fun d e => by obtain rfl := Option.some.inj e; exact b⟩, by show s.length + 1 ≤ 9; omega, .index x' f, by show PyData.tuple ([.str (Str.ofString "index")] ++ (putD (.str n) s w :: [.str f])) = _; rw [e1]; rfl, e2, h.2⟩
    | 2, _, ek, mq =>
      obtain rfl := Option.some.inj ek
      obtain ⟨s, rfl, a, b, c, x', e1, e2⟩ := bd_str (R := Nx) nw mq
      exact ⟨⟨_, rfl, a⟩, ⟨by show 3 ≤ 1000; decide, fun d e => by obtain rfl := Option.some.inj e; exact b⟩, by show s.length + 1 ≤ 9; omega, .index n x', by show PyData.tuple ([.str (Str.ofString "index"), .str n] ++ (putD (.str f) s w :: [])) = _; rw [e1]; rfl, h.1, e2⟩
    | k + 3, _, ek, _ => cases ek
  | put n ns =>
    obtain ⟨k, d, hb, ek, mq⟩ := lv_mem m
    rw [beg_of (b := 1) _ (by decide +kernel)] at hb
    match k, hb, ek, mq with
    | 1, _, ek, mq =>
      obtain rfl := Option.some.inj ek
      obtain ⟨s, rfl, a, b, c, x', e1, e2⟩ := bd_str (R := Nx) nw mq
      exact ⟨⟨_, rfl, a⟩, ⟨by show 3 ≤ 1000; decide, fun d e => by obtain rfl := Option.some.inj e; exact b⟩, by show s.length + 1 ≤ 9; omega, .put x' ns, by show PyData.tuple ([.str (Str.ofString "put")] ++ (putD (.str n) s w :: [.tuple (ns.map PyData.int)])) = _; rw [e1]; rfl, e2, h.2⟩
    | 2, _, ek, mq =>
      obtain rfl := Option.some.inj ek
      obtain ⟨k2, d2, _, ek2, mq2⟩ := lv_mem mq
      rw [List.getElem?_map] at ek2
      cases ei : ns[k2]? with
      | none => rw [ei] at ek2; cases ek2
      | some i => rw [ei] at ek2; obtain rfl := Option.some.inj ek2; cases mq2
    | k + 3, _, ek, _ => cases ek
  | strike n c =>
    obtain ⟨k, d, hb, ek, mq⟩ := lv_mem m
    rw [beg_of (b := 1) _ (by decide +kernel)] at hb
    match k, hb, ek, mq with
    | 1, _, ek, mq =>
      obtain rfl := Option.some.inj ek
      obtain ⟨s, rfl, a, b, z, x', e1, e2⟩ := bd_str (R := Nx) nw mq
      exact ⟨⟨_, rfl, a⟩, ⟨by show 3 ≤ 1000; decide, fun d e => by obtain rfl := Option.some.inj e; exact b⟩, by show s.length + 1 ≤ 9; omega, .strike x' c, by show PyData.tuple ([.str (Str.ofString "strike")] ++ (putD (.str n) s w :: [pdO c])) = _; rw [e1]; rfl, e2, h.2⟩
    | 2, _, ek, mq =>
      obtain rfl := Option.some.inj ek
      obtain ⟨s, rfl, a, b, z, x', e1, e2⟩ := bd_oc nw h.2 (by decide) mq
      exact ⟨⟨_, rfl, a⟩, ⟨by show 3 ≤ 1000; decide, fun d e => by obtain rfl := Option.some.inj e; exact b⟩, by show s.length + 1 ≤ 9; omega, .strike n x', by show PyData.tuple ([.str (Str.ofString "strike"), .str n] ++ (putD (pdO c) s w :: [])) = _; rw [e1]; rfl, h.1, e2⟩
    | k + 3, _, ek, _ => cases ek
  | set n ss c =>
    obtain ⟨k, d, hb, ek, mq⟩ := lv_mem m
    rw [beg_of (b := 1) _ (by decide +kernel)] at hb
    match k, hb, ek, mq with
    | 1, _, ek, mq =>
      obtain rfl := Option.some.inj ek
      obtain ⟨s, rfl, a, b, z, x', e1, e2⟩ := bd_str (R := Nx) nw mq
      exact ⟨⟨_, rfl, a⟩, ⟨by show 4 ≤ 1000; decide, fun d e => by obtain rfl := Option.some.inj e; exact b⟩, by show s.length + 1 ≤ 9; omega, .set x' ss c, by show PyData.tuple ([.str (Str.ofString "set")] ++ (putD (.str n) s w :: [.tuple (ss.map pdQ), pdO c])) = _; rw [e1]; rfl, e2, h.2⟩
    | 2, _, ek, mq =>
      obtain rfl := Option.some.inj ek
      obtain ⟨s, rfl, a, b, z, x', e1, e2, e3⟩ := bd_list (f := pdQ) (R := fun z => Nx z.1 ∧ TmB z.2) (m := 7) (by have := h.2.1; omega) h.2.2.1 (fun x mx p q mq => bd_set nw (h.2.2.1 x mx) (by decide) mq) mq
      exact ⟨⟨_, rfl, a⟩, ⟨by show 4 ≤ 1000; decide, fun d e => by obtain rfl := Option.some.inj e; exact b⟩, by show s.length + 1 ≤ 9; omega, .set n x' c, by show PyData.tuple ([.str (Str.ofString "set"), .str n] ++ (putD (.tuple (ss.map pdQ)) s w :: [pdO c])) = _; rw [e1]; rfl, h.1, by rw [e2]; exact h.2.1, e3, h.2.2.2⟩
    | 3, _, ek, mq =>
      obtain rfl := Option.some.inj ek
      obtain ⟨s, rfl, a, b, z, x', e1, e2⟩ := bd_oc nw h.2.2.2 (by decide) mq
      exact ⟨⟨_, rfl, a⟩, ⟨by show 4 ≤ 1000; decide, fun d e => by obtain rfl := Option.some.inj e; exact b⟩, by show s.length + 1 ≤ 9; omega, .set n ss x', by show PyData.tuple ([.str (Str.ofString "set"), .str n, .tuple (ss.map pdQ)] ++ (putD (pdO c) s w :: [])) = _; rw [e1]; rfl, h.1, h.2.1, h.2.2.1, e2⟩
    | k + 4, _, ek, _ => cases ek
  | ask how ts tabs c ob fi =>
    obtain ⟨hh, t3, o3, ht, ho, hc, b0, b3, hb'⟩ := h
    obtain ⟨k, d, hb, ek, mq⟩ := lv_mem m
    rw [beg_of (b := 2) _ (by decide +kernel)] at hb
    match k, hb, ek, mq with
    | 2, _, ek, mq =>
      obtain rfl := Option.some.inj ek
      obtain ⟨s, rfl, a, b, z, x', e1, e2, e3⟩ := bd_list (f := pdT) (R := TmB) (m := 6) (by omega) ht (fun x mx p q mq => bd_tm nw (ht x mx) (by decide) mq) mq
      exact ⟨⟨_, rfl, a⟩, ⟨by show 7 ≤ 1000; decide, fun d e => by obtain rfl := Option.some.inj e; exact b⟩, by show s.length + 1 ≤ 9; omega, .ask how x' tabs c ob fi, by show PyData.tuple ([.str (Str.ofString "ask"), .str how] ++ (putD (.tuple (ts.map pdT)) s w :: [.tuple (tabs.map PyData.str), pdO c, .tuple (ob.map pdT), pdI fi])) = _; rw [e1]; rfl, hh, by rw [e2]; exact t3, o3, e3, ho, hc, b0, b3, hb'⟩
    | 3, _, ek, mq =>
      obtain rfl := Option.some.inj ek
      obtain ⟨s, rfl, a, b, z, x', e1, e2, e3⟩ := bd_list (f := PyData.str) (R := Nx) (m := 0) (by omega) hb' (fun x _ p q mq => bd_str nw mq) mq
      exact ⟨⟨_, rfl, a⟩, ⟨by show 7 ≤ 1000; decide, fun d e => by obtain rfl := Option.some.inj e; exact b⟩, by show s.length + 1 ≤ 9; omega, .ask how ts x' c ob fi, by show PyData.tuple ([.str (Str.ofString "ask"), .str how, .tuple (ts.map pdT)] ++ (putD (.tuple (tabs.map PyData.str)) s w :: [pdO c, .tuple (ob.map pdT), pdI fi])) = _; rw [e1]; rfl, hh, t3, o3, ht, ho, hc, fun e => b0 (by rw [e] at e2; exact List.length_eq_zero_iff.mp e2.symm), by rw [e2]; exact b3, e3⟩
    | 4, _, ek, mq =>
      obtain rfl := Option.some.inj ek
      obtain ⟨s, rfl, a, b, z, x', e1, e2⟩ := bd_oc nw hc (by decide) mq
      exact ⟨⟨_, rfl, a⟩, ⟨by show 7 ≤ 1000; decide, fun d e => by obtain rfl := Option.some.inj e; exact b⟩, by show s.length + 1 ≤ 9; omega, .ask how ts tabs x' ob fi, by show PyData.tuple ([.str (Str.ofString "ask"), .str how, .tuple (ts.map pdT), .tuple (tabs.map PyData.str)] ++ (putD (pdO c) s w :: [.tuple (ob.map pdT), pdI fi])) = _; rw [e1]; rfl, hh, t3, o3, ht, ho, e2, b0, b3, hb'⟩
    | 5, _, ek, mq =>
      obtain rfl := Option.some.inj ek
      obtain ⟨s, rfl, a, b, z, x', e1, e2, e3⟩ := bd_list (f := pdT) (R := TmB) (m := 6) (by omega) ho (fun x mx p q mq => bd_tm nw (ho x mx) (by decide) mq) mq
      exact ⟨⟨_, rfl, a⟩, ⟨by show 7 ≤ 1000; decide, fun d e => by obtain rfl := Option.some.inj e; exact b⟩, by show s.length + 1 ≤ 9; omega, .ask how ts tabs c x' fi, by show PyData.tuple ([.str (Str.ofString "ask"), .str how, .tuple (ts.map pdT), .tuple (tabs.map PyData.str), pdO c] ++ (putD (.tuple (ob.map pdT)) s w :: [pdI fi])) = _; rw [e1]; rfl, hh, t3, by rw [e2]; exact o3, ht, e3, hc, b0, b3, hb'⟩
    | 6, _, ek, mq =>
      obtain rfl := Option.some.inj ek
      cases fi <;> cases mq
    | k + 7, _, ek, _ => cases ek
end GS

set_option linter.all false
set_option maxHeartbeats 4000000
namespace GS
open PySem L2 HX
open K06 hiding gn sa1 sif cb1 and2 or2 pw_mono Txt Cal
theorem good_t : ∀ {t : Tr} {n : Nat}, t.depth + 2 ≤ n → Good n (pdT t)
  | .num _, n + 2, _ => ⟨by show 2 ≤ 1000; decide, fun d m => by rcases List.mem_cons.mp m with rfl | m; exact trivial; obtain rfl := List.mem_singleton.mp m; exact trivial⟩
  | .field _ _, n + 2, _ => ⟨by show 3 ≤ 1000; decide, fun d m => by
      rcases List.mem_cons.mp m with rfl | m
      · exact trivial
      · rcases List.mem_cons.mp m with rfl | m
        · exact trivial
        · obtain rfl := List.mem_singleton.mp m; exact trivial⟩
  | .bin op l r, n + 2, h => ⟨by show 3 ≤ 1000; decide, fun d m => by
      have h : max l.depth r.depth + 1 + 2 ≤ n + 2 := h
      rcases List.mem_cons.mp m with rfl | m
      · exact trivial
      · rcases List.mem_cons.mp m with rfl | m
        · exact good_t (by omega)
        · obtain rfl := List.mem_singleton.mp m; exact good_t (by omega)⟩
  | .not x, n + 2, h => ⟨by show 2 ≤ 1000; decide, fun d m => by
      have h : x.depth + 1 + 2 ≤ n + 2 := h
      rcases List.mem_cons.mp m with rfl | m
      · exact trivial
      · obtain rfl := List.mem_singleton.mp m; exact good_t (by omega)⟩
def LL (ds : List PyData) (m : Nat) : Prop := PyData.canLayAll0 ds = true ∧ PyData.depthAll ds ≤ m
def L1 (d : PyData) (m : Nat) : Prop := PyData.canLay0 d = true ∧ PyData.depth d ≤ m
theorem LL.nil {m : Nat} : LL [] m := by simp [LL, PyData.canLayAll0, PyData.depthAll]
theorem LL.cons {d : PyData} {ds : List PyData} {m : Nat} (a : L1 d m) (b : LL ds m) : LL (d :: ds) m := by
  refine ⟨by simp [PyData.canLayAll0, a.1, b.1], ?_⟩
  have a2 := a.2
  have b2 := b.2
  simp only [PyData.depthAll]
  omega
theorem L1.tup {ds : List PyData} {m : Nat} (b : LL ds m) : L1 (.tuple ds) (m + 1) := by
  refine ⟨by simp only [PyData.canLay0]; exact b.1, ?_⟩
  have b2 := b.2
  simp only [PyData.depth]
  omega
theorem L1.str {x : Str} {m : Nat} (h : Ok x) : L1 (.str x) (m + 1) := by
  refine ⟨by simp only [PyData.canLay0]; exact h, ?_⟩
  simp only [PyData.depth]; omega
theorem L1.int {x : Int} {m : Nat} : L1 (.int x) (m + 1) := by
  refine ⟨by simp only [PyData.canLay0], ?_⟩
  simp only [PyData.depth]; omega
theorem L1.non {m : Nat} : L1 .none (m + 1) := by
  refine ⟨by simp only [PyData.canLay0], ?_⟩
  simp only [PyData.depth]; omega
theorem LL.map {α : Type} {f : α → PyData} {m : Nat} : ∀ {xs : List α}, (∀ x ∈ xs, L1 (f x) m) → LL (xs.map f) m
  | [], _ => .nil
  | x :: xs, h => .cons (h x List.mem_cons_self) (LL.map fun y my => h y (List.mem_cons_of_mem _ my))
theorem op_ok {op : Str} (m : op ∈ joins) : Ok op := (show ∀ o ∈ joins, Ok o by decide +kernel) op m
theorem lay_t : ∀ {t : Tr} {m : Nat}, Wn t → t.depth + 2 ≤ m → L1 (pdT t) m
  | .num _, m + 2, _, _ => .tup (.cons (.str (by decide +kernel)) (.cons .int .nil))
  | .field _ _, m + 2, w, _ => .tup (.cons (.str (by decide +kernel)) (.cons (.str w.1.2) (.cons (.str w.2.1.2) .nil)))
  | .bin op l r, m + 2, w, h => by
    have h : max l.depth r.depth + 1 + 2 ≤ m + 2 := h
    exact .tup (.cons (.str (op_ok w.1)) (.cons (lay_t w.2.1 (by omega)) (.cons (lay_t w.2.2 (by omega)) .nil)))
  | .not x, m + 2, w, h => by
    have h : x.depth + 1 + 2 ≤ m + 2 := h
    exact .tup (.cons (.str (by decide +kernel)) (.cons (lay_t (t := x) w (by omega)) .nil))
theorem lay_o {c : Option Tr} (h : ∀ t, c = some t → TmB t) : L1 (pdO c) 10 := by
  cases c with
  | none => exact .non
  | some t => exact lay_t (h t rfl).1 (by have := (h t rfl).2; omega)
theorem lay_fi (fi : Option Int) {m : Nat} : L1 (pdI fi) (m + 1) := by
  cases fi with
  | none => exact .non
  | some i => exact .int
theorem lay_s {S : Stm} (h : StP TmB S) : SeqAt.shaped (pdSt S) = true := by
  have go : L1 (pdSt S) 20 := by
    cases S with
    | table n fs => exact .tup (.cons (.str (by decide +kernel)) (.cons (.str h.1.2.1) (.cons (.tup (.map fun x m => .str (h.2.1 x m).2.1)) .nil)))
    | index n f => exact .tup (.cons (.str (by decide +kernel)) (.cons (.str h.1.2.1) (.cons (.str h.2.2.1) .nil)))
    | put n ns => exact .tup (.cons (.str (by decide +kernel)) (.cons (.str h.1.2.1) (.cons (.tup (.map fun x m => .int)) .nil)))
    | strike n c =>
      have o := lay_o h.2
      exact .tup (.cons (.str (by decide +kernel)) (.cons (.str h.1.2.1) (.cons ⟨o.1, Nat.le_trans o.2 (by decide)⟩ .nil)))
    | set n ss c =>
      have o := lay_o h.2.2.2
      exact .tup (.cons (.str (by decide +kernel)) (.cons (.str h.1.2.1) (.cons (.tup (.map fun q m => .tup (.cons (.str (h.2.2.1 q m).1.2.1) (.cons (lay_t (h.2.2.1 q m).2.1 (by have := (h.2.2.1 q m).2.2; omega)) .nil)))) (.cons ⟨o.1, Nat.le_trans o.2 (by decide)⟩ .nil))))
    | ask how ts tabs c ob fi =>
      obtain ⟨hh, t3, o3, ht, ho, hc, b0, b3, hb⟩ := h
      have o := lay_o hc
      exact .tup (.cons (.str (by decide +kernel)) (.cons (.str hh.2) (.cons (.tup (.map fun t m => lay_t (ht t m).1 (by have := (ht t m).2; omega))) (.cons (.tup (.map fun x m => .str (hb x m).2.1)) (.cons ⟨o.1, Nat.le_trans o.2 (by decide)⟩ (.cons (.tup (.map fun t m => lay_t (ho t m).1 (by have := (ho t m).2; omega))) (.cons (lay_fi fi) .nil)))))))
    | word x => exact .tup (.cons (.str ((show ∀ y ∈ words3, Ok y by decide +kernel) x h)) .nil)
  show (PyData.canLay0 (pdSt S) && decide (PyData.depth (pdSt S) ≤ 64)) = true
  rw [go.1, decide_eq_true (Nat.le_trans go.2 (by decide))]; rfl
theorem good_o {c : Option Tr} {n : Nat} (h : ∀ t, c = some t → TmB t) (l : 7 ≤ n) : Good n (pdO c) := by
  cases c with
  | none => obtain ⟨k, rfl⟩ : ∃ k, n = k + 1 := ⟨n - 1, by omega⟩; exact trivial
  | some t => exact good_t (by have := (h t rfl).2; omega)
theorem good_m {α : Type} {f : α → PyData} {n : Nat} {xs : List α} (l : xs.length ≤ 1000) (h : ∀ x ∈ xs, Good n (f x)) : Good (n + 1) (.tuple (xs.map f)) :=
  ⟨by rw [List.length_map]; exact l, fun d m => by obtain ⟨x, mx, rfl⟩ := List.mem_map.mp m; exact h x mx⟩
theorem good_l {ds : List PyData} {n : Nat} (l : ds.length ≤ 1000) (h : ∀ d ∈ ds, Good n d) : Good (n + 1) (.tuple ds) := ⟨l, h⟩
theorem mem_c {α : Type} {P : α → Prop} {x : α} {xs : List α} (a : P x) (b : ∀ y ∈ xs, P y) : ∀ y ∈ x :: xs, P y := fun y m => by
  rcases List.mem_cons.mp m with rfl | m
  · exact a
  · exact b y m
theorem mem_n {α : Type} {P : α → Prop} : ∀ y ∈ ([] : List α), P y := fun _ m => nomatch m
theorem good_s {S : Stm} (h : StP TmB S) : Good 11 (pdSt S) := by
  cases S with
  | table n fs => exact good_l (by show 3 ≤ 1000; decide) (mem_c trivial (mem_c trivial (mem_c (good_m (by have := h.2.2; omega) fun _ _ => trivial) mem_n)))
  | index n f => exact good_l (by show 3 ≤ 1000; decide) (mem_c trivial (mem_c trivial (mem_c trivial mem_n)))
  | put n ns => exact good_l (by show 3 ≤ 1000; decide) (mem_c trivial (mem_c trivial (mem_c (good_m (by have := h.2; omega) fun _ _ => trivial) mem_n)))
  | strike n c => exact good_l (by show 3 ≤ 1000; decide) (mem_c trivial (mem_c trivial (mem_c (good_o h.2 (by decide)) mem_n)))
  | set n ss c => exact good_l (by show 4 ≤ 1000; decide) (mem_c trivial (mem_c trivial (mem_c (good_m (by have := h.2.1; omega) fun q m => good_l (by show 2 ≤ 1000; decide) (mem_c trivial (mem_c (good_t (by have := (h.2.2.1 q m).2.2; omega)) mem_n))) (mem_c (good_o h.2.2.2 (by decide)) mem_n))))
  | ask how ts tabs c ob fi =>
    obtain ⟨hh, t3, o3, ht, ho, hc, b0, b3, hb⟩ := h
    exact good_l (by show 7 ≤ 1000; decide) (mem_c trivial (mem_c trivial (mem_c (good_m (by omega) fun t m => good_t (by have := (ht t m).2; omega)) (mem_c (good_m (by omega) fun _ _ => trivial) (mem_c (good_o hc (by decide)) (mem_c (good_m (by omega) fun t m => good_t (by have := (ho t m).2; omega)) (mem_c (by cases fi <;> exact trivial) mem_n)))))))
  | word x => exact good_l (by show 1 ≤ 1000; decide) (mem_c trivial mem_n)
theorem lv_cnt {n : Nat} {ds : List PyData} {p : List Nat} {B : Nat} (h : ∀ d ∈ ds, ∀ p, (lvD n d p).length ≤ B) : (lvD (n + 1) (.tuple ds) p).length ≤ ds.length * B := by
  have go : ∀ (m s : Nat), s + m ≤ ds.length → ((List.range' s m).flatMap fun k => lvD n (ds.getD k .none) (p ++ [k])).length ≤ m * B := by
    intro m
    induction m with
    | zero => intro s _; exact Nat.zero_le _
    | succ m ih =>
      intro s hs
      rw [List.range'_succ, List.flatMap_cons, List.length_append, Nat.succ_mul]
      have a := ih (s + 1) (by omega)
      have b : (lvD n (ds.getD s .none) (p ++ [s])).length ≤ B := by
        rw [List.getD_eq_getElem?_getD, List.getElem?_eq_getElem (by omega)]
        exact h _ (List.getElem_mem _) _
      omega
  show ((List.range' (beg ds) (ds.length - beg ds)).flatMap fun k => lvD n (ds.getD k .none) (p ++ [k])).length ≤ _
  by_cases c : beg ds ≤ ds.length
  · exact Nat.le_trans (go _ _ (by omega)) (Nat.mul_le_mul_right B (by omega))
  · rw [show ds.length - beg ds = 0 by omega]; exact Nat.zero_le _
theorem cnt_t {t : Tr} {n : Nat} (h : TmB t) (l : 7 ≤ n) (p : List Nat) : (lvD n (pdT t) p).length ≤ 64 := by
  refine Nat.le_trans (lv_len h.1 (by have := h.2; omega)) ?_
  exact Nat.le_trans (Nat.pow_le_pow_right (by decide) (show t.depth + 1 ≤ 6 by have := h.2; omega)) (by decide)
theorem cnt_o {c : Option Tr} {n : Nat} (h : ∀ t, c = some t → TmB t) (l : 7 ≤ n) (p : List Nat) : (lvD n (pdO c) p).length ≤ 64 := by
  cases c with
  | none => cases n <;> exact Nat.zero_le _
  | some t => exact cnt_t (h t rfl) l p
theorem cnt_1 {x : Str} {n : Nat} (p : List Nat) : (lvD n (.str x) p).length ≤ 600 := by
  cases n with
  | zero => exact Nat.zero_le _
  | succ n => show 1 ≤ 600; decide
theorem cnt_s {S : Stm} (h : StP TmB S) : (lvD 11 (pdSt S) []).length ≤ 4200 := by
  have le : ∀ {a b c : Nat}, a ≤ b * c → b * c ≤ 600 → a ≤ 600 := fun x y => Nat.le_trans x y
  have fin : ∀ {ds : List PyData}, ds.length ≤ 7 → (∀ d ∈ ds, ∀ p, (lvD 10 d p).length ≤ 600) → (lvD 11 (.tuple ds) []).length ≤ 4200 := fun l h => Nat.le_trans (lv_cnt h) (Nat.le_trans (Nat.mul_le_mul_right 600 l) (by decide))
  have lst : ∀ {α : Type} {f : α → PyData} {xs : List α} {B : Nat}, (∀ x ∈ xs, ∀ p, (lvD 9 (f x) p).length ≤ B) → xs.length * B ≤ 600 → ∀ p, (lvD 10 (.tuple (xs.map f)) p).length ≤ 600 := fun h l p => by
    refine Nat.le_trans (lv_cnt (fun d m => ?_)) (by rw [List.length_map]; exact l)
    obtain ⟨x, mx, rfl⟩ := List.mem_map.mp m
    exact h x mx
  have o6 : ∀ {c : Option Tr}, (∀ t, c = some t → TmB t) → ∀ p, (lvD 10 (pdO c) p).length ≤ 600 := fun h p => Nat.le_trans (cnt_o h (by decide) p) (by decide)
  cases S with
  | table n fs => exact fin (by show 3 ≤ 7; decide) (mem_c cnt_1 (mem_c cnt_1 (mem_c (lst (B := 1) (fun _ _ p => Nat.le_refl 1) (by have := h.2.2; omega)) mem_n)))
  | index n f => exact fin (by show 3 ≤ 7; decide) (mem_c cnt_1 (mem_c cnt_1 (mem_c cnt_1 mem_n)))
  | put n ns => exact fin (by show 3 ≤ 7; decide) (mem_c cnt_1 (mem_c cnt_1 (mem_c (lst (B := 0) (fun _ _ p => Nat.le_refl 0) (by omega)) mem_n)))
  | strike n c => exact fin (by show 3 ≤ 7; decide) (mem_c cnt_1 (mem_c cnt_1 (mem_c (o6 h.2) mem_n)))
  | set n ss c =>
    refine fin (by show 4 ≤ 7; decide) (mem_c cnt_1 (mem_c cnt_1 (mem_c (lst (B := 128) (fun q m p => ?_) (by have := h.2.1; omega)) (mem_c (o6 h.2.2.2) mem_n))))
    refine Nat.le_trans (lv_cnt (B := 64) (mem_c (fun p => by show 1 ≤ 64; decide) (mem_c (fun p => cnt_t (h.2.2.1 q m).2 (by decide) p) mem_n))) (by show 2 * 64 ≤ 128; decide)
  | ask how ts tabs c ob fi =>
    obtain ⟨hh, t3, o3, ht, ho, hc, b0, b3, hb⟩ := h
    exact fin (by show 7 ≤ 7; decide) (mem_c cnt_1 (mem_c cnt_1 (mem_c (lst (B := 64) (fun t m p => cnt_t (ht t m) (by decide) p) (by omega)) (mem_c (lst (B := 1) (fun _ _ p => Nat.le_refl 1) (by omega)) (mem_c (o6 hc) (mem_c (lst (B := 64) (fun t m p => cnt_t (ho t m) (by decide) p) (by omega)) (mem_c (fun p => by cases fi <;> exact Nat.zero_le _) mem_n)))))))
  | word x => exact fin (by show 1 ≤ 7; decide) (mem_c cnt_1 mem_n)
theorem lv_in {n : Nat} {ds : List PyData} {p q : List Nat} {k : Nat} {d : PyData} (hb : beg ds ≤ k) (e : ds[k]? = some d) (m : q ∈ lvD n d (p ++ [k])) : q ∈ lvD (n + 1) (.tuple ds) p := by
  have lk := (List.getElem?_eq_some_iff.mp e).1
  refine List.mem_flatMap.mpr ⟨k, List.mem_range'_1.mpr ⟨hb, by omega⟩, ?_⟩
  rw [List.getD_eq_getElem?_getD, e]; exact m
def notWord (S : Stm) : Prop := ∀ x, S ≠ .word x
theorem lv_some {S : Stm} (h : StP TmB S) (nw : notWord S) : 1 ≤ (lvD 11 (pdSt S) []).length := by
  suffices go : ∃ q, q ∈ lvD 11 (pdSt S) [] by
    obtain ⟨q, m⟩ := go
    exact List.length_pos_of_mem m
  cases S with
  | word x => exact absurd rfl (nw x)
  | table n fs => exact ⟨[1], lv_in (k := 1) (d := .str n) (by rw [beg_of (b := 1) _ (by decide +kernel)]; exact Nat.le_refl _) rfl (List.mem_singleton.mpr rfl)⟩
  | index n f => exact ⟨[1], lv_in (k := 1) (d := .str n) (by rw [beg_of (b := 1) _ (by decide +kernel)]; exact Nat.le_refl _) rfl (List.mem_singleton.mpr rfl)⟩
  | put n f => exact ⟨[1], lv_in (k := 1) (d := .str n) (by rw [beg_of (b := 1) _ (by decide +kernel)]; exact Nat.le_refl _) rfl (List.mem_singleton.mpr rfl)⟩
  | strike n f => exact ⟨[1], lv_in (k := 1) (d := .str n) (by rw [beg_of (b := 1) _ (by decide +kernel)]; exact Nat.le_refl _) rfl (List.mem_singleton.mpr rfl)⟩
  | set n f c => exact ⟨[1], lv_in (k := 1) (d := .str n) (by rw [beg_of (b := 1) _ (by decide +kernel)]; exact Nat.le_refl _) rfl (List.mem_singleton.mpr rfl)⟩
  | ask how ts tabs c ob fi =>
    obtain ⟨hh, t3, o3, ht, ho, hc, b0, b3, hb⟩ := h
    cases tabs with
    | nil => exact absurd rfl b0
    | cons x r =>
      refine ⟨[3, 0], lv_in (k := 3) (d := .tuple ((x :: r).map PyData.str)) (by rw [beg_of (b := 2) _ (by decide +kernel)]; decide) rfl ?_⟩
      exact lv_in (k := 0) (d := .str x) (by rw [List.map_cons, nx_beg (hb x List.mem_cons_self)]; exact Nat.le_refl _) rfl (List.mem_singleton.mpr rfl)
theorem putD_tup {ds : List PyData} {q : List Nat} {w x : Str} (l : 3 ≤ ds.length) (va : Val (.tuple ds) q) (e : putD (.tuple ds) q w = .tuple [.str x]) : False := by
  cases q with
  | nil => cases e
  | cons k s =>
    obtain ⟨d, ek, _⟩ := va
    have lk := (List.getElem?_eq_some_iff.mp ek).1
    have e : (match ds[k]? with | some d => PyData.tuple (ds.take k ++ (putD d s w :: ds.drop (k + 1))) | none => .tuple ds) = .tuple [.str x] := e
    rw [ek] at e
    have e := congrArg List.length (PyData.tuple.inj e)
    rw [List.length_append, List.length_take, List.length_cons, List.length_drop] at e
    simp only [List.length_cons, List.length_nil] at e
    omega
theorem notWord_of {S S' : Stm} {q : List Nat} {w : Str} (nw : notWord S) (va : Val (pdSt S) q) (e : putD (pdSt S) q w = pdSt S') : notWord S' := by
  rintro x rfl
  cases S with
  | word x => exact nw x rfl
  | table n fs => exact putD_tup (by show 3 ≤ 3; decide) va e
  | index n fs => exact putD_tup (by show 3 ≤ 3; decide) va e
  | put n fs => exact putD_tup (by show 3 ≤ 3; decide) va e
  | strike n fs => exact putD_tup (by show 3 ≤ 3; decide) va e
  | set n fs c => exact putD_tup (by show 3 ≤ 4; decide) va e
  | ask a b c d e' f => exact putD_tup (by show 3 ≤ 7; decide) va e
def spBent (K : PySem.W.Frag) : Sp := fun vs H Q _ => ∃ (a b p : Addr) (S : Stm), vs = [.ref a, .ref p] ∧ HAt H a b ∧ SmAt K H p S ∧ StP TmB S ∧ notWord S ∧
  ∀ p' S' H', HAt H' a b → Keep a b H H' → SmAt K H' p' S' → StP TmB S' → notWord S' → Q (.ref p') H'
section
variable {P : Program} {w : World} {K : PySem.W.Frag} {mg : Str → Option Value} {base : Heap}
theorem scBe : FnScope ["_law_h", "_law_tree", "_law_some_here"] ["_law_h", "_law_tree"] (defScope s_l_bent) := ⟨rfl, rfl, rfl, by decide +kernel, rfl, by decide +kernel, by decide +kernel⟩
theorem ok_bent {j : Nat} {f fn fL fP : Addr} {fd fdn fdL fdP : FuncData} (F : Fun K "_law_bent" "_law_bent" s_l_bent f fd) (T : GS.Txt mg) (j1 : 1 ≤ j) (jL : 11 ≤ j) (jP : 10 ≤ j) (Cnext : K06.Cal P w K mg base 1 "_law_next" ["_law_h", "_law_many"] spNext fn fdn)
    (gL : mg "_law_leaves" = some (.ref fL)) (kL : PySem.W.keepIn K (.ref fL) = true) (bL : Binds K fdL ["_law_one", "_law_path"] []) (GL : FnOk P w K mg base CX0 11 fL fdL ["_law_one", "_law_path"] (spLv K 11))
    (gP : mg "_law_put" = some (.ref fP)) (kP : PySem.W.keepIn K (.ref fP) = true) (bP : Binds K fdP ["_law_one", "_law_path", "_law_word_here"] []) (GP : FnOk P w K mg base CX0 10 fP fdP ["_law_one", "_law_path", "_law_word_here"] (spPut K 10)) : FnOk P w K mg base CX0 (j + 1) f fd ["_law_h", "_law_tree"] (spBent K) := by
  refine F.ok scBe (fun vs H Q E h => ?_) (fun cdv A outer s H vs Q E hr h => ?_)
  · obtain ⟨a, b, p, S, rfl, _⟩ := h
    rfl
  · obtain ⟨a, b, p, S, rfl, B, hS, st, nw, k⟩ := h
    have hr1 : Room j _ := hr
    refine ⟨_, (pss_cons (ps_set (i := 2) scBe.nd rfl (Or.inl rfl) (pe_call GL (hr1.mono jL) (by rfl) gL kL bL .nil pass0 (pa_cons (pv 1) (pa_cons (pe_tup pa_nil) pa_nil))))
      (pss_one (ps_ret (pe_call GP (hr1.mono jP) (by rfl) gP kP bP .nil pass0 (pa_cons (pv 1) (pa_cons (pe_ix (RK.ixL (K := K)) (pv 2) (pe_call Cnext.G (hr1.mono j1) (by rfl) Cnext.g Cnext.kp Cnext.b .nil pass0 (pa_cons (pv 0) (pa_cons (pe_callB (RK.lenQ (K := K)) (by rfl) T.len PySem.boot_len (pa_cons (pv 2) pa_nil)) pa_nil))) (fun _ _ => rfl)) (pa_cons (pe_ix (RK.ixL (K := K)) (pe_lst (pa_cons pe_str (pa_cons pe_str (pa_cons pe_str (pa_cons pe_str (pa_cons pe_str (pa_cons pe_str pa_nil))))))) (pe_call Cnext.G (hr1.mono j1) (by rfl) Cnext.g Cnext.kp Cnext.b .nil pass0 (pa_cons (pv 0) (pa_cons pe_int pa_nil))) (fun _ _ => rfl)) pa_nil))))))), ?_⟩

    refine sa1 ⟨_, rfl, by show 0 ≤ sizeLine; decide, fun e he => ?_⟩
    have se := same_new (o := .tup []) he
    have cn := cnt_s st
    have c1 := lv_some st nw
    refine ⟨.ref p, e, pdSt S, [], rfl, Dp.same se (dp_st hS), SqT.of upd_same, good_s st, lay_s st, by omega, by show 0 + 11 ≤ 1000; decide, fun l us H1 s1 l0 el pw => gn ?_⟩
    have s01 := se.trans s1
    have B1 := B.same s01
    have nl : l ≠ a ∧ l ≠ b := by
      have := (B.same se).ne l0
      exact this
    have lus := pw_len pw
    try dsimp only
    refine ⟨_, rfl, _, rfl, _, rfl, _, rfl, l, _, rfl, .inl (SqL.of el), a, b, _, rfl, by omega, by omega, B1, fun z H2 z0 z1 B2 k2 => ?_⟩
    have el2 := k2 l _ nl.1 nl.2 el
    obtain ⟨v, ev⟩ : ∃ v, us[z.toNat]? = some v := ⟨_, List.getElem?_eq_getElem (by omega)⟩
    obtain ⟨q, eq, aq, rfl, hq⟩ := pw_nth pw ev
    refine ⟨l, _, z, .ref aq, rfl, rfl, SqL.of el2, atI_of z0 ev, by show 6 ≤ sizeLine; decide, fun l2 hl2 => ?_⟩
    have s3 := Same.new (o := .lst ([Str.ofString "k", Str.ofString "x", Str.ofString "zz", Str.ofString "ta", Str.ofString "tb", Str.ofString "q"].map V.str)) hl2
    have nl2 := B2.ne hl2
    refine ⟨_, rfl, a, b, 6, rfl, by decide, by decide, B2.same s3, fun y H4 y0 y1 B4 k4 => ?_⟩
    have el4 := k4 l2 _ nl2.1 nl2.2 upd_same
    obtain ⟨x, ex, nx⟩ : ∃ x : Str, atI ([Str.ofString "k", Str.ofString "x", Str.ofString "zz", Str.ofString "ta", Str.ofString "tb", Str.ofString "q"].map V.str) y = some (.str x) ∧ Nx x := by
      have h : y = 0 ∨ y = 1 ∨ y = 2 ∨ y = 3 ∨ y = 4 ∨ y = 5 := by omega
      rcases h with rfl | rfl | rfl | rfl | rfl | rfl <;> exact ⟨_, rfl, by decide +kernel, by decide +kernel, by decide +kernel, by decide +kernel⟩
    refine ⟨l2, _, y, .str x, rfl, rfl, SqL.of el4, ex, ?_⟩
    have kk : Keep a b H H4 := (K06.Keep.same s01).trans (k2.trans ((K06.Keep.same s3).trans k4))
    have kn := kk.n B
    obtain ⟨va, sp, lq, S', e1, st'⟩ := bendS nx st (List.mem_of_getElem? eq) nw
    refine ⟨.ref p, aq, x, pdSt S, q, rfl, dp_st (hS.mono fun _ _ z => kn.t z), ((k2.trans ((K06.Keep.same s3).trans k4)).n B1).t hq, va, sp, by omega, fun v' H5 s5 h5 => ?_⟩
    rw [e1] at h5
    obtain ⟨p', rfl, hp'⟩ := st_dp h5
    exact k p' S' H5 (B4.same s5) (kk.trans (K06.Keep.same s5)) hp' st' (notWord_of nw va e1)
end
end GS

set_option linter.all false
set_option maxHeartbeats 4000000
namespace GS
open PySem L2 HX
open K06 hiding gn sa1 sif cb1 and2 or2 pw_mono Txt Cal
/-! ### what is due, pure -/
def dups : List Str → List Str → List Str
  | _, [] => []
  | seen, n :: r => if n ∈ seen then n :: dups (seen ++ [n]) r else dups (seen ++ [n]) r
theorem dups_go : ∀ {r seen : List Str}, goA (fun _ => false) seen r = (dups seen r).head?
  | [], _ => rfl
  | n :: r, seen => by
    show (if (fun _ => false) n = true ∨ n ∈ seen then some n else goA (fun _ => false) (seen ++ [n]) r) = (if n ∈ seen then n :: dups (seen ++ [n]) r else dups (seen ++ [n]) r).head?
    by_cases c : n ∈ seen
    · rw [if_pos (Or.inr c), if_pos c]; rfl
    · rw [if_neg (fun z => z.elim (fun z => absurd z Bool.false_ne_true) c), if_neg c]
      exact dups_go
def badSet (sh : Shp) (n : Str) (seen : List Str) (f : Str) : Bool := !decide (f ∈ (flds1 sh n).tail) || decide (f ∈ seen)
def setWords (sh : Shp) (n : Str) : List Str → List (Str × Tr) → List Str
  | _, [] => []
  | seen, q :: r => (if badSet sh n seen q.1 = true then q.1 else sE) :: firstT sh [n] q.2 :: setWords sh n (seen ++ [q.1]) r
abbrev sRow : Str := Str.ofString "row"
def tabsOf : Stm → List Str
  | .ask _ _ tabs _ _ _ => tabs
  | .index n _ => [n]
  | .put n _ => [n]
  | .set n _ _ => [n]
  | .strike n _ => [n]
  | _ => []
def dueR (sh : Shp) (ix : List (Str × Str)) : Stm → Str
  | .put n ns => if ns.length ≠ (flds1 sh n).length then sRow else sE
  | .index n f => if (!decide (f ∈ (flds1 sh n).tail) || decide ((n, f) ∈ ix)) = true then f else sE
  | .strike n c => pickS [firstO sh [n] c]
  | .ask _ ts tabs c ob _ => pickS (ts.map (firstT sh tabs) ++ [firstO sh tabs c] ++ ob.map (firstT sh tabs))
  | .set n ss c => pickS (setWords sh n [] ss ++ [firstO sh [n] c])
  | _ => sE
def dueS (sh : Shp) (ix : List (Str × Str)) : Stm → Str
  | .table n fs => if n ∈ sh.map (·.1) then n else ((dups [] fs).head?).getD sE
  | S => match goA (absent sh) [] (tabsOf S) with | some e => e | none => dueR sh ix S
def wordOf : Except (Option Str) Stm → Str
  | .ok _ => sE
  | .error (some e) => e
  | .error none => sRow
/-- the first word and what is filled in -/
def FirstOk (x : Except Str α) (w : Str) : Prop := match x with | .ok _ => w = sE | .error e => w = e ∧ e ≠ sE
structure TsOk' (sh : Shp) (ts : List Str) : Prop where
  th : There sh ts
  nd : ts.Nodup
theorem own_len {sh : Shp} {ts : List Str} (nd : ts.Nodup) {t f : Str} (ht : t ∈ ts) (h0 : t ≠ sE) : (ownT sh ts t f).length = if f ∈ flds1 sh t then 1 else 0 := by
  have e : ownT sh ts t f = (ts.filter fun x => x == t).filter fun x => decide (f ∈ flds1 sh x) := by
    unfold ownT
    rw [List.filter_filter]
    congr 1
    funext x
    by_cases c : x = t
    · subst c; simp
    · have c2 : t ≠ x := fun z => c z.symm
      have : (x == t) = false := by simpa using c
      simp [this, h0, c2]
  have e2 : ts.filter (fun x => x == t) = [t] := by
    rw [List.filter_beq, List.Nodup.count nd, if_pos ht]; rfl
  rw [e, e2]
  by_cases c : f ∈ flds1 sh t
  · rw [if_pos c]; simp [c]
  · rw [if_neg c]; simp [c]
theorem own_e {sh : Shp} {ts : List Str} {f : Str} : ownT sh ts sE f = owners sh ts f := by
  unfold ownT owners
  congr 1
  funext x
  simp
theorem one_len {xs : List Str} : (∃ o, oneOf xs = some o) ↔ xs.length = 1 := by
  rcases xs with _ | ⟨a, _ | ⟨b, c⟩⟩
  · exact ⟨fun ⟨_, e⟩ => (nomatch e), fun e => (nomatch e)⟩
  · exact ⟨fun _ => rfl, fun _ => ⟨a, rfl⟩⟩
  · exact ⟨fun ⟨_, e⟩ => (nomatch e), fun e => by simp at e⟩
theorem first_fill {sh : Shp} {ts : List Str} (T : TsOk' sh ts) : ∀ {t : Tr}, Wn t → FirstOk (fillT sh ts t) (firstT sh ts t)
  | .num _, _ => rfl
  | .field t f, w => by
    show FirstOk (fieldF sh ts t f) (firstF sh ts t f)
    by_cases c : t = sE
    · subst c
      unfold firstF
      rw [fieldF_eq, if_neg (fun z => z.1 rfl), own_e]
      cases e : oneOf (owners sh ts f) with
      | some o => rw [if_pos (one_len.mp ⟨o, e⟩)]; exact rfl
      | none => rw [if_neg (fun z => by obtain ⟨o, z⟩ := one_len.mpr z; rw [e] at z; cases z)]; exact ⟨rfl, w.2.2⟩
    · unfold fieldF firstF
      rw [if_neg c]
      by_cases c2 : t ∈ ts
      · rw [if_pos c2, if_neg (show ¬ (t ≠ sE ∧ t ∉ ts) from fun z => z.2 c2), own_len T.nd c2 c]
        by_cases c3 : f ∈ flds1 sh t
        · rw [if_pos c3, if_pos c3]; exact rfl
        · rw [if_neg c3, if_neg c3]; exact ⟨rfl, w.2.2⟩
      · rw [if_neg c2, if_pos (show t ≠ sE ∧ t ∉ ts from ⟨c, c2⟩)]
        exact ⟨rfl, c⟩
  | .bin op l r, w => by
    have a := first_fill T w.2.1
    have b := first_fill T w.2.2
    show FirstOk (match fillT sh ts l with | .error e => .error e | .ok l' => (match fillT sh ts r with | .error e => .error e | .ok r' => .ok (Tr.bin op l' r'))) (pickS [firstT sh ts l, firstT sh ts r])
    cases e1 : fillT sh ts l with
    | error x => rw [e1] at a; obtain ⟨a1, a2⟩ := a; rw [a1]; show _ ∧ _; unfold pickS; rw [if_neg a2]; exact ⟨rfl, a2⟩
    | ok l' =>
      rw [e1] at a
      have a : firstT sh ts l = sE := a
      rw [a]
      show FirstOk (match fillT sh ts r with | .error e => .error e | .ok r' => .ok (Tr.bin op l' r')) (pickS [sE, firstT sh ts r])
      unfold pickS
      rw [if_pos rfl]
      cases e2 : fillT sh ts r with
      | error x => rw [e2] at b; obtain ⟨b1, b2⟩ := b; rw [b1]; unfold pickS; rw [if_neg b2]; exact ⟨rfl, b2⟩
      | ok r' => rw [e2] at b; have b : firstT sh ts r = sE := b; rw [b]; unfold pickS; rw [if_pos rfl]; exact rfl
  | .not x, w => by
    have a := first_fill T (t := x) w
    show FirstOk (match fillT sh ts x with | .error e => .error e | .ok x' => .ok (Tr.not x')) (pickS [firstT sh ts x])
    cases e1 : fillT sh ts x with
    | error y => rw [e1] at a; obtain ⟨a1, a2⟩ := a; rw [a1]; show _ ∧ _; unfold pickS; rw [if_neg a2]; exact ⟨rfl, a2⟩
    | ok x' => rw [e1] at a; have a : firstT sh ts x = sE := a; rw [a]; unfold pickS; rw [if_pos rfl]; exact rfl
theorem first_fillO {sh : Shp} {ts : List Str} (T : TsOk' sh ts) {c : Option Tr} (w : ∀ t, c = some t → Wn t) : FirstOk (fillO sh ts c) (firstO sh ts c) := by
  cases c with
  | none => exact rfl
  | some t =>
    have a := first_fill T (w t rfl)
    show FirstOk (match fillT sh ts t with | .error e => .error e | .ok r => .ok (some r)) (firstT sh ts t)
    cases e : fillT sh ts t with
    | error y => rw [e] at a; exact a
    | ok y => rw [e] at a; exact a
theorem pick_app : ∀ {a b : List Str}, pickS (a ++ b) = if pickS a = sE then pickS b else pickS a
  | [], b => by show pickS b = if sE = sE then pickS b else sE; rw [if_pos rfl]
  | x :: a, b => by
    show (if x = sE then pickS (a ++ b) else x) = if (if x = sE then pickS a else x) = sE then pickS b else (if x = sE then pickS a else x)
    by_cases c : x = sE
    · rw [if_pos c, if_pos c]; exact pick_app
    · rw [if_neg c, if_neg c, if_neg c]
theorem first_fillL {sh : Shp} {ts : List Str} (T : TsOk' sh ts) : ∀ {us : List Tr}, (∀ t ∈ us, Wn t) → FirstOk (fillL sh ts us) (pickS (us.map (firstT sh ts)))
  | [], _ => rfl
  | t :: us, w => by
    have a := first_fill T (w t List.mem_cons_self)
    have b := first_fillL T (us := us) fun u m => w u (List.mem_cons_of_mem _ m)
    show FirstOk (match fillT sh ts t with | .error e => .error e | .ok r => match fillL sh ts us with | .error e => .error e | .ok rs => .ok (r :: rs)) (if firstT sh ts t = sE then pickS (us.map (firstT sh ts)) else firstT sh ts t)
    cases e1 : fillT sh ts t with
    | error x => rw [e1] at a; obtain ⟨a1, a2⟩ := a; rw [a1, if_neg a2]; exact ⟨rfl, a2⟩
    | ok x =>
      rw [e1] at a
      have a : firstT sh ts t = sE := a
      rw [if_pos a]
      show FirstOk (match fillL sh ts us with | .error e => .error e | .ok rs => .ok (x :: rs)) _
      cases e2 : fillL sh ts us with
      | error y => rw [e2] at b; exact b
      | ok y => rw [e2] at b; exact b
/-- no key, where fields differ -/
theorem noKey_tail {fs : List Str} (nd : fs.Nodup) {f : Str} : noKey fs f ↔ f ∉ fs.tail := by
  cases fs with
  | nil => exact ⟨fun _ m => (nomatch m), fun _ => Or.inl fun m => (nomatch m)⟩
  | cons a r =>
    have h := List.nodup_cons.mp nd
    constructor
    · rintro (z | z) m
      · exact z (List.mem_cons_of_mem _ m)
      · obtain rfl : a = f := Option.some.inj z
        exact h.1 m
    · intro m
      by_cases c : a = f
      · exact .inr (by rw [c]; rfl)
      · exact .inl fun z => (List.mem_cons.mp z).elim (fun e => c e.symm) m
theorem bad_iff {sh : Shp} {n f : Str} {seen : List Str} (nd : (flds1 sh n).Nodup) : (badSet sh n seen f = true) ↔ (noKey (flds1 sh n) f ∨ f ∈ seen) := by
  unfold badSet
  rw [noKey_tail nd, Bool.or_eq_true, Bool.not_eq_true', decide_eq_false_iff_not, decide_eq_true_iff]
theorem first_set {sh : Shp} {n : Str} (T : TsOk' sh [n]) (nd : (flds1 sh n).Nodup) : ∀ {ss : List (Str × Tr)} {seen : List Str}, (∀ q ∈ ss, q.1 ≠ sE ∧ Wn q.2) → FirstOk (setF sh n seen ss) (pickS (setWords sh n seen ss))
  | [], _, _ => rfl
  | q :: r, seen, w => by
    have a := first_fill T (w q List.mem_cons_self).2
    have b := first_set T nd (ss := r) (seen := seen ++ [q.1]) fun u m => w u (List.mem_cons_of_mem _ m)
    show FirstOk (if noKey (flds1 sh n) q.1 ∨ q.1 ∈ seen then .error q.1 else match fillT sh [n] q.2 with | .error e => .error e | .ok t => match setF sh n (seen ++ [q.1]) r with | .error e => .error e | .ok r' => .ok ((q.1, t) :: r')) (pickS ((if badSet sh n seen q.1 = true then q.1 else sE) :: firstT sh [n] q.2 :: setWords sh n (seen ++ [q.1]) r))
    by_cases c : noKey (flds1 sh n) q.1 ∨ q.1 ∈ seen
    · have q0 := (w q List.mem_cons_self).1
      rw [if_pos c, if_pos ((bad_iff nd).mpr c)]
      unfold pickS
      rw [if_neg q0]
      exact ⟨rfl, q0⟩
    · rw [if_neg c, if_neg (fun z => c ((bad_iff nd).mp z))]
      show FirstOk _ (if sE = sE then (if firstT sh [n] q.2 = sE then pickS (setWords sh n (seen ++ [q.1]) r) else firstT sh [n] q.2) else sE)
      rw [if_pos rfl]
      cases e1 : fillT sh [n] q.2 with
      | error x => rw [e1] at a; obtain ⟨a1, a2⟩ := a; rw [a1, if_neg a2]; exact ⟨rfl, a2⟩
      | ok x =>
        rw [e1] at a
        have a : firstT sh [n] q.2 = sE := a
        rw [if_pos a]
        show FirstOk (match setF sh n (seen ++ [q.1]) r with | .error e => .error e | .ok r' => .ok ((q.1, x) :: r')) _
        cases e2 : setF sh n (seen ++ [q.1]) r with
        | error y => rw [e2] at b; exact b
        | ok y => rw [e2] at b; exact b
end GS

set_option linter.all false
set_option maxHeartbeats 4000000
namespace GS
open PySem L2 HX
open K06 hiding gn sa1 sif cb1 and2 or2 pw_mono Txt Cal
theorem goA_mem {p : Str → Bool} {f : Str} : ∀ {ts seen : List Str}, goA p seen ts = some f → f ∈ ts
  | [], _, h => nomatch h
  | n :: r, seen, h => by
    have h : (if p n = true ∨ n ∈ seen then some n else goA p (seen ++ [n]) r) = some f := h
    by_cases c : p n = true ∨ n ∈ seen
    · rw [if_pos c] at h
      obtain rfl := Option.some.inj h
      exact List.mem_cons_self
    · rw [if_neg c] at h
      exact List.mem_cons_of_mem _ (goA_mem h)
theorem goA_nd {p : Str → Bool} : ∀ {ts seen : List Str}, goA p seen ts = none → ts.Nodup ∧ ∀ x ∈ ts, x ∉ seen
  | [], _, _ => ⟨List.nodup_nil, fun _ m => nomatch m⟩
  | n :: r, seen, h => by
    have h : (if p n = true ∨ n ∈ seen then some n else goA p (seen ++ [n]) r) = none := h
    by_cases c : p n = true ∨ n ∈ seen
    · rw [if_pos c] at h; cases h
    · rw [if_neg c] at h
      obtain ⟨a, b⟩ := goA_nd h
      refine ⟨List.nodup_cons.mpr ⟨fun m => b n m (List.mem_append_right _ (List.mem_singleton.mpr rfl)), a⟩, fun x m z => ?_⟩
      rcases List.mem_cons.mp m with rfl | m
      · exact c (.inr z)
      · exact b x m (List.mem_append_left _ z)
theorem goA1 {sh : Shp} {n : Str} : goA (absent sh) [] [n] = if n ∉ sh.map (·.1) then some n else none := by
  show (if absent sh n = true ∨ n ∈ ([] : List Str) then some n else none) = _
  by_cases c : n ∈ sh.map (·.1)
  · have a : absent sh n = false := by unfold absent; rw [decide_eq_true c]; rfl
    rw [if_neg (show ¬ (n ∉ sh.map (·.1)) from fun z => z c), if_neg (show ¬ (absent sh n = true ∨ n ∈ ([] : List Str)) from fun z => z.elim (fun y => by rw [a] at y; cases y) (fun y => nomatch y))]
  · have a : absent sh n = true := by unfold absent; rw [decide_eq_false c]; rfl
    rw [if_pos (show n ∉ sh.map (·.1) from c), if_pos (show absent sh n = true ∨ n ∈ ([] : List Str) from .inl a)]
def WordOk (x : Except (Option Str) Stm) (w : Str) : Prop := match x with | .ok _ => w = sE | .error (some e) => w = e ∧ e ≠ sE | .error none => w = sRow
theorem one_ts {sh : Shp} {n : Str} (h : n ∈ sh.map (·.1)) : TsOk' sh [n] := ⟨fun t m => by obtain rfl := List.mem_singleton.mp m; exact h, List.nodup_cons.mpr ⟨fun m => (nomatch m), List.nodup_nil⟩⟩
theorem pick1 (w : Str) : pickS [w] = w := by
  show (if w = sE then sE else w) = w
  by_cases c : w = sE
  · rw [if_pos c, c]
  · rw [if_neg c]
theorem due_chk {sh : Shp} {ix : List (Str × Str)} {S : Stm} (nd : ∀ t, (flds1 sh t).Nodup) (st : StP TmB S) (nw : notWord S) : WordOk (chk sh ix S) (dueS sh ix S) := by
  cases S with
  | word x => exact absurd rfl (nw x)
  | table n fs =>
    show WordOk (if n ∈ sh.map (·.1) then .error (some n) else match goA (fun _ => false) [] fs with | some f => .error (some f) | none => .ok (.table n fs)) (if n ∈ sh.map (·.1) then n else ((dups [] fs).head?).getD sE)
    by_cases c : n ∈ sh.map (·.1)
    · rw [if_pos c, if_pos c]; exact ⟨rfl, st.1.2.2.1⟩
    · rw [if_neg c, if_neg c, ← dups_go]
      cases e : goA (fun _ => false) [] fs with
      | none => exact rfl
      | some f => exact ⟨rfl, (st.2.1 f (goA_mem e)).2.2.1⟩
  | index n f =>
    show WordOk (match ixErr sh ix n f with | some e => .error (some e) | none => .ok (.index n f)) (match goA (absent sh) [] [n] with | some e => e | none => dueR sh ix (.index n f))
    rw [goA1]
    unfold ixErr
    by_cases c : n ∉ sh.map (·.1)
    · rw [if_pos c, if_pos c]; exact ⟨rfl, st.1.2.2.1⟩
    · rw [if_neg c, if_neg c]
      show WordOk _ (if (!decide (f ∈ (flds1 sh n).tail) || decide ((n, f) ∈ ix)) = true then f else sE)
      by_cases c1 : noKey (flds1 sh n) f
      · have c1' := (noKey_tail (nd n)).mp c1
        rw [if_pos c1, decide_eq_false c1']
        exact ⟨rfl, st.2.2.2.1⟩
      · have c1' : f ∈ (flds1 sh n).tail := Classical.byContradiction fun z => c1 ((noKey_tail (nd n)).mpr z)
        rw [if_neg c1, decide_eq_true c1']
        by_cases c2 : (n, f) ∈ ix
        · rw [if_pos c2, decide_eq_true c2]; exact ⟨rfl, st.2.2.2.1⟩
        · rw [if_neg c2, decide_eq_false c2]; exact rfl
  | put n ns =>
    show WordOk (if n ∉ sh.map (·.1) then .error (some n) else if ns.length ≠ (flds1 sh n).length then .error none else .ok (.put n ns)) (match goA (absent sh) [] [n] with | some e => e | none => dueR sh ix (.put n ns))
    rw [goA1]
    by_cases c : n ∉ sh.map (·.1)
    · rw [if_pos c, if_pos c]; exact ⟨rfl, st.1.2.2.1⟩
    · rw [if_neg c, if_neg c]
      show WordOk _ (if ns.length ≠ (flds1 sh n).length then sRow else sE)
      by_cases c2 : ns.length ≠ (flds1 sh n).length
      · rw [if_pos c2, if_pos c2]; exact rfl
      · rw [if_neg c2, if_neg c2]; exact rfl
  | strike n c =>
    show WordOk (if n ∉ sh.map (·.1) then .error (some n) else match fillO sh [n] c with | .error e => .error (some e) | .ok c' => .ok (.strike n c')) (match goA (absent sh) [] [n] with | some e => e | none => dueR sh ix (.strike n c))
    rw [goA1]
    by_cases h : n ∉ sh.map (·.1)
    · rw [if_pos h, if_pos h]; exact ⟨rfl, st.1.2.2.1⟩
    · rw [if_neg h, if_neg h]
      show WordOk _ (pickS [firstO sh [n] c])
      rw [pick1]
      have q := first_fillO (one_ts (Classical.not_not.mp h)) fun t e => (st.2 t e).1
      cases e : fillO sh [n] c with
      | error x => rw [e] at q; exact q
      | ok x => rw [e] at q; exact q
  | set n ss c =>
    show WordOk (if n ∉ sh.map (·.1) then .error (some n) else match setF sh n [] ss with | .error e => .error (some e) | .ok ss' => match fillO sh [n] c with | .error e => .error (some e) | .ok c' => .ok (.set n ss' c')) (match goA (absent sh) [] [n] with | some e => e | none => dueR sh ix (.set n ss c))
    rw [goA1]
    by_cases h : n ∉ sh.map (·.1)
    · rw [if_pos h, if_pos h]; exact ⟨rfl, st.1.2.2.1⟩
    · have T := one_ts (Classical.not_not.mp h)
      rw [if_neg h, if_neg h]
      show WordOk _ (pickS (setWords sh n [] ss ++ [firstO sh [n] c]))
      rw [pick_app, pick1]
      have q1 := first_set (seen := []) T (nd n) (ss := ss) fun q m => ⟨(st.2.2.1 q m).1.2.2.1, (st.2.2.1 q m).2.1⟩
      have q2 := first_fillO T fun t e => (st.2.2.2 t e).1
      cases e1 : setF sh n [] ss with
      | error x => rw [e1] at q1; obtain ⟨a1, a2⟩ := q1; rw [a1, if_neg a2]; exact ⟨rfl, a2⟩
      | ok x =>
        rw [e1] at q1
        have q1 : pickS (setWords sh n [] ss) = sE := q1
        rw [if_pos q1]
        cases e2 : fillO sh [n] c with
        | error y => rw [e2] at q2; exact q2
        | ok y => rw [e2] at q2; exact q2
  | ask how ts tabs c ob fi =>
    obtain ⟨hh, t3, o3, ht, ho, hc, b0, b3, hb⟩ := st
    show WordOk (match goA (absent sh) [] tabs with | some e => .error (some e) | none => match fillL sh tabs ts with | .error e => .error (some e) | .ok ts' => match fillO sh tabs c with | .error e => .error (some e) | .ok c' => match fillL sh tabs ob with | .error e => .error (some e) | .ok ob' => .ok (.ask how ts' tabs c' ob' fi)) (match goA (absent sh) [] tabs with | some e => e | none => dueR sh ix (.ask how ts tabs c ob fi))
    cases e : goA (absent sh) [] tabs with
    | some x => exact ⟨rfl, (hb x (goA_mem e)).2.2.1⟩
    | none =>
      have T : TsOk' sh tabs := ⟨goA_there e, (goA_nd e).1⟩
      show WordOk _ (pickS (ts.map (firstT sh tabs) ++ [firstO sh tabs c] ++ ob.map (firstT sh tabs)))
      rw [List.append_assoc, pick_app, pick_app, pick1]
      have q1 := first_fillL T fun t m => (ht t m).1
      have q2 := first_fillO T fun t e => (hc t e).1
      have q3 := first_fillL T fun t m => (ho t m).1
      cases e1 : fillL sh tabs ts with
      | error x => rw [e1] at q1; obtain ⟨a1, a2⟩ := q1; rw [a1, if_neg a2]; exact ⟨rfl, a2⟩
      | ok x =>
        rw [e1] at q1
        have q1 : pickS (ts.map (firstT sh tabs)) = sE := q1
        rw [if_pos q1]
        cases e2 : fillO sh tabs c with
        | error y => rw [e2] at q2; obtain ⟨a1, a2⟩ := q2; rw [a1, if_neg a2]; exact ⟨rfl, a2⟩
        | ok y =>
          rw [e2] at q2
          have q2 : firstO sh tabs c = sE := q2
          rw [if_pos q2]
          cases e3 : fillL sh tabs ob with
          | error z => rw [e3] at q3; exact q3
          | ok z => rw [e3] at q3; exact q3
end GS

set_option linter.all false
set_option maxRecDepth 100000
namespace L2
open PySem PySem.Spec
section
variable {X : Cx}
/-- a text times 0 or 1 -/
def rMulS : R2 := fun x y H Q => ∃ (a : Str) (k : Bool), x = .str a ∧ y = .int (if k then 1 else 0) ∧ Q (.str (if k then a else Str.empty)) H
theorem op_mulS : OpR X (binaryOp .Mult) rMulS := by
  intro pins s σ H x y v u Q I rx ry h
  obtain ⟨a, k, rfl, rfl, q⟩ := h
  obtain ⟨t, rfl⟩ := rx
  obtain ⟨t', rfl⟩ := ry
  cases k with
  | false => exact PySem.P.mul_str_none (by decide) (by decide) ⟨.str Str.empty, H, I.tok _, ⟨_, rfl⟩, q⟩
  | true =>
    refine PySem.P.mul_str (by decide) (fun _ z => by simp at z) (fun _ z => by simp at z) ?_
    simp only [if_true]
    rw [if_neg (show ¬ ((1 : Int) < 1) by decide), if_pos (show (((1 : Int) == 1) || a.length == 0) = true from rfl)]
    exact ⟨.str a, H, I, ⟨_, rfl⟩, q⟩
end
end L2

set_option linter.all false
set_option maxHeartbeats 4000000
namespace GS
open PySem L2 HX
open K06 hiding gn sa1 sif cb1 and2 or2 pw_mono Txt Cal
def spDue (K : PySem.W.Frag) : Sp := fun vs H Q _ => ∃ (p d q : Addr) (sh : Shp) (ix : List (Str × Str)) (S : Stm), vs = [.ref p, .ref d, .ref q] ∧ SmAt K H p S ∧ StP TmB S ∧ notWord S ∧ ShapesAt K H d sh ∧ IxAt K H q ix ∧
  ∀ H', Same H H' → Q (.str (dueS sh ix S)) H'
def sec : Stm → Str
  | .table n _ => n
  | .index n _ => n
  | .put n _ => n
  | .set n _ _ => n
  | .strike n _ => n
  | .ask how _ _ _ _ _ => how
  | .word w => w
theorem SmAt.head2 {K : PySem.W.Frag} {H : Hp} {p : Addr} {S : Stm} (h : SmAt K H p S) (nw : notWord S) : ∃ xs, SqT K H p xs ∧ atI xs 0 = some (.str (kindS S)) ∧ atI xs 1 = some (.str (sec S)) := by
  cases S with
  | table n fs => obtain ⟨q, a, _⟩ := h; exact ⟨_, a, rfl, atI_nat (j := 1) rfl⟩
  | index n f => exact ⟨_, h, rfl, atI_nat (j := 1) rfl⟩
  | put n ns => obtain ⟨q, a, _⟩ := h; exact ⟨_, a, rfl, atI_nat (j := 1) rfl⟩
  | set n ss c => obtain ⟨q, v, a, _⟩ := h; exact ⟨_, a, rfl, atI_nat (j := 1) rfl⟩
  | strike n c => obtain ⟨v, a, _⟩ := h; exact ⟨_, a, rfl, atI_nat (j := 1) rfl⟩
  | ask how ts tabs c ob first => obtain ⟨q, r, v, b, a, _⟩ := h; exact ⟨_, a, rfl, atI_nat (j := 1) rfl⟩
  | word x => exact absurd rfl (nw x)
theorem te_fin {K : PySem.W.Frag} {Q : VK} {nx : L2.St → Hp → Prop} {x0 x1 x2 x3 x4 x5 x6 x7 x8 x10 x11 x12 x13 x14 x15 : Option V} {D : Addr} {ws : List Str} {H : Hp} (hd : H D = some (.lst (ws.map V.str))) (lw : ws.length ≤ 1000) (k : ∀ H', Same H H' → Q (.str (pickS ws)) H') :
    tRet (tOp (rIxL K) (tOp rCat (tLc (iList K (tVar 9)) (gName 14) (tTest (tOp rNe (tVar 14) (tC (V.str (Str.ofString ""))))) (tVar 14) (List.map (fun x => x.snd) [(Str.ofString "_law_one", 14)])) (tLst (tCons (tC (V.str (Str.ofString ""))) tNil))) (tC (V.int 0))) { nx := nx, rt := Q } [x0, x1, x2, x3, x4, x5, x6, x7, x8, some (.ref D), x10, x11, x12, x13, x14, x15] H := by
  refine ⟨_, rfl, D, rfl, ⟨_, SqL.of hd⟩, fun D2 hD2 => ?_⟩
  refine lc_list (K := K) (a := D) (xs := ws.map V.str) (fun i H' => Same H H' ∧ H' D2 = some (.lst (((ws.take i).filter fun w => !decide (w = sE)).map V.str)))
    ⟨same_new hD2, upd_same⟩ (fun i H' _ ⟨s3, _⟩ => SqL.of (s3 _ _ hd)) ?_ ?_
  · rintro i y H' hi ⟨s3, hd3⟩
    obtain ⟨x, ex, rfl⟩ := mapAt hi
    have tk : ws.take (i + 1) = ws.take i ++ [x] := by rw [List.take_add_one, ex]; rfl
    refine ⟨rfl, _, rfl, rfl, _, rfl, ?_⟩
    rw [vS]
    by_cases cx : x = sE
    · rw [decide_eq_true cx]
      refine ⟨s3, ?_⟩
      rw [tk, List.filter_append, List.filter_cons_of_neg (by simp [cx]), List.filter_nil, List.append_nil]
      exact hd3
    · rw [decide_eq_false cx]
      refine ⟨_, rfl, _, hd3, Nat.lt_of_le_of_lt (show ((((ws.take i).filter fun w => !decide (w = sE))).map V.str).length ≤ 1000 by rw [List.length_map]; exact Nat.le_trans (List.length_filter_le _ _) (Nat.le_trans (List.length_take_le' ..) lw)) (by decide), fun b o e => ?_, ?_⟩
      · rw [upd_ne (ne_of_none e hD2)]; exact s3 _ _ e
      · rw [upd_same, tk, List.filter_append, List.filter_cons_of_pos (by simp [cx]), List.map_append]; rfl
  · rintro H3 ⟨s3, hd3⟩
    rw [List.length_map, List.take_length] at hd3
    have l3 : ((ws.filter fun w => !decide (w = sE)).map V.str).length ≤ 1000 := by rw [List.length_map]; exact Nat.le_trans (List.length_filter_le _ _) lw
    refine ⟨by show 1 ≤ sizeLine; decide, fun p1 hp1 => ⟨D2, p1, _, _, rfl, rfl, (same_new hp1) _ _ hd3, upd_same, ?_, fun q1 hq1 => ?_⟩⟩
    · exact Nat.le_trans (show _ + 1 ≤ 1001 by omega) (by decide)
    · exact te_pick1 lw hd3 (fun H' s' => k _ (s3.trans s')) p1 hp1 q1 hq1
theorem te_words {K : PySem.W.Frag} {Q : VK} {x0 x2 x3 x4 x5 x6 x9 x10 x11 x12 x13 x14 x15 : Option V} {L d tt : Addr} {vs : List V} {cs : List (Option Tr)} {sh : Shp} {ts : List Str} {H : Hp} (hL : H L = some (.lst vs)) (pw : Paired (OcAt K H) vs cs) (lc : cs.length ≤ 1000) (wc : ∀ c ∈ cs, ∀ t, c = some t → TmB t) (S : ShapesAt K H d sh) (ht : SqT K H tt (ts.map V.str)) (tok : TabsOk sh ts)
    (k : ∀ D H', Same H H' → H D = none → H' D = some (.lst ((cs.map (firstO sh ts)).map V.str)) → Q (.ref D) H') :
    tLc (iList K (tVar 8)) (gName 10) tYes (tCall (spFst K 6) [] E0 (tCons (tVar 10) (tCons (tVar 1) (tCons (tVar 7) tNil)))) (List.map (fun x => x.snd) [(Str.ofString "_law_part", 10)]) [x0, some (.ref d), x2, x3, x4, x5, x6, some (.ref tt), some (.ref L), x9, x10, x11, x12, x13, x14, x15] H Q := by
  refine ⟨_, rfl, L, rfl, ⟨_, SqL.of hL⟩, fun D hD => ?_⟩
  refine lc_list (K := K) (a := L) (xs := vs) (fun i H' => Same H H' ∧ H' D = some (.lst (((cs.take i).map (firstO sh ts)).map V.str)))
    ⟨same_new hD, upd_same⟩ (fun i H' _ ⟨s3, _⟩ => SqL.of (s3 _ _ hL)) ?_ ?_
  · rintro i x H' hi ⟨s1, hd⟩
    obtain ⟨c, ec, hc⟩ := pw_nth pw hi
    have li : i < cs.length := (List.getElem?_eq_some_iff.mp ec).1
    have tk : cs.take (i + 1) = cs.take i ++ [c] := by rw [List.take_add_one, ec]; rfl
    refine ⟨rfl, _, rfl, _, rfl, _, rfl, x, c, d, tt, sh, ts, rfl, OcAt.mono (fun _ _ z => (KeepN.of s1).t z) hc, fun t e => ⟨(wc c (List.mem_of_getElem? ec) t e).1, by have := (wc c (List.mem_of_getElem? ec) t e).2; omega⟩, fun _ => by decide, S.keep (KeepN.of s1), (KeepN.of s1).t ht, tok, fun H3 s3 => ?_⟩
    have hd3 := s3 _ _ hd
    refine ⟨_, hd3, Nat.lt_of_le_of_lt (show (((cs.take i).map (firstO sh ts)).map V.str).length ≤ 1000 by rw [List.length_map, List.length_map, List.length_take]; omega) (by decide), fun b o e => ?_, ?_⟩
    · rw [upd_ne (ne_of_none e hD)]; exact s3 _ _ (s1 _ _ e)
    · rw [upd_same, tk, List.map_append, List.map_append]; rfl
  · rintro H2 ⟨s2, hd⟩
    rw [pw_len pw, List.take_length] at hd
    exact k D H2 s2 hD hd
theorem pw_some {K : PySem.W.Frag} {H : Hp} : ∀ {vs : List V} {us : List Tr}, Paired (TrAt K H) vs us → Paired (OcAt K H) vs (us.map some)
  | _, _, .nil => .nil
  | _, _, .cons a b => .cons a (pw_some b)
section
variable {P : Program} {w : World} {K : PySem.W.Frag} {mg : Str → Option Value} {base : Heap}
theorem scDu : FnScope ["_law_tree", "_law_shapes_here", "_law_indexes", "_law_word_here", "_law_table", "_law_twice", "_law_k", "_law_tables", "_law_parts", "_law_words", "_law_part", "_law_field", "_law_term_here", "_law_early", "_law_one", "_law_bad"] ["_law_tree", "_law_shapes_here", "_law_indexes"] (defScope s_l_due) := ⟨rfl, rfl, rfl, by decide +kernel, rfl, by decide +kernel, by decide +kernel⟩
theorem ok_due {j : Nat} {f fF : Addr} {fd fdF : FuncData} (F : Fun K "_law_due" "_law_due" s_l_due f fd) (T : GS.Txt mg) (gF : mg "_law_first" = some (.ref fF)) (kF : PySem.W.keepIn K (.ref fF) = true) (bF : Binds K fdF ["_law_tree", "_law_shapes_here", "_law_tables"] []) (GF : FnOk P w K mg base CX0 j fF fdF ["_law_tree", "_law_shapes_here", "_law_tables"] (spFst K 6)) :
    FnOk P w K mg base CX0 (j + 1) f fd ["_law_tree", "_law_shapes_here", "_law_indexes"] (spDue K) := by
  refine F.ok scDu (fun vs H Q E h => ?_) (fun cdv A outer s H vs Q E hr h => ?_)
  · obtain ⟨p, d, q, sh, ix, S, rfl, _⟩ := h
    rfl
  · obtain ⟨p, d, q, sh, ix, S, rfl, hS, st, nw, Sh, Ix, k⟩ := h
    have hr1 : Room j _ := hr
    refine ⟨_, (pss_cons (ps_par (i := 3) (j := 4) (by rfl) scDu.nd rfl rfl (by decide) rfl rfl (pa_cons (pe_ix (RK.ixT (K := K)) (pv 0) pe_int (fun _ _ => rfl)) (pa_cons (pe_ix (RK.ixT (K := K)) (pv 0) pe_int (fun _ _ => rfl)) pa_nil)) (by rfl))
      (pss_cons (ps_if (pt_cmpR op_eq (pv 3) pe_str (nomark _)) (pss_cons (ps_setLc (i := 5) (own := [("_law_k", 6)]) rfl scDu.nd rfl rfl (sw_true rfl rfl rfl (by decide +kernel)) (pi_range1 rfl T.range (pa_cons (pe_callB (RK.lenQ (K := K)) (by rfl) T.len PySem.boot_len (pa_cons (pe_ix (RK.ixT (K := K)) (pv 0) pe_int (fun _ _ => rfl)) pa_nil)) pa_nil)) (blkOk_by (N := ["_law_tree", "_law_shapes_here", "_law_indexes", "_law_word_here", "_law_table", "_law_twice", "_law_k", "_law_tables", "_law_parts", "_law_words", "_law_part", "_law_field", "_law_term_here", "_law_early", "_law_one", "_law_bad"]) (sc := defScope s_l_due) (by decide +kernel)) (fun _ _ _ _ _ => (pg_name (i := 6) scDu.nd rfl (Or.inl rfl))) (fun _ _ _ _ _ => (pts_one (pt_cmpR (RK.inQ (K := K)) (pe_ix (RK.ixT (K := K)) (pe_ix (RK.ixT (K := K)) (pv 0) pe_int (fun _ _ => rfl)) (pv 6) (fun _ _ => rfl)) (pe_slice (RK.slT (K := K)) (pe_ix (RK.ixT (K := K)) (pv 0) pe_int (fun _ _ => rfl)) po_none (po_some (pv 6))) (by rfl)))) (fun _ _ _ _ _ => (pe_ix (RK.ixT (K := K)) (pe_ix (RK.ixT (K := K)) (pv 0) pe_int (fun _ _ => rfl)) (pv 6) (fun _ _ => rfl))))
        (pss_one (ps_ret (pe_ifExp (pt_cmp (pc_din (hu_of hr) (pv 4) (pv 1))) (pv 4) (pe_ix (RK.ixL (K := K)) (pe_op op_cat (pv 5) (pe_lst (pa_cons pe_str pa_nil))) pe_int (fun _ _ => rfl)))))) pss_nil)
      (pss_cons (ps_set (i := 7) scDu.nd rfl (Or.inr rfl) (pe_ifExp (pt_cmpR op_eq (pv 3) pe_str (nomark _)) (pe_ix (RK.ixT (K := K)) (pv 0) pe_int (fun _ _ => rfl)) (pe_tup (pa_cons (pv 4) pa_nil))))
      (pss_cons (ps_for PassesOwn.never rfl (pi_range1 rfl T.range (pa_cons (pe_callB (RK.lenQ (K := K)) (by rfl) T.len PySem.boot_len (pa_cons (pv 7) pa_nil)) pa_nil)) (pg_name (i := 6) scDu.nd rfl (Or.inl rfl))
        (pss_one (ps_if (PW.pt (pw_or (pt_cmp (pc_dnotin (hu_of hr) (pe_ix (RK.ixT (K := K)) (pv 7) (pv 6) (fun _ _ => rfl)) (pv 1))) (pw_or1 (pt_cmpR (RK.inQ (K := K)) (pe_ix (RK.ixT (K := K)) (pv 7) (pv 6) (fun _ _ => rfl)) (pe_slice (RK.slT (K := K)) (pv 7) po_none (po_some (pv 6))) (by rfl))))) (pss_one (ps_ret (pe_ix (RK.ixT (K := K)) (pv 7) (pv 6) (fun _ _ => rfl)))) pss_nil)))
      (pss_cons (ps_if (pt_cmpR op_eq (pv 3) pe_str (nomark _)) (pss_one (ps_ret (pe_op op_mulS pe_str (pe_callTy call_int1 (by rfl) T.int (by decide +kernel) (pa_cons (pe_cmpR op_ne (pe_callB (RK.lenQ (K := K)) (by rfl) T.len PySem.boot_len (pa_cons (pe_ix (RK.ixT (K := K)) (pv 0) pe_int (fun _ _ => rfl)) pa_nil)) (pe_callB (RK.lenQ (K := K)) (by rfl) T.len PySem.boot_len (pa_cons (pe_dget (hu_of hr) (pv 1) (pv 4) (fun _ _ => rfl)) pa_nil)) (nomark _)) pa_nil))))) pss_nil)
      (pss_cons (ps_if (pt_cmpR op_eq (pv 3) pe_str (nomark _)) (pss_one (ps_ret (pe_op op_mulS (pe_ix (RK.ixT (K := K)) (pv 0) pe_int (fun _ _ => rfl)) (pe_callTy call_int1 (by rfl) T.int (by decide +kernel) (pa_cons (pe_or (pe_cmpR (RK.notInQ (K := K)) (pe_ix (RK.ixT (K := K)) (pv 0) pe_int (fun _ _ => rfl)) (pe_slice (RK.slT (K := K)) (pe_dget (hu_of hr) (pv 1) (pv 4) (fun _ _ => rfl)) (po_some pe_int) po_none) (by rfl)) (pe_one (pe_cmpR (SX.inDB (K := K) (u65 hr)) (pe_tup (pa_cons (pv 4) (pa_cons (pe_ix (RK.ixT (K := K)) (pv 0) pe_int (fun _ _ => rfl)) pa_nil))) (pv 2) (by rfl)))) pa_nil))))) pss_nil)
      (pss_cons (ps_set (i := 8) scDu.nd rfl (Or.inl rfl) (pe_ifExp (pt_cmpR op_eq (pv 3) pe_str (nomark _)) (pe_lst (pa_cons (pe_ix (RK.ixT (K := K)) (pv 0) pe_int (fun _ _ => rfl)) pa_nil)) (pe_lst pa_nil)))
      (pss_cons (ps_if (pt_cmpR op_eq (pv 3) pe_str (nomark _)) (pss_one (ps_set (i := 8) scDu.nd rfl (Or.inl rfl) (pe_op op_cat (pe_op op_cat (pe_callTy (RK.listQ (K := K)) (by rfl) T.list (by decide +kernel) (pa_cons (pe_ix (RK.ixT (K := K)) (pv 0) pe_int (fun _ _ => rfl)) pa_nil)) (pe_lst (pa_cons (pe_ix (RK.ixT (K := K)) (pv 0) pe_int (fun _ _ => rfl)) pa_nil))) (pe_callTy (RK.listQ (K := K)) (by rfl) T.list (by decide +kernel) (pa_cons (pe_ix (RK.ixT (K := K)) (pv 0) pe_int (fun _ _ => rfl)) pa_nil))))) pss_nil)
      (pss_cons (ps_setLc (i := 9) (own := [("_law_part", 10)]) rfl scDu.nd rfl rfl (sw_true rfl rfl rfl (by decide +kernel)) (RK.piL (K := K) (pv 8)) (blkOk_by (N := ["_law_tree", "_law_shapes_here", "_law_indexes", "_law_word_here", "_law_table", "_law_twice", "_law_k", "_law_tables", "_law_parts", "_law_words", "_law_part", "_law_field", "_law_term_here", "_law_early", "_law_one", "_law_bad"]) (sc := defScope s_l_due) (by decide +kernel)) (fun _ _ _ _ _ => (pg_name (i := 10) scDu.nd rfl (Or.inl rfl))) (fun _ _ _ _ _ => pts_nil) (fun _ _ _ _ _ => (pe_call GF hr1 (by rfl) gF kF bF .nil pass0 (pa_cons (pv 10) (pa_cons (pv 1) (pa_cons (pv 7) pa_nil))))))
      (pss_cons (ps_if (pt_cmpR op_eq (pv 3) pe_str (nomark _)) (pss_cons (ps_for PassesOwn.never rfl (pi_range1 rfl T.range (pa_cons (pe_callB (RK.lenQ (K := K)) (by rfl) T.len PySem.boot_len (pa_cons (pe_ix (RK.ixT (K := K)) (pv 0) pe_int (fun _ _ => rfl)) pa_nil)) pa_nil)) (pg_name (i := 6) scDu.nd rfl (Or.inl rfl))
          (pss_cons (ps_asg (pe_ix (RK.ixT (K := K)) (pe_ix (RK.ixT (K := K)) (pv 0) pe_int (fun _ _ => rfl)) (pv 6) (fun _ _ => rfl)) (RK.pgTup (K := K) (n := 2) rfl (pgs_cons (pg_name (i := 11) scDu.nd rfl (Or.inl rfl)) (pgs_cons (pg_name (i := 12) scDu.nd rfl (Or.inl rfl)) pgs_nil))))
          (pss_cons (ps_setLc (i := 13) (own := [("_law_one", 14)]) rfl scDu.nd rfl rfl (sw_true rfl rfl rfl (by decide +kernel)) (RK.piT (K := K) (pe_slice (RK.slT (K := K)) (pe_ix (RK.ixT (K := K)) (pv 0) pe_int (fun _ _ => rfl)) po_none (po_some (pv 6)))) (blkOk_by (N := ["_law_tree", "_law_shapes_here", "_law_indexes", "_law_word_here", "_law_table", "_law_twice", "_law_k", "_law_tables", "_law_parts", "_law_words", "_law_part", "_law_field", "_law_term_here", "_law_early", "_law_one", "_law_bad"]) (sc := defScope s_l_due) (by decide +kernel)) (fun _ _ _ _ _ => (pg_name (i := 14) scDu.nd rfl (Or.inl rfl))) (fun _ _ _ _ _ => pts_nil) (fun _ _ _ _ _ => (pe_ix (RK.ixT (K := K)) (pv 14) pe_int (fun _ _ => rfl))))
          (pss_cons (ps_set (i := 15) scDu.nd rfl (Or.inl rfl) (pe_or (pe_cmpR (RK.notInQ (K := K)) (pv 11) (pe_slice (RK.slT (K := K)) (pe_dget (hu_of hr) (pv 1) (pv 4) (fun _ _ => rfl)) (po_some pe_int) po_none) (by rfl)) (pe_one (pe_cmpR (RK.inQ (K := K)) (pv 11) (pv 13) (by rfl)))))
          (pss_one (ps_set (i := 9) scDu.nd rfl (Or.inl rfl) (pe_op op_cat (pv 9) (pe_lst (pa_cons (pe_op op_mulS (pv 11) (pe_callTy call_int1 (by rfl) T.int (by decide +kernel) (pa_cons (pv 15) pa_nil))) (pa_cons (pe_call GF hr1 (by rfl) gF kF bF .nil pass0 (pa_cons (pv 12) (pa_cons (pv 1) (pa_cons (pv 7) pa_nil)))) pa_nil))))))))))
        (pss_one (ps_expr (RK.bm (K := K) PySem.F.plainAttrs_list PySem.F.slot_list_append PySem.F.type_list_append mt_append (pv 9) (pa_cons (pe_call GF hr1 (by rfl) gF kF bF .nil pass0 (pa_cons (pe_ix (RK.ixT (K := K)) (pv 0) pe_int (fun _ _ => rfl)) (pa_cons (pv 1) (pa_cons (pv 7) pa_nil)))) pa_nil))))) pss_nil)
      (pss_one (ps_ret (pe_ix (RK.ixL (K := K)) (pe_op op_cat (pe_lc (own := [("_law_one", 14)]) rfl scDu.nd (RK.piL (K := K) (pv 9)) (blkOk_by (N := ["_law_tree", "_law_shapes_here", "_law_indexes", "_law_word_here", "_law_table", "_law_twice", "_law_k", "_law_tables", "_law_parts", "_law_words", "_law_part", "_law_field", "_law_term_here", "_law_early", "_law_one", "_law_bad"]) (sc := defScope s_l_due) (by decide +kernel)) (fun _ _ _ _ _ => (pg_name (i := 14) scDu.nd rfl (Or.inl rfl))) (fun _ _ _ _ _ => (pts_one (pt_cmpR op_ne (pv 14) pe_str (nomark _)))) (fun _ _ _ _ _ => (pv 14))) (pe_lst (pa_cons pe_str pa_nil))) pe_int (fun _ _ => rfl)))))))))))))), ?_⟩

    obtain ⟨xs, hp, e0, e1⟩ := SmAt.head2 hS nw
    refine ⟨_, rfl, p, _, 0, _, rfl, rfl, hp, e0, _, rfl, p, _, 1, _, rfl, rfl, hp, e1, _, _, rfl, ?_⟩
    refine at_stD (σ' := [some (.ref p), some (.ref d), some (.ref q), some (.str (kindS S)), some (.str (sec S)), none, none, none, none, none, none, none, none, none, none, none]) rfl ?_
    try dsimp only
    by_cases isT : ∃ n fs, S = .table n fs
    · obtain ⟨n, fs, rfl⟩ := isT
      refine sif ⟨_, rfl, rfl, _, rfl, ?_⟩
      rw [vS, show decide (kindS (.table n fs) = Str.ofString "table") = true from decide_eq_true rfl]
      refine iteT ?_
      obtain ⟨qf, hp3, hf⟩ := hS
      have l4 : fs.length ≤ 4 := st.2.2
      refine ⟨_, rfl, p, _, 2, .ref qf, rfl, rfl, hp3, atI_nat (j := 2) rfl, qf, _, rfl, .inr hf, _, rfl, by rw [List.length_map]; omega, by rw [List.length_map]; omega, fun D hD => ?_⟩
      refine lc_range (lo := 0) (n := (((fs.map V.str).length : Nat) : Int).toNat) (fun i H' => Same H H' ∧ ∃ ws : List Str, H' D = some (.lst (ws.map V.str)) ∧ ws.length ≤ i ∧ dups [] fs = ws ++ dups (fs.take i) (fs.drop i))
        ⟨same_new hD, [], upd_same, Nat.le_refl _, rfl⟩ ?_ ?_
      · rintro i H' hi ⟨s1, ws, hd, lw, ed⟩
        rw [Int.toNat_natCast, List.length_map] at hi
        rw [Int.zero_add]
        have ef : fs[i]? = some fs[i] := List.getElem?_eq_getElem hi
        have hp4 := (KeepN.of s1).t hp3
        have hf4 := (KeepN.of s1).t hf
        have atk : atI (fs.map V.str) ((i : Nat) : Int) = some (.str fs[i]) := atI_nat (by rw [List.getElem?_map, ef]; rfl)
        refine ⟨rfl, _, rfl, p, _, 2, .ref qf, rfl, rfl, hp4, atI_nat (j := 2) rfl, _, rfl, qf, _, _, .str fs[i], rfl, rfl, hf4, atk, _, rfl, p, _, 2, .ref qf, rfl, rfl, hp4, atI_nat (j := 2) rfl, ?_⟩
        dsimp only [tNoPart]
        refine ⟨_, rfl, i, rfl, sl_to hf4 fun q2 H3 s3 h3 => ⟨q2, _, rfl, .inr h3, rfl, by rw [← List.map_take]; exact flS _, _, rfl, ?_⟩⟩
        rw [if_neg Bool.false_ne_true, ← List.map_take, inS]
        have ed2 : dups (fs.take i) (fs.drop i) = (if fs[i] ∈ fs.take i then [fs[i]] else []) ++ dups (fs.take (i + 1)) (fs.drop (i + 1)) := by
          rw [List.drop_eq_getElem_cons hi, List.take_add_one, ef]
          show (if fs[i] ∈ fs.take i then fs[i] :: dups (fs.take i ++ [fs[i]]) (fs.drop (i + 1)) else dups (fs.take i ++ [fs[i]]) (fs.drop (i + 1))) = _
          by_cases c : fs[i] ∈ fs.take i
          · rw [if_pos c, if_pos c]; rfl
          · rw [if_neg c, if_neg c]; rfl
        by_cases c : fs[i] ∈ fs.take i
        · rw [decide_eq_true c]
          rw [if_pos c] at ed2
          refine ⟨_, rfl, p, _, 2, .ref qf, rfl, rfl, (KeepN.of s3).t hp4, atI_nat (j := 2) rfl, _, rfl, qf, _, _, .str fs[i], rfl, rfl, (KeepN.of s3).t hf4, atk, _, s3 _ _ hd, Nat.lt_of_le_of_lt (show (ws.map V.str).length ≤ 4 by rw [List.length_map]; omega) (by decide), fun b o e => by rw [upd_ne (ne_of_none e hD)]; exact s3 _ _ (s1 _ _ e), ws ++ [fs[i]], by rw [upd_same, List.map_append]; rfl, by rw [List.length_append]; show ws.length + 1 ≤ i + 1; omega, by rw [ed, ed2, List.append_assoc]⟩
        · rw [decide_eq_false c]
          rw [if_neg c] at ed2
          exact ⟨s1.trans s3, ws, s3 _ _ hd, by omega, by rw [ed, ed2]; rfl⟩
      · rintro H' ⟨s1, ws, hd, lw, ed⟩
        rw [Int.toNat_natCast, List.length_map, List.take_length, List.drop_length] at ed
        rw [Int.toNat_natCast, List.length_map] at lw
        have ed : dups [] fs = ws := by rw [ed]; show ws ++ [] = ws; rw [List.append_nil]
        refine gn ?_
        try dsimp only
        obtain ⟨o, g, eo⟩ := sh_in (Sh.keep (KeepN.of s1)) n
        have kk : ∀ H2, Same H H2 → Q (.str (if n ∈ sh.map (·.1) then n else ((dups [] fs).head?).getD sE)) H2 := k
        refine ⟨_, rfl, _, rfl, d, o, rfl, g, _, rfl, ?_⟩
        rw [eo]
        by_cases c : n ∈ sh.map (·.1)
        · rw [decide_eq_true c]
          rw [if_pos c] at kk
          exact iteT ⟨_, rfl, kk _ s1⟩
        · rw [decide_eq_false c]
          rw [if_neg c, ed] at kk
          refine iteF ⟨_, rfl, by show 1 ≤ sizeLine; decide, fun p1 hp1 => ⟨D, p1, _, _, rfl, rfl, (same_new hp1) _ _ hd, upd_same, Nat.le_trans (show (ws.map V.str).length + 1 ≤ 10 by rw [List.length_map]; omega) (by decide), fun q1 hq1 => ⟨q1, _, 0, .str (ws.head?.getD sE), rfl, rfl, SqL.of upd_same, atI_nat (j := 0) ?_, kk _ (s1.trans ((same_new hp1).trans (same_new hq1)))⟩⟩⟩
          cases ws <;> rfl
    have nt : decide (kindS S = Str.ofString "table") = false := by
      cases S with
      | table n fs => exact absurd ⟨n, fs, rfl⟩ isT
      | index _ _ => show decide (Str.ofString "index" = _) = _; decide +kernel
      | put _ _ => show decide (Str.ofString "put" = _) = _; decide +kernel
      | set _ _ _ => show decide (Str.ofString "set" = _) = _; decide +kernel
      | strike _ _ => show decide (Str.ofString "strike" = _) = _; decide +kernel
      | ask _ _ _ _ _ _ => show decide (Str.ofString "ask" = _) = _; decide +kernel
      | word x => exact absurd rfl (nw x)
    refine sif ⟨_, rfl, rfl, _, rfl, ?_⟩
    rw [vS, nt]
    refine iteF ?_
    dsimp only [tNext]
    have hdue : dueS sh ix S = match goA (absent sh) [] (tabsOf S) with | some e => e | none => dueR sh ix S := by
      cases S with
      | table n fs => exact absurd ⟨n, fs, rfl⟩ isT
      | index _ _ => rfl
      | put _ _ => rfl
      | set _ _ _ => rfl
      | strike _ _ => rfl
      | ask _ _ _ _ _ _ => rfl
      | word x => exact absurd rfl (nw x)
    rw [hdue] at k
    have few : (tabsOf S).length ≤ 3 := by
      cases S with
      | ask how ts tabs c ob fi => exact st.2.2.2.2.2.2.2.1
      | table n fs => exact absurd ⟨n, fs, rfl⟩ isT
      | word x => exact absurd rfl (nw x)
      | _ => show 1 ≤ 3; decide
    have tabs1 : ∀ {Q' : VK}, (∀ tt H', Same H H' → SqT K H' tt ((tabsOf S).map V.str) → Q' (.ref tt) H') → (tIf (tTest (tOp rEq (tVar 3) (tC (V.str (Str.ofString "ask"))))) (tOp (rIxT K) (tVar 0) (tC (V.int 3))) (tTup (tCons (tVar 4) tNil))) [some (.ref p), some (.ref d), some (.ref q), some (.str (kindS S)), some (.str (sec S)), none, none, none, none, none, none, none, none, none, none, none] H Q' := fun {Q'} kq => by
      refine ⟨_, rfl, rfl, _, rfl, ?_⟩
      rw [vS]
      have one : ∀ n, sec S = n → tabsOf S = [n] → decide (kindS S = Str.ofString "ask") = false → (if decide (kindS S = Str.ofString "ask") = true then (tOp (rIxT K) (tVar 0) (tC (V.int 3))) [some (.ref p), some (.ref d), some (.ref q), some (.str (kindS S)), some (.str (sec S)), none, none, none, none, none, none, none, none, none, none, none] H Q' else (tTup (tCons (tVar 4) tNil)) [some (.ref p), some (.ref d), some (.ref q), some (.str (kindS S)), some (.str (sec S)), none, none, none, none, none, none, none, none, none, none, none] H Q') := fun n e1 e2 e3 => by
        rw [e3]
        refine iteF ⟨_, rfl, by show 1 ≤ sizeLine; decide, fun t ht => kq t _ (same_new ht) ?_⟩
        rw [e2, e1]; exact SqT.of upd_same
      cases S with
      | table n fs => exact absurd ⟨n, fs, rfl⟩ isT
      | word x => exact absurd rfl (nw x)
      | index n _ => exact one n rfl rfl (by show decide (Str.ofString "index" = _) = _; decide +kernel)
      | put n _ => exact one n rfl rfl (by show decide (Str.ofString "put" = _) = _; decide +kernel)
      | set n _ _ => exact one n rfl rfl (by show decide (Str.ofString "set" = _) = _; decide +kernel)
      | strike n _ => exact one n rfl rfl (by show decide (Str.ofString "strike" = _) = _; decide +kernel)
      | ask how ts tabs c ob fi =>
        rw [show decide (kindS (.ask how ts tabs c ob fi) = Str.ofString "ask") = true from decide_eq_true rfl]
        obtain ⟨a1, a2, a3, a4, hp7, _, h7, _⟩ := hS
        exact iteT ⟨_, rfl, p, _, 3, _, rfl, rfl, hp7, atI_nat (j := 3) rfl, kq _ _ (Same.refl _) h7⟩
    refine sa1 (tabs1 fun tt H1 s1 ht => gn ?_)
    refine at_stD (σ' := [some (.ref p), some (.ref d), some (.ref q), some (.str (kindS S)), some (.str (sec S)), none, none, some (.ref tt), none, none, none, none, none, none, none, none]) rfl ?_
    generalize hts : tabsOf S = ts at ht few k
    refine ⟨_, rfl, tt, _, rfl, .inr ht, _, rfl, by rw [List.length_map]; omega, by rw [List.length_map]; omega, for_range (lo := 0) (n := (((ts.map V.str).length : Nat) : Int).toNat) (fun i σ H' => ∃ v6, σ = [some (.ref p), some (.ref d), some (.ref q), some (.str (kindS S)), some (.str (sec S)), none, v6, some (.ref tt), none, none, none, none, none, none, none, none] ∧ Same H1 H' ∧ goA (absent sh) (ts.take i) (ts.drop i) = goA (absent sh) [] ts)
      ⟨none, rfl, Same.refl _, rfl⟩ ?_ ?_⟩
    · rintro i σ H' hi ⟨v6, rfl, s2, eg⟩
      rw [Int.toNat_natCast, List.length_map] at hi
      rw [Int.zero_add]
      have ef : ts[i]? = some ts[i] := List.getElem?_eq_getElem hi
      have ht2 := (KeepN.of s2).t ht
      have atk : atI (ts.map V.str) ((i : Nat) : Int) = some (.str ts[i]) := atI_nat (by rw [List.getElem?_map, ef]; rfl)
      have s12 := s1.trans s2
      obtain ⟨o, g, eo⟩ := sh_in (Sh.keep (KeepN.of s12)) ts[i]
      refine gn ?_
      refine ⟨_, rfl, _, rfl, tt, _, _, .str ts[i], rfl, rfl, ht2, atk, _, rfl, d, o, rfl, g, _, rfl, ?_⟩
      rw [eo]
      have ret : ∀ H3, Same H' H3 → (absent sh ts[i] = true ∨ ts[i] ∈ ts.take i) → Q (.str ts[i]) H3 := fun H3 s3 c => by
        have hit := goA_hit (p := absent sh) ef c
        rw [eg] at hit
        have := k H3 (s12.trans s3)
        rw [hit] at this
        exact this
      by_cases c : ts[i] ∈ sh.map (·.1)
      · rw [decide_eq_true c]
        refine iteF ⟨_, rfl, _, rfl, tt, _, _, .str ts[i], rfl, rfl, ht2, atk, _, rfl, ?_⟩
        dsimp only [tNoPart]
        refine ⟨_, rfl, i, rfl, sl_to ht2 fun q2 H3 s3 h3 => ⟨q2, _, rfl, .inr h3, rfl, by rw [← List.map_take]; exact flS _, _, rfl, ?_⟩⟩
        rw [if_neg Bool.false_ne_true, ← List.map_take, inS]
        by_cases c2 : ts[i] ∈ ts.take i
        · rw [decide_eq_true c2]
          exact iteT ⟨_, rfl, _, rfl, tt, _, _, .str ts[i], rfl, rfl, (KeepN.of s3).t ht2, atk, ret _ s3 (.inr c2)⟩
        · rw [decide_eq_false c2]
          have nab : ¬ absent sh ts[i] = true := fun z => by unfold absent at z; rw [decide_eq_true c] at z; cases z
          exact iteF ⟨_, rfl, s2.trans s3, by rw [goA_step ef (fun z => z.elim nab c2)]; exact eg⟩
      · rw [decide_eq_false c]
        exact iteT (iteT ⟨_, rfl, _, rfl, tt, _, _, .str ts[i], rfl, rfl, ht2, atk, ret _ (Same.refl _) (.inl (by unfold absent; rw [decide_eq_false c]; rfl))⟩)
    · rintro σ H' ⟨v6, rfl, s2, eg⟩
      rw [Int.toNat_natCast, List.length_map, List.take_length, List.drop_length] at eg
      have eg : goA (absent sh) [] ts = none := eg.symm
      rw [eg] at k
      have k : ∀ H2, Same H H2 → Q (.str (dueR sh ix S)) H2 := k
      have th := goA_there eg
      have sH := s1.trans s2
      have htH := (KeepN.of s2).t ht
      have ShH := Sh.keep (KeepN.of sH)
      clear tabs1
      try dsimp only
      cases S with
      | table n fs => exact absurd ⟨n, fs, rfl⟩ isT
      | word x => exact absurd rfl (nw x)
      | put n ns =>
        obtain ⟨qn, hp3, hq3⟩ := hS
        have mn : n ∈ sh.map (·.1) := th n (by rw [← hts]; exact List.mem_singleton.mpr rfl)
        obtain ⟨u, g, hu⟩ := sh_get ShH mn
        refine sif ⟨_, rfl, rfl, _, rfl, ?_⟩
        rw [vS, show decide (kindS (.put n ns) = Str.ofString "put") = true from decide_eq_true rfl]
        refine iteT ⟨_, rfl, p, _, 2, .ref qn, rfl, rfl, (KeepN.of sH).t hp3, atI_nat (j := 2) rfl, qn, _, rfl, .inr ((KeepN.of sH).t hq3), _, rfl, _, rfl, d, .ref u, rfl, g, u, _, rfl, .inr hu, rfl, .inr ⟨_, rfl, _, _, rfl, rfl, ?_⟩⟩
        rw [show (!decide (V.int ((ns.map V.int).length : Nat) = V.int (((flds1 sh n).map V.str).length : Nat))) = decide (ns.length ≠ (flds1 sh n).length) by
          rw [List.length_map, List.length_map, vI, ← decide_not]
          exact decide_eq_decide.mpr ⟨fun z y => z (by rw [y]), fun z y => z (by omega)⟩]
        have kk : Q (.str (if ns.length ≠ (flds1 sh n).length then sRow else sE)) H' := k H' sH
        by_cases c : ns.length ≠ (flds1 sh n).length
        · rw [decide_eq_true c]; rw [if_pos c] at kk; exact kk
        · rw [decide_eq_false c]; rw [if_neg c] at kk; exact kk
      | index n f =>
        have hp3 : SqT K H p [.str (Str.ofString "index"), .str n, .str f] := hS
        have mn : n ∈ sh.map (·.1) := th n (by rw [← hts]; exact List.mem_singleton.mpr rfl)
        obtain ⟨u, g, hu⟩ := sh_get ShH mn
        have hpH := (KeepN.of sH).t hp3
        refine sif ⟨_, rfl, rfl, _, rfl, ?_⟩
        rw [vS, show decide (kindS (.index n f) = Str.ofString "put") = false by show decide (Str.ofString "index" = _) = _; decide +kernel]
        refine iteF ?_
        dsimp only [tNext]
        refine sif ⟨_, rfl, rfl, _, rfl, ?_⟩
        rw [vS, show decide (kindS (.index n f) = Str.ofString "index") = true from decide_eq_true rfl]
        refine iteT ⟨_, rfl, p, _, 2, .str f, rfl, rfl, hpH, atI_nat (j := 2) rfl, _, rfl, p, _, 2, .str f, rfl, rfl, hpH, atI_nat (j := 2) rfl, _, rfl, _, rfl, d, .ref u, rfl, g, 1, rfl, ?_⟩
        dsimp only [tNoPart]
        refine sl_from (i := 1) hu fun q2 H3 s3 h3 => ⟨q2, _, rfl, .inr h3, rfl, by rw [← List.map_drop]; exact flS _, ?_⟩
        rw [if_pos rfl, ← List.map_drop, inS, List.drop_one]
        have kk : ∀ H2, Same H H2 → Q (.str (if (!decide (f ∈ (flds1 sh n).tail) || decide ((n, f) ∈ ix)) = true then f else sE)) H2 := k
        have sH3 := sH.trans s3
        refine ⟨_, rfl, ?_⟩
        by_cases c : f ∈ (flds1 sh n).tail
        · rw [decide_eq_true c]
          obtain ⟨ivs, hq, pw, fo⟩ := Ix
          refine iteF ⟨_, rfl, _, rfl, p, _, 2, .str f, rfl, rfl, (KeepN.of s3).t hpH, atI_nat (j := 2) rfl, by show 2 ≤ sizeLine; decide, fun t ht => ⟨_, rfl, .tuple [.str n, .str f], ix.map flD, ?_⟩⟩
          have s4 := same_new (o := .tup [.str n, .str f]) ht
          have sH4 := sH3.trans s4
          have pw1 := fl_mono (fun _ _ z => (KeepN.of sH4).t z) pw
          have sh1 : SeqAt.shaped (.tuple [.str n, .str f]) = true := by
            show (PyData.canLay0 (.tuple [.str n, .str f]) && decide (PyData.depth (.tuple [.str n, .str f]) ≤ 64)) = true
            simp [PyData.canLay0, PyData.canLayAll0, PyData.depth, PyData.depthAll, st.1.2.1, st.2.2.1]
          refine ⟨.tup (SqT.of upd_same) (.cons (.str _) (.cons (.str _) .nil)), .inr (.tup ((KeepN.of sH4).t hq) (fl_dp pw1)), sh1, fl_shaped fo, .inr ⟨_, rfl, f, _, rfl, rfl, ?_⟩⟩
          have kk := kk _ sH4
          rw [decide_eq_true c] at kk
          rw [any_fl]
          by_cases c2 : (n, f) ∈ ix
          · rw [decide_eq_true c2] at kk ⊢; exact kk
          · rw [decide_eq_false c2] at kk ⊢; exact kk
        · rw [decide_eq_false c]
          have kk := kk _ sH3
          rw [decide_eq_false c] at kk
          exact iteT (.inr ⟨true, rfl, f, true, rfl, rfl, kk⟩)
      | strike n c =>
        obtain ⟨v, hp3, hc⟩ := hS
        have hpH := (KeepN.of sH).t hp3
        refine sif ⟨_, rfl, rfl, _, rfl, ?_⟩
        rw [vS, show decide (kindS (.strike n c) = Str.ofString "put") = false by show decide (Str.ofString "strike" = _) = _; decide +kernel]
        refine iteF ?_
        dsimp only [tNext]
        refine sif ⟨_, rfl, rfl, _, rfl, ?_⟩
        rw [vS, show decide (kindS (.strike n c) = Str.ofString "index") = false by show decide (Str.ofString "strike" = _) = _; decide +kernel]
        refine iteF ?_
        dsimp only [tNext]
        refine sa1 ⟨_, rfl, rfl, _, rfl, ?_⟩
        rw [vS, show decide (kindS (.strike n c) = Str.ofString "strike") = true from decide_eq_true rfl]
        refine iteT ⟨_, rfl, p, _, 2, v, rfl, rfl, hpH, atI_nat (j := 2) rfl, by show 1 ≤ sizeLine; decide, fun L hL => gn ?_⟩
        have s3 := same_new (o := .lst [v]) hL
        have sH3 := sH.trans s3
        try dsimp only
        refine sif ⟨_, rfl, rfl, _, rfl, ?_⟩
        rw [vS, show decide (kindS (.strike n c) = Str.ofString "ask") = false by show decide (Str.ofString "strike" = _) = _; decide +kernel]
        refine iteF ?_
        dsimp only [tNext]
        refine at_stD (σ' := [some (.ref p), some (.ref d), some (.ref q), some (.str (kindS (.strike n c))), some (.str (sec (.strike n c))), none, v6, some (.ref tt), some (.ref L), none, none, none, none, none, none, none]) rfl ?_
        refine sa1 (te_words (vs := [v]) (cs := [c]) (sh := sh) (ts := ts) upd_same (.cons (OcAt.mono (fun _ _ z => (KeepN.of sH3).t z) hc) .nil) (by show 1 ≤ 1000; decide) (fun c' m t e => by rw [List.mem_singleton.mp m] at e; exact st.2 t e) (Sh.keep (KeepN.of sH3)) ((KeepN.of s3).t htH) ⟨th, by omega⟩ fun D H4 s4 _ hD => gn ?_)
        try dsimp only
        refine sif ⟨_, rfl, rfl, _, rfl, ?_⟩
        rw [vS, show decide (kindS (.strike n c) = Str.ofString "set") = false by show decide (Str.ofString "strike" = _) = _; decide +kernel]
        refine iteF ?_
        dsimp only [tNext]
        have ets : ts = [n] := hts.symm
        refine at_stD (σ' := [some (.ref p), some (.ref d), some (.ref q), some (.str (kindS (.strike n c))), some (.str (sec (.strike n c))), none, v6, some (.ref tt), some (.ref L), some (.ref D), none, none, none, none, none, none]) rfl ?_
        refine te_fin hD (by show 1 ≤ 1000; decide) fun H5 s5 => ?_
        have kk : Q (.str (pickS [firstO sh [n] c])) H5 := k H5 (sH3.trans (s4.trans s5))
        rw [ets]
        exact kk
      | set n ss c =>
        obtain ⟨q2, v, hp4, ⟨vs, hq2, pw⟩, hc⟩ := hS
        obtain ⟨hn, s4l, hss, hcc⟩ := st
        have mn : n ∈ sh.map (·.1) := th n (by rw [← hts]; exact List.mem_singleton.mpr rfl)
        have ets : ts = [n] := hts.symm
        refine sif ⟨_, rfl, rfl, _, rfl, ?_⟩
        rw [vS, show decide (kindS (.set n ss c) = Str.ofString "put") = false by show decide (Str.ofString "set" = _) = _; decide +kernel]
        refine iteF ?_
        dsimp only [tNext]
        refine sif ⟨_, rfl, rfl, _, rfl, ?_⟩
        rw [vS, show decide (kindS (.set n ss c) = Str.ofString "index") = false by show decide (Str.ofString "set" = _) = _; decide +kernel]
        refine iteF ?_
        dsimp only [tNext]
        refine sa1 ⟨_, rfl, rfl, _, rfl, ?_⟩
        rw [vS, show decide (kindS (.set n ss c) = Str.ofString "strike") = false by show decide (Str.ofString "set" = _) = _; decide +kernel]
        refine iteF ⟨by show 0 ≤ sizeLine; decide, fun L hL => gn ?_⟩
        have s3 := same_new (o := .lst []) hL
        have sH3 := sH.trans s3
        try dsimp only
        refine sif ⟨_, rfl, rfl, _, rfl, ?_⟩
        rw [vS, show decide (kindS (.set n ss c) = Str.ofString "ask") = false by show decide (Str.ofString "set" = _) = _; decide +kernel]
        refine iteF ?_
        dsimp only [tNext]
        refine at_stD (σ' := [some (.ref p), some (.ref d), some (.ref q), some (.str (kindS (.set n ss c))), some (.str (sec (.set n ss c))), none, v6, some (.ref tt), some (.ref L), none, none, none, none, none, none, none]) rfl ?_
        refine sa1 (te_words (vs := []) (cs := []) (sh := sh) (ts := ts) upd_same .nil (by show 0 ≤ 1000; decide) (fun c' m => nomatch m) (Sh.keep (KeepN.of sH3)) ((KeepN.of s3).t htH) ⟨th, by omega⟩ fun D H4 s4 hD0 hD => gn ?_)
        have sH4 := sH3.trans s4
        try dsimp only
        refine sif ⟨_, rfl, rfl, _, rfl, ?_⟩
        rw [vS, show decide (kindS (.set n ss c) = Str.ofString "set") = true from decide_eq_true rfl]
        refine iteT ?_
        refine at_stD (σ' := [some (.ref p), some (.ref d), some (.ref q), some (.str (kindS (.set n ss c))), some (.str (sec (.set n ss c))), none, v6, some (.ref tt), some (.ref L), some (.ref D), none, none, none, none, none, none]) rfl ?_
        have hpH := (KeepN.of sH4).t hp4
        have hqH := (KeepN.of sH4).t hq2
        have lvs : vs.length = ss.length := pw_len pw
        have hDn : H D = none := none_of_same sH3 hD0
        refine ⟨_, rfl, p, _, 2, .ref q2, rfl, rfl, hpH, atI_nat (j := 2) rfl, q2, vs, rfl, .inr hqH, _, rfl, by omega, by omega, for_range (lo := 0) (n := ((vs.length : Nat) : Int).toNat) (fun i σ H' => ∃ v6' D' v10 v11 v12 v13 v14 v15, ∃ ws : List Str, σ = [some (.ref p), some (.ref d), some (.ref q), some (.str (kindS (.set n ss c))), some (.str (sec (.set n ss c))), none, v6', some (.ref tt), some (.ref L), some (.ref D'), v10, v11, v12, v13, v14, v15] ∧ Same H H' ∧ Same H4 H' ∧ H D' = none ∧ H' D' = some (.lst (ws.map V.str)) ∧ ws.length ≤ 2 * i ∧ setWords sh n [] ss = ws ++ setWords sh n ((ss.take i).map (·.1)) (ss.drop i))
          ⟨v6, D, none, none, none, none, none, none, [], rfl, sH4, Same.refl _, hDn, hD, Nat.zero_le _, rfl⟩ ?_ ?_⟩
        · rintro i σ H5 hi ⟨v6', D', v10, v11, v12, v13, v14, v15, ws, rfl, sH5, s45, D0, eD, lw, ew⟩
          rw [Int.toNat_natCast] at hi
          rw [Int.zero_add]
          obtain ⟨⟨f, t⟩, ef, p1, x, evk, hp1, hx⟩ := pw_nth pw (List.getElem?_eq_getElem hi)
          have li : i < ss.length := by omega
          have hp5 := (KeepN.of sH5).t hp4
          have hq5 := (KeepN.of sH5).t hq2
          obtain ⟨nf, tf⟩ := hss (f, t) (List.mem_of_getElem? ef)
          have tf : TmB t := tf
          have hx : TrAt K H x t := hx
          have ev : vs[i]? = some (.ref p1) := by rw [List.getElem?_eq_getElem hi, evk]
          refine gn ?_
          refine sa1 ⟨_, rfl, p, _, 2, .ref q2, rfl, rfl, hp5, atI_nat (j := 2) rfl, _, rfl, q2, _, _, .ref p1, rfl, rfl, hq5, atI_nat ev, p1, _, rfl, (KeepN.of sH5).t hp1, rfl, _, _, rfl, gn ⟨_, _, rfl, gn ⟨rfl, ?_⟩⟩⟩
          refine at_stD (σ' := [some (.ref p), some (.ref d), some (.ref q), some (.str (kindS (.set n ss c))), some (.str (sec (.set n ss c))), none, some (.int (i : Nat)), some (.ref tt), some (.ref L), some (.ref D'), v10, some (.str f), some x, v13, v14, v15]) rfl ?_
          refine sa1 ⟨_, rfl, p, _, 2, .ref q2, rfl, rfl, hp5, atI_nat (j := 2) rfl, ?_⟩
          dsimp only [tNoPart]
          refine ⟨_, rfl, i, rfl, sl_to hq5 fun q6 H6 s6 h6 => ⟨q6, rfl, ⟨_, h6⟩, fun D5 hD5 => ?_⟩⟩
          have sH6 := sH5.trans s6
          have lt : (vs.take i).length = i := by rw [List.length_take]; omega
          refine lc_tup (K := K) (a := q6) (xs := vs.take i) (fun j H' => Same H6 H' ∧ H' D5 = some (.lst (((ss.take j).map (·.1)).map V.str)))
            ⟨same_new hD5, upd_same⟩ (fun j H2 _ ⟨s2, _⟩ => (KeepN.of s2).t h6) ?_ ?_
          · rintro j y H7 hj ⟨s7, hd⟩
            have lj : j < i := by have q := (List.getElem?_eq_some_iff.mp hj).1; omega
            rw [List.getElem?_take_of_lt lj] at hj
            obtain ⟨⟨fj, tj⟩, efj, pj, xj, rfl, hpj, _⟩ := pw_nth pw hj
            have tk : (ss.take (j + 1)).map (·.1) = (ss.take j).map (·.1) ++ [fj] := by rw [List.take_add_one, efj, List.map_append]; rfl
            refine ⟨rfl, _, rfl, pj, _, 0, .str fj, rfl, rfl, (KeepN.of (sH6.trans s7)).t hpj, atI_nat (j := 0) rfl, _, hd, Nat.lt_of_le_of_lt (show (((ss.take j).map (·.1)).map V.str).length ≤ 4 by rw [List.length_map, List.length_map, List.length_take]; omega) (by decide), fun b o e => by rw [upd_ne (ne_of_none e hD5)]; exact s7 _ _ e, by rw [upd_same, tk, List.map_append]; rfl⟩
          · rintro H7 ⟨s7, hd⟩
            rw [lt] at hd
            have sH7 := sH6.trans s7
            have ShH7 := Sh.keep (KeepN.of sH7)
            obtain ⟨u, g, hu⟩ := sh_get ShH7 mn
            refine gn ?_
            refine at_stD (σ' := [some (.ref p), some (.ref d), some (.ref q), some (.str (kindS (.set n ss c))), some (.str (sec (.set n ss c))), none, some (.int (i : Nat)), some (.ref tt), some (.ref L), some (.ref D'), v10, some (.str f), some x, some (.ref D5), v14, v15]) rfl ?_
            have tb : ∀ {Q' : VK}, (∀ H8, Same H7 H8 → Q' (.bl (badSet sh n ((ss.take i).map (·.1)) f)) H8) → (tOrV (tOp (rIn K true) (tVar 11) (tSl (rSlA K) (tDGet (tVar 1) (tVar 4)) (tPart (tC (V.int 1))) tNoPart)) (tOp (rIn K false) (tVar 11) (tVar 13))) [some (.ref p), some (.ref d), some (.ref q), some (.str (kindS (.set n ss c))), some (.str (sec (.set n ss c))), none, some (.int (i : Nat)), some (.ref tt), some (.ref L), some (.ref D'), v10, some (.str f), some x, some (.ref D5), v14, v15] H7 Q' := fun {Q'} kq => by
              refine ⟨_, rfl, _, rfl, _, rfl, d, .ref u, rfl, g, 1, rfl, ?_⟩
              dsimp only [tNoPart]
              refine sl_from (i := 1) hu fun q8 H8 s8 h8 => ⟨q8, _, rfl, .inr h8, rfl, by rw [← List.map_drop]; exact flS _, ?_⟩
              rw [if_pos rfl, ← List.map_drop, inS, List.drop_one]
              have kq := kq H8 s8
              refine ⟨_, rfl, ?_⟩
              by_cases c1 : f ∈ (flds1 sh n).tail
              · rw [decide_eq_true c1]
                refine iteF ⟨_, rfl, _, rfl, D5, _, rfl, .inl (SqL.of (s8 _ _ hd)), rfl, flS _, ?_⟩
                rw [if_neg Bool.false_ne_true, inS]
                unfold badSet at kq
                rw [decide_eq_true c1] at kq
                exact kq
              · rw [decide_eq_false c1]
                unfold badSet at kq
                rw [decide_eq_false c1] at kq
                exact iteT kq
            refine sa1 (tb fun H8 s8 => gn ?_)
            have sH8 := sH7.trans s8
            try dsimp only
            have s58 := s6.trans (s7.trans s8)
            have hx8 := TrAt.keep (KeepN.of sH8) hx
            refine ⟨_, rfl, _, rfl, _, rfl, .inr ⟨_, rfl, f, _, rfl, rfl, _, rfl, _, rfl, _, rfl, x, some t, d, tt, sh, ts, rfl, hx8, fun t' e => by obtain rfl := Option.some.inj e; exact ⟨tf.1, by have := tf.2; omega⟩, fun _ => by decide, Sh.keep (KeepN.of sH8), (KeepN.of (s3.trans (s4.trans (s45.trans s58)))).t htH, ⟨th, by omega⟩, fun H9 s9 => ⟨by show 2 ≤ sizeLine; decide, fun l8 hl8 => ?_⟩⟩⟩
            have s10 := same_new (o := .lst [.str (if badSet sh n ((ss.take i).map (·.1)) f = true then f else Str.empty), .str (firstO sh ts (some t))]) hl8
            have s510 := s58.trans (s9.trans s10)
            refine ⟨D', l8, _, _, rfl, rfl, s510 _ _ eD, upd_same, Nat.le_trans (show (ws.map V.str).length + 2 ≤ 20 by rw [List.length_map]; omega) (by decide), fun q9 hq9 => gn ?_⟩
            have s11 := same_new (o := .lst (ws.map V.str ++ [.str (if badSet sh n ((ss.take i).map (·.1)) f = true then f else Str.empty), .str (firstO sh ts (some t))])) hq9
            have sHe := sH5.trans (s510.trans s11)
            refine ⟨_, q9, _, _, _, _, _, _, ws ++ [if badSet sh n ((ss.take i).map (·.1)) f = true then f else sE, firstT sh [n] t], rfl, sHe, s45.trans (s510.trans s11), none_of_same (sH5.trans s510) hq9, ?_, by rw [List.length_append]; show ws.length + 2 ≤ _; omega, ?_⟩
            · rw [upd_same, List.map_append, ets]; rfl
            · obtain ⟨li', e'⟩ := List.getElem?_eq_some_iff.mp ef
              rw [ew, List.drop_eq_getElem_cons li', e', List.append_assoc, List.take_add_one, ef, List.map_append]
              rfl
        · rintro σ H5 ⟨v6', D', v10, v11, v12, v13, v14, v15, ws, rfl, sH5, s45, D0, eD, lw, ew⟩
          rw [Int.toNat_natCast, lvs] at lw
          rw [Int.toNat_natCast, lvs, List.take_length, List.drop_length] at ew
          have ew : setWords sh n [] ss = ws := by rw [ew]; show ws ++ [] = ws; rw [List.append_nil]
          try dsimp only
          have hp5 := (KeepN.of sH5).t hp4
          refine ⟨_, rfl, .inl ⟨rfl, _, SqL.of eD⟩, _, rfl, p, _, 3, v, rfl, rfl, hp5, atI_nat (j := 3) rfl, _, rfl, _, rfl, v, c, d, tt, sh, ts, rfl, OcAt.mono (fun _ _ z => (KeepN.of sH5).t z) hc, fun t' e => ⟨(hcc t' e).1, by have := (hcc t' e).2; omega⟩, fun _ => by decide, Sh.keep (KeepN.of sH5), (KeepN.of (s3.trans (s4.trans s45))).t htH, ⟨th, by omega⟩, fun H7 s7 => ⟨D', _, _, rfl, rfl, s7 _ _ eD, Nat.lt_of_le_of_lt (show (ws.map V.str).length ≤ 20 by rw [List.length_map]; omega) (by decide), ?_⟩⟩
          have sH7 : Same H (upd H7 D' (.lst (ws.map V.str ++ [.str (firstO sh ts c)]))) := fun b o e => by rw [upd_ne (ne_of_none e D0)]; exact s7 _ _ (sH5 _ _ e)
          refine te_fin (ws := ws ++ [firstO sh ts c]) (by rw [upd_same, List.map_append]; rfl) (by rw [List.length_append]; show ws.length + 1 ≤ _; omega) fun H8 s8 => ?_
          have kk : Q (.str (pickS (setWords sh n [] ss ++ [firstO sh [n] c]))) H8 := k H8 (sH7.trans s8)
          rw [ew] at kk
          rw [ets]
          exact kk
      | ask how us tabs c ob fi =>
        obtain ⟨q2, r, v, b5, hp7, ⟨vs1, hq2, pw1⟩, _, hc, ⟨vs5, hb5, pw5⟩⟩ := hS
        obtain ⟨hh, u3, o3, hu, ho, hcc, b0, b3, hb⟩ := st
        refine sif ⟨_, rfl, rfl, _, rfl, ?_⟩
        rw [vS, show decide (kindS (.ask how us tabs c ob fi) = Str.ofString "put") = false by show decide (Str.ofString "ask" = _) = _; decide +kernel]
        refine iteF ?_
        dsimp only [tNext]
        refine sif ⟨_, rfl, rfl, _, rfl, ?_⟩
        rw [vS, show decide (kindS (.ask how us tabs c ob fi) = Str.ofString "index") = false by show decide (Str.ofString "ask" = _) = _; decide +kernel]
        refine iteF ?_
        dsimp only [tNext]
        refine sa1 ⟨_, rfl, rfl, _, rfl, ?_⟩
        rw [vS, show decide (kindS (.ask how us tabs c ob fi) = Str.ofString "strike") = false by show decide (Str.ofString "ask" = _) = _; decide +kernel]
        refine iteF ⟨by show 0 ≤ sizeLine; decide, fun L hL => gn ?_⟩
        have s3 := same_new (o := .lst []) hL
        have sH3 := sH.trans s3
        try dsimp only
        refine sif ⟨_, rfl, rfl, _, rfl, ?_⟩
        rw [vS, show decide (kindS (.ask how us tabs c ob fi) = Str.ofString "ask") = true from decide_eq_true rfl]
        refine iteT ?_
        have lv1 := pw_len pw1
        have lv5 := pw_len pw5
        refine ⟨_, rfl, p, _, 2, .ref q2, rfl, rfl, (KeepN.of sH3).t hp7, atI_nat (j := 2) rfl, q2, vs1, rfl, .inr ((KeepN.of sH3).t hq2), fun l1 hl1 => ?_⟩
        have t1 := same_new (o := .lst vs1) hl1
        refine ⟨_, rfl, p, _, 4, v, rfl, rfl, (KeepN.of (sH3.trans t1)).t hp7, atI_nat (j := 4) rfl, by show 1 ≤ sizeLine; decide, fun l2 hl2 => ?_⟩
        have t2 := same_new (o := .lst [v]) hl2
        refine ⟨l1, l2, vs1, [v], rfl, rfl, t2 _ _ upd_same, upd_same, Nat.le_trans (show vs1.length + 1 ≤ 10 by omega) (by decide), fun l3 hl3 => ?_⟩
        have t3 := same_new (o := .lst (vs1 ++ [v])) hl3
        refine ⟨_, rfl, p, _, 5, .ref b5, rfl, rfl, (KeepN.of (sH3.trans (t1.trans (t2.trans t3)))).t hp7, atI_nat (j := 5) rfl, b5, vs5, rfl, .inr ((KeepN.of (sH3.trans (t1.trans (t2.trans t3)))).t hb5), fun l4 hl4 => ?_⟩
        have t4 := same_new (o := .lst vs5) hl4
        refine ⟨l3, l4, _, _, rfl, rfl, t4 _ _ upd_same, upd_same, Nat.le_trans (show (vs1 ++ [v]).length + vs5.length ≤ 10 by rw [List.length_append]; show vs1.length + 1 + _ ≤ _; omega) (by decide), fun l5 hl5 => gn ?_⟩
        have t5 := same_new (o := .lst (vs1 ++ [v] ++ vs5)) hl5
        have t15 := t1.trans (t2.trans (t3.trans (t4.trans t5)))
        have sH4 := sH3.trans t15
        have kn := KeepN.of sH4
        have pwA : Paired (OcAt K _) (vs1 ++ [v] ++ vs5) (us.map some ++ [c] ++ ob.map some) := pw_app (pw_app (pw_some (pw_imp (fun _ _ z => TrAt.keep kn z) pw1)) (.cons (OcAt.mono (fun _ _ z => kn.t z) hc) .nil)) (pw_some (pw_imp (fun _ _ z => TrAt.keep kn z) pw5))
        refine at_stD (σ' := [some (.ref p), some (.ref d), some (.ref q), some (.str (kindS (.ask how us tabs c ob fi))), some (.str (sec (.ask how us tabs c ob fi))), none, v6, some (.ref tt), some (.ref l5), none, none, none, none, none, none, none]) rfl ?_
        have ets : ts = tabs := hts.symm
        refine sa1 (te_words (sh := sh) (ts := ts) upd_same pwA (by rw [List.length_append, List.length_append, List.length_map, List.length_map]; show us.length + 1 + ob.length ≤ _; omega) (fun c' m t e => ?_) (Sh.keep kn) ((KeepN.of (s3.trans t15)).t htH) ⟨th, by omega⟩ fun D H4 s4 _ hD => gn ?_)
        · rcases List.mem_append.mp m with m | m
          · rcases List.mem_append.mp m with m | m
            · obtain ⟨x, mx, rfl⟩ := List.mem_map.mp m
              obtain rfl := Option.some.inj e
              exact hu _ mx
            · rw [List.mem_singleton.mp m] at e; exact hcc t e
          · obtain ⟨x, mx, rfl⟩ := List.mem_map.mp m
            obtain rfl := Option.some.inj e
            exact ho _ mx
        try dsimp only
        refine sif ⟨_, rfl, rfl, _, rfl, ?_⟩
        rw [vS, show decide (kindS (.ask how us tabs c ob fi) = Str.ofString "set") = false by show decide (Str.ofString "ask" = _) = _; decide +kernel]
        refine iteF ?_
        dsimp only [tNext]
        refine at_stD (σ' := [some (.ref p), some (.ref d), some (.ref q), some (.str (kindS (.ask how us tabs c ob fi))), some (.str (sec (.ask how us tabs c ob fi))), none, v6, some (.ref tt), some (.ref l5), some (.ref D), none, none, none, none, none, none]) rfl ?_
        refine te_fin hD (by rw [List.length_map, List.length_append, List.length_append, List.length_map, List.length_map]; show us.length + 1 + ob.length ≤ _; omega) fun H5 s5 => ?_
        have kk : Q (.str (pickS (us.map (firstT sh tabs) ++ [firstO sh tabs c] ++ ob.map (firstT sh tabs)))) H5 := k H5 (sH4.trans (s4.trans s5))
        rw [ets, List.map_append, List.map_append, List.map_map, List.map_map]
        exact kk
end
end GS

set_option Elab.async false
set_option linter.all false
set_option maxRecDepth 100000
set_option maxHeartbeats 4000000
/-! a try with two clauses that both name the error: one clause after the other over one landed state -/
namespace TW
open PySem PySem.Spec PyProof.Rows L2
variable {X : Cx} {pins : List (Addr × Obj)} {a : Addr} {cls : Value} {d : Option Addr} {σ : L2.St} {H : Hp} {s : Shared} {D : Ends} {Wout : WX} {i : Nat} {n : Str}
/-- an error that has landed before the clauses: what may be done with it -/
structure Landed (X : Cx) (pins : List (Addr × Obj)) (a : Addr) (cls : Value) (d : Option Addr) (σ : L2.St) (H : Hp) (Wout : WX) (s : Shared) : Prop where
  ok : X.Ok
  frame : X.env.frame = some X.env.locals
  B : ∃ B, HandSPX.FlyingZ B (X.env :: X.outer) a (Zc cls d) s.heap ∧ ∀ h', (HandSPX.FlyingZ B (X.env :: X.outer) a (Zc cls d) h' → s.heap.UpToSlots h' → Inv X pins σ H { s with heap := h' }) ∧
    (HandSPX.HeldZ B (X.env :: X.outer) a (Zc cls d) X.env.locals h' → s.heap.UpToSlots h' → Wout cls d σ H → X.xe (.ref a) { s with heap := h' })
  self : Inv X pins σ H s
  free : H a = none
/-- ends of a suite: the clause's name is gone behind it -/
def unnamed (i : Nat) (D : Ends) : Ends := { nx := fun σ' H' => D.nx (σ'.set i none) H', rt := D.rt, bk := fun σ' H' => D.bk (σ'.set i none) H', ct := fun σ' H' => D.ct (σ'.set i none) H' }
/-- the error is no frame of ours -/
theorem Landed.far (C : Landed X pins a cls d σ H Wout s) : a ≠ X.env.locals ∧ a ∉ X.fs := by
  obtain ⟨B, fl, _⟩ := C.B
  obtain ⟨o, vs, ho, _, hv⟩ := fl.there
  have no : a ∉ frs (X.env :: X.outer) := fun m => by
    obtain ⟨_, o', e, k⟩ := fl.2.2.1.mem m
    rw [ho] at e; cases e
    exact k _ hv
  exact ⟨fun e => no (List.mem_filterMap.mpr ⟨X.env, List.mem_cons_self, by rw [C.frame, e]⟩), fun m => no (by
    obtain ⟨e, me, q⟩ := List.mem_filterMap.mp m
    exact List.mem_filterMap.mpr ⟨e, List.mem_cons_of_mem _ me, q⟩)⟩
/-- no clause is left: the error goes on -/
theorem Landed.leave (C : Landed X pins a cls d σ H Wout s) (w : Wout cls d σ H) : wpAny (model X.prog X.w) X.A (handleBy (.ref a) X.env []) (SP X pins D) X.xe s := by
  obtain ⟨B, fl, k⟩ := C.B
  have on : wpAny (model X.prog X.w) X.A (setFlight (.ref a) X.env.frame) (fun _ s4 => wpAny (model X.prog X.w) X.A (throw (.ref a) : Sem Flow) (SP X pins D) X.xe s4) X.xe s := by
    rw [C.frame]
    exact HandSPX.setFlight_upZ fl fun h' hh up => wpAny_throw ((k h').2 hh up w)
  obtain ⟨_, _, _, o, vs, T, oT, ts, ho, _, hv, h1, _⟩ := id fl
  refine wpAny_handleBy_nil ?_
  unfold PySem.passOn
  refine wpAny_bind (wpAny_field ho hv h1 ?_)
  rw [if_neg (show ¬ ((Value.ref T == Value.none) = true) from by simp)]
  first
    | exact wpAny_bind (wpAny_pure (wpAny_bind on))
    | exact wpAny_bind on
/-- the next clause takes it, or those behind it are asked -/
theorem Landed.ask {x : Str} {c : Value} {b : Bool} {ts : Addr → Value → Option Addr → TS} {b₀ : Stmt} {suite : List Stmt} {np pos' : Pos} {hds : List ExceptHandler} (C : Landed X pins a cls d σ H Wout s) (hN : X.N.Nodup) (hi : X.N[i]? = some n) (hln : X.env.kindOf n = some .local) (hc : Names X x c)
    (hsu : ∀ (a : Addr) (oe : Obj) (cls : Value) (d : Option Addr) (pn : List (Addr × Obj)), Zc cls d oe → (∃ vs, oe.data = .fields vs) → PSs (X.suite a ((a, oe) :: pn)) (b₀ :: suite) (ts a cls d))
    (hb : PySem.W.exmOne X.K cls c = some b) (yes : b = true → ts a cls d (unnamed i D) (σ.set i (some (.ref a))) H) (no : b = false → wpAny (model X.prog X.w) X.A (handleBy (.ref a) X.env hds) (SP X pins D) X.xe s) :
    wpAny (model X.prog X.w) X.A (handleBy (.ref a) X.env (.ExceptHandler (some (.Name x np)) (some n) (b₀ :: suite) pos' :: hds)) (SP X pins D) X.xe s := by
  obtain ⟨nL, nF⟩ := C.far
  obtain ⟨B, fl, k⟩ := C.B
  obtain ⟨o, vs, ho, hz, hv⟩ := fl.there
  have S := C.self.suite ho hv C.free nL nF
  have named : ∀ {Q E : Value → Shared → Prop}, Q c s → wpAny (model X.prog X.w) (X.A.mark (some (.ref a))) (eval (.Name x np) X.env) Q E s := fun q => by
    rcases hc with ⟨g, nd, m | ⟨m, bt, nn⟩⟩
    · exact ld_glob (X := X.suite a ((a, o) :: (X.pn ++ pins))) S g m q nd
    · exact ld_blt (X := X.suite a ((a, o) :: (X.pn ++ pins))) S g m bt q nn nd
  have ty : PySem.W.Looks (model X.prog X.w) s.heap (typeOf (.ref a)) cls := fun A Q E t kp q => wpAny_typeOf_ref (kp _ _ ho) (by rw [hz.1]; exact q)
  refine wpAny_handleBy_cons (codeAny_handlers_test (named ((PySem.W.exm_one (M := model X.prog X.w) C.self.kIn ty hb).here ?_))) (by intro z; cases z)
  match b, yes, no with
  | false, _, no => exact no rfl
  | true, yes, _ =>
    refine codeAny_handlers_suite_as (HandSPX.lands_againZ fl fun h' fl' up => ?_)
    have J := (k h').1 fl' up
    obtain ⟨o', vs', ho', hz', hv'⟩ := fl'.there
    have out : ∀ {σ' : L2.St} {H' : Hp} {t : Shared} {Q : Shared → Prop}, Inv (X.suite a ((a, o') :: (X.pn ++ pins))) [] σ' H' t → (∀ t', Inv X pins (σ'.set i none) H' t' → Q t') → wpAny (model X.prog X.w) X.A (do bindName X.env n .none; unbindBehindTheSuite X.env n pos') (fun _ t' => Q t') X.xe t := fun T q => gone_ok (T.unsuite C.ok) hN hi hln q
    refine store_ok (X := X.suite a ((a, o') :: (X.pn ++ pins))) (v := .ref a) (J.suite ho' hv' C.free nL nF) hN hi (.inl hln) rfl (fun t T => ?_) (.inr hln)
    refine wpAny_mono ((hsu a o' cls d (X.pn ++ pins) hz' ⟨_, hv'⟩).run [] t _ H _ T (yes rfl)) (fun f t' sp => ?_) fun _ _ z => z.elim
    match f, sp with
    | .ret _, ⟨v, σ', H', T', r, q⟩ => exact out T' fun _ J' => ⟨v, _, H', J', r, q⟩
    | .next, ⟨σ', H', T', q⟩ => exact out T' fun _ J' => ⟨_, H', J', q⟩
    | .brk, ⟨σ', H', T', q⟩ => exact out T' fun _ J' => ⟨_, H', J', q⟩
    | .cont, ⟨σ', H', T', q⟩ => exact out T' fun _ J' => ⟨_, H', J', q⟩
/-- what two clauses wish of an error of the body -/
def wTwo (K : PySem.W.Frag) (c1 c2 : Value) (i : Nat) (t1 t2 : Addr → Value → Option Addr → TS) (Wout : WX) (D : Ends) : WX := fun cls d σ H =>
  ∃ b1 b2, PySem.W.exmOne K cls c1 = some b1 ∧ PySem.W.exmOne K cls c2 = some b2 ∧ (b1 = true → ∀ a, H a = none → t1 a cls d (unnamed i D) (σ.set i (some (.ref a))) H) ∧ (b1 = false → b2 = true → ∀ a, H a = none → t2 a cls d (unnamed i D) (σ.set i (some (.ref a))) H) ∧ (b1 = false → b2 = false → Wout cls d σ H)
theorem ps_try_two {x1 x2 : Str} {c1 c2 : Value} {t1 t2 : Addr → Value → Option Addr → TS} {body s1 s2 : List Stmt} {f1 f2 : Stmt} {n1 p1 n2 p2 pos : Pos} {tb : WX → TS} (hs : X.stack = X.env :: X.outer) (hf : X.env.frame = some X.env.locals) (hN : X.N.Nodup) (hi : X.N[i]? = some n) (hln : X.env.kindOf n = some .local) (h1 : Names X x1 c1) (h2 : Names X x2 c2) (tk : Takes X Wout)
    (hb : ∀ (W : WX) (pn : List (Addr × Obj)) (xe : Value → Shared → Prop), Takes (X.tr pn xe) W → PassesOwn (model X.prog X.w) X.A X.env xe → PSs (X.tr pn xe) body (tb W))
    (k1 : ∀ (a : Addr) (oe : Obj) (cls : Value) (d : Option Addr) (pn : List (Addr × Obj)), Zc cls d oe → (∃ vs, oe.data = .fields vs) → PSs (X.suite a ((a, oe) :: pn)) (f1 :: s1) (t1 a cls d))
    (k2 : ∀ (a : Addr) (oe : Obj) (cls : Value) (d : Option Addr) (pn : List (Addr × Obj)), Zc cls d oe → (∃ vs, oe.data = .fields vs) → PSs (X.suite a ((a, oe) :: pn)) (f2 :: s2) (t2 a cls d)) :
    PS X (.Try body [.ExceptHandler (some (.Name x1 n1)) (some n) (f1 :: s1) p1, .ExceptHandler (some (.Name x2 n2)) (some n) (f2 :: s2) p2] [] [] pos) (fun D σ H => tb (wTwo X.K c1 c2 i t1 t2 Wout D) D σ H) := by
  refine ⟨fun pins s σ H D I h => wpAny_Try_except ?_⟩
  have ok := I.ok
  refine wpAny_mono ((hb (wTwo X.K c1 c2 i t1 t2 Wout D) (X.pn ++ pins) (fun e s₁ => wpAny (model X.prog X.w) X.A (noteFrame e X.env) (fun _ s₂ => wpAny (model X.prog X.w) X.A (setFlight e none) (fun _ s₃ => wpAny (model X.prog X.w) X.A (handleBy e X.env _) (SP X pins D) X.xe s₃) X.xe s₂) X.xe s₁)
    (fun u t air => ?_) PassesOwn.looking).run [] s σ H D (I.toTry _) h) (fun f t sp => ?_) (fun _ _ z => z)
  · obtain ⟨a, B, sI, ps, σ', H', cls, d, rfl, J', nb, up, sky, na, os, ag, b1, b2, e1, e2, y1, y2, go⟩ := air
    have J : Inv X pins σ' H' sI := J'.ofTry ok
    have sky : Sky B (X.env :: X.outer) a (Zc cls d) X.env.locals t.heap := by rw [← hs]; exact sky
    show wpAny (model X.prog X.w) X.A (noteFrame (.ref a) X.env) _ _ _
    refine Sky.land Zc.steady (show X.A.frames = some (X.env :: X.outer) by rw [ok.frames, hs]) hf sky fun h3 fl up3 => ?_
    have L : Landed X pins a cls d σ' H' Wout { t with heap := h3 } := ⟨ok, hf, ⟨B, fl, fun h' => ⟨fun fl' up' => J.landed nb fl'.1 ((up.trans up3).trans up') os ag, fun hh up' w => tk _ _ ⟨a, B, sI, pins, σ', H', cls, d, rfl, J, nb, (up.trans up3).trans up', .inr (.inr (by rw [hs]; exact hh)), na, os, ag, w⟩⟩⟩, J.landed nb fl.1 (up.trans up3) os ag, na⟩
    exact L.ask hN hi hln h1 k1 e1 (fun z => y1 z a na) fun z1 => L.ask hN hi hln h2 k2 e2 (fun z => y2 z1 z a na) fun z2 => L.leave (go z1 z2)
  · match f, sp with
    | .ret _, ⟨v, σ', H', J', r, q⟩ => exact ⟨v, σ', H', J'.ofTry ok, r, q⟩
    | .next, ⟨σ', H', J', q⟩ => exact wpAny_execs_nil ⟨σ', H', J'.ofTry ok, q⟩
    | .brk, ⟨σ', H', J', q⟩ => exact ⟨σ', H', J'.ofTry ok, q⟩
    | .cont, ⟨σ', H', J', q⟩ => exact ⟨σ', H', J'.ofTry ok, q⟩
end TW

set_option linter.all false
set_option maxHeartbeats 4000000
namespace TH
open PySem PySem.Spec PyProof.Rows L2
/-- isinstance(e, c) in a suite, e an own error with a dict of its own -/
def rIsD (K : PySem.W.Frag) (a : Addr) (cls : Value) (d : Option Addr) : List V → Hp → VK → Prop := fun xs H Q => ∃ (D dd : Addr) (fs : List (Str × V)) (c : V) (cv : Value) (b : Bool), cls = .ref D ∧ d = some dd ∧ H dd = some (.xd fs) ∧ ExcC K D ∧ xs = [.ref a, c] ∧ (∀ u, RelV c u → u = cv) ∧ PySem.W.kitOne K (.ref D) cv = some b ∧ Q (.bl b) H
theorem call_isD {X : Cx} {a : Addr} {oe : Obj} {cls : Value} {d : Option Addr} {pn : List (Addr × Obj)} (hz : Zc cls d oe) (hf : ∃ vs, oe.data = .fields vs) {K : PySem.W.Frag} (h : X.K = K := by rfl) : CallR (X.suite a ((a, oe) :: pn)) (.builtin "isinstance") (rIsD K a cls d) := by
  subst h
  intro pins s σ H xs us Q I r h
  obtain ⟨D, dd, fs, c, cv, b, rfl, rfl, hdd, C, rfl, hcv, e, q⟩ := h
  obtain ⟨u1, u2, rfl, r1, r2⟩ := vals2 r
  obtain rfl : u1 = Value.ref a := r1
  obtain rfl : u2 = cv := hcv _ r2
  obtain ⟨at_, _⟩ := I.pin (a, oe) (List.mem_append_left _ List.mem_cons_self)
  obtain ⟨mA, ns, _⟩ : ObjOk X.prog X.w H s.heap dd (.xd fs) := I.hok dd _ hdd
  obtain ⟨od, ho, _⟩ := lookIn_ns ns
  obtain ⟨vs, hv⟩ := hf
  have J : PySem.W.InstAt s.heap a oe D (some od) := ⟨at_, hz.1, by unfold PySem.W.notCls; rw [hv] <;> rfl, by rw [hz.2]; exact ho⟩
  have hcl : (PySem.W.clsIn X.K D).isSome = true := by
    obtain ⟨cd, hc, _⟩ := PySem.W.any_some C.hd
    rw [hc]; rfl
  exact PySem.W.kia_one (PySem.W.kitx_exc hcl C.hg C.hk C.hs C.ha C.hn C.ht C.hm) I.kIn J e (fun z => nomatch z) fun tk => ⟨.bl b, H, I.kept (t' := tk) fun _ _ z => z, rfl, q⟩
section
variable {X : Cx}
def rIsG (K : PySem.W.Frag) (a : Addr) (cls : Value) (d : Option Addr) : List V → Hp → VK → Prop := fun xs H Q => ∃ (D : Addr) (c : V) (cv : Value) (b : Bool), cls = .ref D ∧ d = none ∧ ExcC K D ∧ xs = [.ref a, c] ∧ (∀ u, RelV c u → u = cv) ∧ PySem.W.kitOne K (.ref D) cv = some b ∧ Q (.bl b) H
/-- isinstance(e, c) in a suite, whatever was caught -/
theorem call_isG {a : Addr} {oe : Obj} {cls : Value} {d : Option Addr} {pn : List (Addr × Obj)} (hz : Zc cls d oe) (hf : ∃ vs, oe.data = .fields vs) {K : PySem.W.Frag} (h : X.K = K := by rfl) : CallR (X.suite a ((a, oe) :: pn)) (.builtin "isinstance") (rIsG K a cls d) := by
  subst h
  intro pins s σ H xs us Q I r h
  obtain ⟨D, c, cv, b, rfl, rfl, C, e1, e2, e3, q⟩ := h
  exact call_isE C hz hf pins s σ H xs us Q I r ⟨c, cv, b, e1, e2, e3, q⟩
end
end TH
namespace GS
open PySem L2 HX
open K06 hiding gn sa1 sif cb1 and2 or2 pw_mono Txt Cal
/-- BadName and BadRow, caught -/
structure WoF (K : PySem.W.Frag) (mg : Str → Option Value) (CN CR CS : Addr) : Prop where
  ex : ExcC K CN
  xf : XfC K CN
  er : ExcC K CR
  nn : PySem.W.exmOne K (.ref CN) (.ref CN) = some true
  nr : PySem.W.exmOne K (.ref CN) (.ref CR) = some false
  rn : PySem.W.exmOne K (.ref CR) (.ref CN) = some false
  rr : PySem.W.exmOne K (.ref CR) (.ref CR) = some true
  k1 : PySem.W.kitOne K (.ref CN) (.ref CS) = some true
  k2 : PySem.W.kitOne K (.ref CR) (.ref CS) = some true
  np : PySem.W.findIn K (.ref CN) "word" = some none
  g : mg "BadName" = some (.ref CN)
  gR : mg "BadRow" = some (.ref CR)
  gS : mg "StoreError" = some (.ref CS)
def spWo (P : Program) (w : World) (K : PySem.W.Frag) (mg : Str → Option Value) (base : Heap) (k : Nat) (CN CR : Addr) : Sp := fun vs H Q _ => ∃ f T Eb, vs = [.ref f] ∧ TH.Thunk P w K mg base k H f T ∧ (∀ Qb : VK, (∀ v H1, Q (.str sE) H1 → Qb v H1) → T H Qb Eb) ∧
  ∀ cls d H1, Eb cls d H1 → (∃ (n : Str) (dx : Addr), cls = .ref CN ∧ d = some dx ∧ H1 dx = some (.xd [("word", .str n)]) ∧ Q (.str n) H1) ∨ (cls = .ref CR ∧ d = none ∧ Q (.str sRow) H1)
section
variable {P : Program} {w : World} {K : PySem.W.Frag} {mg : Str → Option Value} {base : Heap} {CN CR CS : Addr}
theorem scWo : FnScope ["_law_call", "e"] ["_law_call"] (defScope s_l_word) := ⟨rfl, rfl, rfl, by decide +kernel, rfl, by decide +kernel, by decide +kernel⟩
theorem ok_wo {k : Nat} {f : Addr} {fd : FuncData} (F : Fun K "_law_word" "_law_word" s_l_word f fd) (T : GS.Txt mg) (B : WoF K mg CN CR CS) : FnOk P w K mg base CX0 (k + 1) f fd ["_law_call"] (spWo P w K mg base k CN CR) := by
  refine F.ok scWo (fun vs H Q E h => ?_) (fun cdv A outer s H vs Q E hr h => ?_)
  · obtain ⟨f, T, Eb, rfl, _⟩ := h
    rfl
  · obtain ⟨f', TT, Eb, rfl, th, q, hE⟩ := h
    have hr1 : Room k _ := hr
    refine ⟨_, (pss_cons (TW.ps_try_two (i := 1) rfl rfl scWo.nd rfl rfl ⟨by rfl, by decide, .inl B.g⟩ ⟨by rfl, by decide, .inl B.gR⟩ takes0 (fun W pn xe tk _ => pss_one (ps_expr (TH.pe_thunkE (P := P) (w := w) (K := K) (mg := mg) (base := base) (i := 0) (k := k) tk hr1 rfl (.inl rfl))))
        (fun a oe cls d pn hz hf => pss_one (ps_ret (pe_ifExp (pt_val (pe_callB (TH.call_isD (K := K) hz hf) (by rfl) T.isinstance (by decide +kernel) (pa_cons (pv 1) (pa_cons (pe_glob (v := .ref CS) (by rfl) B.gS rfl) pa_nil)))) (pe_xf (C := CN) B.xf B.np hz hf (pv 1)) pe_str)))
        (fun a oe cls d pn hz hf => pss_one (ps_ret (pe_ifExp (pt_val (pe_callB (TH.call_isG (K := K) hz hf) (by rfl) T.isinstance (by decide +kernel) (pa_cons (pv 1) (pa_cons (pe_glob (v := .ref CS) (by rfl) B.gS rfl) pa_nil)))) pe_str pe_str))))
      (pss_one (ps_ret pe_str))), ?_⟩
    have RV : ∀ {c : Addr} (u : Value), RelV (.ref c) u → u = .ref c := fun u r => r
    refine ⟨f', TT, Eb, rfl, th, ?_, fun cls d H1 he => ?_⟩
    · exact q _ fun _ H1 z => z
    · rcases hE cls d H1 he with ⟨n, dx, rfl, rfl, hd, k1⟩ | ⟨rfl, rfl, k1⟩
      · refine ⟨true, false, B.nn, B.nr, fun _ a ha => ?_, fun z => (nomatch z), fun z => (nomatch z)⟩
        refine ⟨_, rfl, CN, dx, _, .ref CS, .ref CS, true, rfl, rfl, hd, B.ex, rfl, RV, B.k1, _, rfl, ?_⟩
        exact iteT ⟨_, rfl, rfl, rfl, dx, _, .str n, rfl, hd, rfl, k1⟩
      · refine ⟨false, true, B.rn, B.rr, fun z => (nomatch z), fun _ _ a ha => ?_, fun _ z => (nomatch z)⟩
        refine ⟨_, rfl, CR, .ref CS, .ref CS, true, rfl, rfl, B.er, rfl, RV, B.k2, _, rfl, ?_⟩
        exact iteT k1
end
end GS

set_option linter.all false
set_option maxHeartbeats 4000000
namespace GS
open PySem L2 HX
open K06 hiding gn sa1 sif cb1 and2 or2 pw_mono Txt Cal
/-! ### what checked tells of a tree whose tables are there -/
theorem Bare.refl {sh : Shp} {ts : List Str} : ∀ t : Tr, Bare sh ts t t
  | .num _ => .num
  | .field _ _ => .keep
  | .bin _ l r => .bin (Bare.refl l) (Bare.refl r)
  | .not x => .not (Bare.refl x)
theorem fillL_bare {sh : Shp} {ts : List Str} : ∀ {us us' r : List Tr}, Paired (Bare sh ts) us us' → (∀ t ∈ us, Tne t) → fillL sh ts us' = .ok r → r = us
  | [], _, r, .nil, _, e => by cases e; rfl
  | t :: us, t' :: ys, r, .cons b bs, ne, e => by
    have e : (match fillT sh ts t' with | .error e => Except.error e | .ok r => match fillL sh ts ys with | .error e => .error e | .ok rs => .ok (r :: rs)) = .ok r := e
    cases e1 : fillT sh ts t' with
    | error x => rw [e1] at e; cases e
    | ok x =>
      rw [e1] at e
      have e : (match fillL sh ts ys with | .error e => Except.error e | .ok rs => .ok (x :: rs)) = .ok r := e
      cases e2 : fillL sh ts ys with
      | error y => rw [e2] at e; cases e
      | ok y =>
        rw [e2] at e
        cases e
        rw [b.fill (ne t List.mem_cons_self) _ e1, fillL_bare bs (fun u m => ne u (List.mem_cons_of_mem _ m)) e2]
theorem fillO_bare {sh : Shp} {ts : List Str} {c c' r : Option Tr} (b : BareO sh ts c c') (ne : ∀ t, c = some t → Tne t) (e : fillO sh ts c' = .ok r) : r = c := by
  cases c with
  | none => obtain rfl : c' = none := b; cases e; rfl
  | some t =>
    obtain ⟨t', rfl, b⟩ := b
    have e : (match fillT sh ts t' with | .error e => Except.error e | .ok r => .ok (some r)) = .ok r := e
    cases e1 : fillT sh ts t' with
    | error x => rw [e1] at e; cases e
    | ok x => rw [e1] at e; cases e; rw [b.fill (ne t rfl) _ e1]
theorem BareO.refl {sh : Shp} {ts : List Str} (c : Option Tr) : BareO sh ts c c := by
  cases c with
  | none => rfl
  | some t => exact ⟨t, rfl, Bare.refl t⟩
theorem setF_self {sh : Shp} {n : Str} : ∀ {ss : List (Str × Tr)} {seen : List Str} {r : List (Str × Tr)}, (∀ q ∈ ss, Tne q.2) → setF sh n seen ss = .ok r → r = ss
  | [], _, r, _, e => by cases e; rfl
  | q :: ss, seen, r, ne, e => by
    have e : (if noKey (flds1 sh n) q.1 ∨ q.1 ∈ seen then .error q.1 else match fillT sh [n] q.2 with | .error e => .error e | .ok t => match setF sh n (seen ++ [q.1]) ss with | .error e => .error e | .ok r' => .ok ((q.1, t) :: r')) = Except.ok r := e
    by_cases c : noKey (flds1 sh n) q.1 ∨ q.1 ∈ seen
    · rw [if_pos c] at e; cases e
    · rw [if_neg c] at e
      cases e1 : fillT sh [n] q.2 with
      | error x => rw [e1] at e; cases e
      | ok x =>
        rw [e1] at e
        have e : (match setF sh n (seen ++ [q.1]) ss with | .error e => Except.error e | .ok r' => .ok ((q.1, x) :: r')) = .ok r := e
        cases e2 : setF sh n (seen ++ [q.1]) ss with
        | error y => rw [e2] at e; cases e
        | ok y =>
          rw [e2] at e
          cases e
          rw [(Bare.refl q.2).fill (ne q List.mem_cons_self) _ e1, setF_self (fun u m => ne u (List.mem_cons_of_mem _ m)) e2]
/-- a statement whose fields lack their tables where they may -/
inductive BareS (sh : Shp) : Stm → Stm → Prop
  | same (S : Stm) : BareS sh S S
  | ask {how : Str} {ts ts' ob ob' : List Tr} {tabs : List Str} {c c' : Option Tr} {fi : Option Int} : Paired (Bare sh tabs) ts ts' → BareO sh tabs c c' → Paired (Bare sh tabs) ob ob' → BareS sh (.ask how ts tabs c ob fi) (.ask how ts' tabs c' ob' fi)
theorem pw_refl {α : Type} {R : α → α → Prop} (h : ∀ x, R x x) : ∀ xs : List α, Paired R xs xs
  | [] => .nil
  | x :: xs => .cons (h x) (pw_refl h xs)
theorem chk_ask {sh : Shp} {ix : List (Str × Str)} {how : Str} {ts ts' ob ob' : List Tr} {tabs : List Str} {c c' : Option Tr} {fi : Option Int} {r : Stm} (st : StP TmD (.ask how ts tabs c ob fi)) (a : Paired (Bare sh tabs) ts ts') (b : BareO sh tabs c c') (o : Paired (Bare sh tabs) ob ob') (e : chk sh ix (.ask how ts' tabs c' ob' fi) = .ok r) : r = .ask how ts tabs c ob fi := by
  obtain ⟨hh, t3, o3, ht, ho, hc, b0, b3, hb⟩ := st
  have e : (match goA (absent sh) [] tabs with | some e => .error (some e) | none => match fillL sh tabs ts' with | .error e => .error (some e) | .ok x => match fillO sh tabs c' with | .error e => .error (some e) | .ok y => match fillL sh tabs ob' with | .error e => .error (some e) | .ok z => .ok (.ask how x tabs y z fi)) = Except.ok r := e
  cases e0 : goA (absent sh) [] tabs with
  | some x => rw [e0] at e; cases e
  | none =>
    rw [e0] at e
    cases e1 : fillL sh tabs ts' with
    | error x => rw [e1] at e; cases e
    | ok x =>
      rw [e1] at e
      cases e2 : fillO sh tabs c' with
      | error y => rw [e2] at e; cases e
      | ok y =>
        rw [e2] at e
        cases e3 : fillL sh tabs ob' with
        | error z => rw [e3] at e; cases e
        | ok z =>
          rw [e3] at e
          cases e
          rw [fillL_bare a (fun t m => (ht t m).2.2) e1, fillO_bare b (fun t e => (hc t e).2.2) e2, fillL_bare o (fun t m => (ho t m).2.2) e3]
/-- filled in, the bare one is the whole one again -/
theorem chk_bare {sh : Shp} {ix : List (Str × Str)} {S S' r : Stm} (st : StP TmD S) (b : BareS sh S S') (e : chk sh ix S' = .ok r) : r = S := by
  cases b with
  | ask a b o => exact chk_ask st a b o e
  | same =>
    cases S with
    | ask how ts tabs c ob fi => exact chk_ask st (pw_refl Bare.refl ts) (BareO.refl c) (pw_refl Bare.refl ob) e
    | word w => cases e; rfl
    | table n fs =>
      have e : (if n ∈ sh.map (·.1) then .error (some n) else match goA (fun _ => false) [] fs with | some f => .error (some f) | none => .ok (.table n fs)) = Except.ok r := e
      by_cases c : n ∈ sh.map (·.1)
      · rw [if_pos c] at e; cases e
      · rw [if_neg c] at e
        cases e0 : goA (fun _ => false) [] fs with
        | some x => rw [e0] at e; cases e
        | none => rw [e0] at e; cases e; rfl
    | index n f =>
      have e : (match ixErr sh ix n f with | some e => .error (some e) | none => .ok (.index n f)) = Except.ok r := e
      cases e0 : ixErr sh ix n f with
      | some x => rw [e0] at e; cases e
      | none => rw [e0] at e; cases e; rfl
    | put n ns =>
      have e : (if n ∉ sh.map (·.1) then .error (some n) else if ns.length ≠ (flds1 sh n).length then .error none else .ok (.put n ns)) = Except.ok r := e
      by_cases c : n ∉ sh.map (·.1)
      · rw [if_pos c] at e; cases e
      · rw [if_neg c] at e
        by_cases c2 : ns.length ≠ (flds1 sh n).length
        · rw [if_pos c2] at e; cases e
        · rw [if_neg c2] at e; cases e; rfl
    | strike n c =>
      have e : (if n ∉ sh.map (·.1) then .error (some n) else match fillO sh [n] c with | .error e => .error (some e) | .ok c' => .ok (.strike n c')) = Except.ok r := e
      by_cases h : n ∉ sh.map (·.1)
      · rw [if_pos h] at e; cases e
      · rw [if_neg h] at e
        cases e2 : fillO sh [n] c with
        | error y => rw [e2] at e; cases e
        | ok y => rw [e2] at e; cases e; rw [fillO_bare (BareO.refl c) (fun t e => (st.2 t e).2.2) e2]
    | set n ss c =>
      have e : (if n ∉ sh.map (·.1) then .error (some n) else match setF sh n [] ss with | .error e => .error (some e) | .ok ss' => match fillO sh [n] c with | .error e => .error (some e) | .ok c' => .ok (.set n ss' c')) = Except.ok r := e
      by_cases h : n ∉ sh.map (·.1)
      · rw [if_pos h] at e; cases e
      · rw [if_neg h] at e
        cases e1 : setF sh n [] ss with
        | error x => rw [e1] at e; cases e
        | ok x =>
          rw [e1] at e
          cases e2 : fillO sh [n] c with
          | error y => rw [e2] at e; cases e
          | ok y => rw [e2] at e; cases e; rw [setF_self (fun q m => (st.2.2.1 q m).2.2.2) e1, fillO_bare (BareO.refl c) (fun t e => (st.2.2.2 t e).2.2) e2]
/-- due is nothing: it is told -/
theorem due_ok {sh : Shp} {ix : List (Str × Str)} {S : Stm} (h : WordOk (chk sh ix S) sE) : ∃ r, chk sh ix S = .ok r := by
  cases e : chk sh ix S with
  | ok r => exact ⟨r, rfl⟩
  | error o =>
    rw [e] at h
    cases o with
    | none => exact absurd (show sE = sRow from h) (by decide +kernel)
    | some w => exact absurd h.1.symm h.2
/-- two that are one data are alike -/
theorem dp_ak {K : PySem.W.Frag} {H : Hp} : ∀ {n : Nat} {d : PyData} {v w : V}, Good n d → Dp K H v d → Dp K H w d → Ak K H n v w
  | 0, _, _, _, g, _, _ => g.elim
  | n + 1, .none, _, _, _, .non, .non => .inl ⟨rfl, rfl⟩
  | n + 1, .int _, _, _, _, .int _, .int _ => .inl ⟨rfl, rfl⟩
  | n + 1, .str _, _, _, _, .str _, .str _ => .inl ⟨rfl, rfl⟩
  | n + 1, .tuple ds, _, _, g, .tup (xs := xs) a b, .tup (xs := ys) a' b' => by
    have g : ds.length ≤ 1000 ∧ ∀ d ∈ ds, Good n d := g
    refine .inr ⟨_, _, xs, ys, rfl, rfl, .inl ⟨a, a'⟩, by have := dpa_len b; omega, ?_⟩
    have go : ∀ {ds : List PyData} {xs ys : List V}, (∀ d ∈ ds, Good n d) → DpAll K H xs ds → DpAll K H ys ds → Paired (Ak K H n) xs ys := by
      intro ds
      induction ds with
      | nil => intro xs ys _ h1 h2; cases h1; cases h2; exact .nil
      | cons d ds ih =>
        intro xs ys hg h1 h2
        cases h1 with
        | cons c1 r1 => cases h2 with
          | cons c2 r2 => exact .cons (dp_ak (hg d List.mem_cons_self) c1 c2) (ih (fun e m => hg e (List.mem_cons_of_mem _ m)) r1 r2)
    exact go g.2 b b'
  | n + 1, .bool _, _, _, g, _, _ => g.elim
  | n + 1, .list _, _, _, g, _, _ => g.elim
theorem tmb_of {t : Tr} (h : TmD t) : TmB t := ⟨h.1, h.2.1⟩
theorem tmb_bare {sh : Shp} {ts : List Str} {t t' : Tr} (b : Bare sh ts t t') (h : TmD t) : TmB t' := ⟨b.wn.1 h.1, by rw [b.wn.2]; exact h.2.1⟩
theorem pw_all {α : Type} {R : α → α → Prop} {P Q : α → Prop} (m : ∀ x y, R x y → P x → Q y) : ∀ {xs ys : List α}, Paired R xs ys → (∀ x ∈ xs, P x) → (∀ y ∈ ys, Q y) ∧ ys.length = xs.length
  | _, _, .nil, _ => ⟨fun _ z => (nomatch z), rfl⟩
  | x :: xs, y :: ys, .cons a b, h => by
    obtain ⟨p, q⟩ := pw_all m b fun z mz => h z (List.mem_cons_of_mem _ mz)
    refine ⟨fun z mz => ?_, congrArg (· + 1) q⟩
    rcases List.mem_cons.mp mz with rfl | mz
    · exact m _ _ a (h x List.mem_cons_self)
    · exact p z mz
theorem stp_bare {sh : Shp} {S S' : Stm} (st : StP TmD S) (nw : notWord S) (b : BareS sh S S') : StP TmB S' ∧ notWord S' := by
  cases b with
  | same => exact ⟨st.mono fun _ h => tmb_of h, nw⟩
  | ask a b o =>
    obtain ⟨hh, t3, o3, ht, ho, hc, b0, b3, hb⟩ := st
    obtain ⟨a1, a2⟩ := pw_all (P := TmD) (Q := TmB) (fun _ _ h => tmb_bare h) a ht
    obtain ⟨o1, o2⟩ := pw_all (P := TmD) (Q := TmB) (fun _ _ h => tmb_bare h) o ho
    refine ⟨⟨hh, by rw [a2]; exact t3, by rw [o2]; exact o3, a1, o1, fun t' e => ?_, b0, b3, hb⟩, fun x e => nomatch e⟩
    rename_i c c' _
    cases c with
    | none => rw [show c' = none from b] at e; cases e
    | some t =>
      obtain ⟨t2, e2, b2⟩ := b
      rw [e2] at e
      obtain rfl := Option.some.inj e
      exact tmb_bare b2 (hc t rfl)
/-- statements need no more than this to be looked at by checked -/
theorem wns_of {S : Stm} (st : StP TmB S) : WnS 6 S := by
  have o : ∀ {c : Option Tr}, (∀ t, c = some t → TmB t) → WnO 6 c := fun h t e => ⟨(h t e).1, by have := (h t e).2; omega, by have := (h t e).2; omega⟩
  have l : ∀ {ts : List Tr}, ts.length ≤ 3 → (∀ t ∈ ts, TmB t) → WnL 6 ts := fun l h => ⟨by omega, fun t m => ⟨(h t m).1, by have := (h t m).2; omega, by have := (h t m).2; omega⟩⟩
  cases S with
  | table n fs => exact ⟨st.1.1, fun f m => (st.2.1 f m).1, by have := st.2.2; omega⟩
  | index n f => exact ⟨st.1.1, st.2.1, st.1.2.1, st.2.2.1⟩
  | put n ns => exact st.1.1
  | set n ss c => exact ⟨st.1.1, by have := st.2.1; omega, fun q m => ⟨(st.2.2.1 q m).1.1, (st.2.2.1 q m).2.1, by have := (st.2.2.1 q m).2.2; omega, by have := (st.2.2.1 q m).2.2; omega⟩, o st.2.2.2⟩
  | strike n c => exact ⟨st.1.1, o st.2⟩
  | ask how ts tabs c ob fi =>
    obtain ⟨hh, t3, o3, ht, ho, hc, b0, b3, hb⟩ := st
    exact ⟨l t3 ht, fun t m => (hb t m).1, by omega, o hc, l o3 ho⟩
  | word w => exact st
end GS

set_option linter.all false
set_option maxHeartbeats 4000000
namespace GS
open PySem L2 HX TH LamX NdefX
open K06 hiding gn sa1 sif cb1 and2 or2 pw_mono Txt Cal
theorem sub_addW {cs : List (Addr × Obj)} {H : Hp} (n : CsNone cs H) : subC cs (addC cs H) = H := by
  funext b
  cases e : cs.lookup b with
  | some o => rw [subC_in e, n b o e]
  | none => rw [subC_out e, addC_out e]
theorem opened_noneW {X : Cx} {σ : L2.St} {H : Hp} {cs : List (Addr × Obj)} (O : Opened X σ H cs) : CsNone cs H := fun b o e => by
  obtain ⟨pins, s, I, h⟩ := O
  exact (csAt_cells I h b o e).2
/-- _law_word(lambda: ..), the lambda made at H1 -/
theorem te_wo1 {K : PySem.W.Frag} {CN CR : Addr} {X : Cx} {k : Nat} {σ : L2.St} {H1 : Hp} {Q : VK} {f : Addr} {N : List Str} {js : List Nat} {ds : List V} {tb : XK → TE} {cs : List (Addr × Obj)} (O : Opened X σ H1 cs) (l : Lamb X k H1 f N js ds tb)
    (h : ∀ (Q' : VK) (E' : XK), (∀ v H2, Q (.str sE) H2 → Q' v H2) → (∀ (n : Str) (dx : Addr) H2, H2 dx = some (.xd [("word", .str n)]) → Q (.str n) H2 → E' (.ref CN) (some dx) H2) → (∀ H2, Q (.str sRow) H2 → E' (.ref CR) none H2) → tb E' (startF N ds (js.map (slotAt σ))) H1 Q') (hK : X.K = K := by rfl) :
    spWo X.prog X.w X.K X.mg X.base (k + 1) CN CR [V.ref f] (addC cs H1) (fun v H2 => CsIn cs H2 → Q v (subC cs H2)) E0 := by
  subst hK
  refine ⟨f, _, fun cls d Hc => ∃ H2, Hc = addC cs H2 ∧ CsNone cs H2 ∧ ((∃ (n : Str) (dx : Addr), cls = .ref CN ∧ d = some dx ∧ H2 dx = some (.xd [("word", .str n)]) ∧ Q (.str n) H2) ∨ (cls = .ref CR ∧ d = none ∧ Q (.str sRow) H2)), rfl, l.thunk O, fun Qb hQ ci => ?_, fun cls d Hc ⟨H2, e, nn, q⟩ => ?_⟩
  · rw [sub_addW (opened_noneW O)]
    refine h _ _ (fun v H2 q n => hQ _ _ fun _ => ?_) (fun n dx H2 e q nn => ⟨H2, rfl, nn, .inl ⟨n, dx, rfl, rfl, e, q⟩⟩) fun H2 q nn => ⟨H2, rfl, nn, .inr ⟨rfl, rfl, q⟩⟩
    rw [sub_addW n]
    exact q
  · subst e
    rcases q with ⟨n, dx, q1, q2, q3, q4⟩ | ⟨q1, q2, q4⟩
    · have o : cs.lookup dx = none := by
        cases z : cs.lookup dx with
        | some u => rw [nn dx u z] at q3; cases q3
        | none => rfl
      refine .inl ⟨n, dx, q1, q2, by rw [addC_out o]; exact q3, fun _ => ?_⟩
      rw [sub_addW nn]
      exact q4
    · refine .inr ⟨q1, q2, fun _ => ?_⟩
      rw [sub_addW nn]
      exact q4
theorem te_wordL {K : PySem.W.Frag} {CN CR : Addr} {X : Cx} {k : Nat} {T : List (Addr × Str)} {N : List Str} {js : List Nat} {tb : XK → TE} {σ : L2.St} {H : Hp} {Q : VK} {P : Program} {w : World} {mg : Str → Option Value} {base : Heap} (hT : Tabs T H)
    (h : ∀ (f : Addr) H1, ExtN H H1 → (∀ b, H1 b = Option.none → H b = Option.none) → Tabs T H1 → ∀ (Q' : VK) (E' : XK), (∀ v H2, Q (.str sE) H2 → Q' v H2) → (∀ (n : Str) (dx : Addr) H2, H2 dx = some (.xd [("word", .str n)]) → Q (.str n) H2 → E' (.ref CN) (some dx) H2) → (∀ H2, Q (.str sRow) H2 → E' (.ref CR) none H2) → tb E' (startF N [] (js.map (slotAt σ))) H1 Q')
    (h1 : X.prog = P := by rfl) (h2 : X.w = w := by rfl) (h3 : X.K = K := by rfl) (h4 : X.mg = mg := by rfl) (h5 : X.base = base := by rfl) : tCallC X (spWo P w K mg base (k + 1) CN CR) [] E0 (tCons (tLam0 X k T N js tb) tNil) σ H Q := by
  subst h1 h2 h3 h4 h5
  exact ⟨hT, fun f H1 e nn t f0 l cs' O => te_wo1 O l (h f H1 e nn t)⟩
/-- where the lambda asks checked: the word that is due -/
theorem word_due {K : PySem.W.Frag} {CN CR : Addr} {N : Nat} {H : Hp} {p d q : Addr} {sh : Shp} {ix : List (Str × Str)} {S : Stm} {Q' : VK} {E' : XK} {R : Str → Hp → Prop} (hS : SmAt K H p S) (wS : WnS N S) (Sh : ShapesAt K H d sh) (Ix : IxAt K H q ix) (wo : WordOk (chk sh ix S) (dueS sh ix S))
    (k : ∀ H2, Same H H2 → R (dueS sh ix S) H2) (k1 : ∀ v H2, R sE H2 → Q' v H2) (k2 : ∀ (n : Str) (dx : Addr) H2, H2 dx = some (.xd [("word", .str n)]) → R n H2 → E' (.ref CN) (some dx) H2) (k3 : ∀ H2, R sRow H2 → E' (.ref CR) none H2) : spCh K CN CR N [.ref p, .ref d, .ref q] H Q' E' := by
  refine ⟨p, d, q, sh, ix, S, rfl, hS, wS, Sh, Ix, fun r e p' H' s _ => k1 _ _ ?_, fun e ee dx H' h0 h1 s => k2 e dx H' h1 ?_, fun ee H' s => k3 H' ?_⟩
  · rw [e] at wo
    have := k H' s
    rw [show dueS sh ix S = sE from wo] at this
    exact this
  · rw [ee] at wo
    have := k H' s
    rw [wo.1] at this
    exact this
  · rw [ee] at wo
    have := k H' s
    rw [show dueS sh ix S = sRow from wo] at this
    exact this
end GS

set_option linter.all false
set_option maxHeartbeats 4000000
namespace GS
open PySem L2 HX
open K06 hiding gn sa1 sif cb1 and2 or2 pw_mono Txt Cal
theorem nd_shapes {sh : Shp} (I : IsShapes sh) (t : Str) : (flds1 sh t).Nodup := by
  unfold flds1
  cases e : sh.lookup t with
  | none => exact List.nodup_nil
  | some fs =>
    have go : ∀ {l : List (Str × List Str)}, l.lookup t = some fs → ∃ q ∈ l, q.2 = fs := by
      intro l
      induction l with
      | nil => intro h; cases h
      | cons x l ih =>
        intro h
        obtain ⟨a, b⟩ := x
        rw [List.lookup] at h
        cases c : (t == a) with
        | true => rw [c] at h; exact ⟨_, List.mem_cons_self, Option.some.inj h⟩
        | false =>
          rw [c] at h
          obtain ⟨q, m, e⟩ := ih h
          exact ⟨q, List.mem_cons_of_mem _ m, e⟩
    obtain ⟨q, m, rfl⟩ := go e
    obtain ⟨k, _, _, ek⟩ := I.fs q m
    show q.2.Nodup
    rw [ek]
    exact List.Sublist.nodup (List.take_sublist _ _) (by decide +kernel)
section
variable {P : Program} {w : World} {K : PySem.W.Frag} {mg : Str → Option Value} {base : Heap}
/-- alike, at any depth -/
theorem all_ak {f : Addr} {fd : FuncData} (F : Fun K "_law_alike" "_law_alike" s_l_alike f fd) (T : GS.Txt mg) (g : mg "_law_alike" = some (.ref f)) (k : PySem.W.keepIn K (.ref f) = true) (b : Binds K fd ["_law_found", "_law_due_here"] []) : ∀ n : Nat, FnOk P w K mg base CX0 (n + 1) f fd ["_law_found", "_law_due_here"] (spAk K n)
  | 0 => ok_ak F T fun m e => nomatch e
  | n + 1 => ok_ak F T fun m e => by
    obtain rfl := Nat.succ.inj e
    exact ⟨g, k, b, all_ak F T g k b n⟩
/-- one statement at two places -/
theorem st_ak {H : Hp} {p q : Addr} {S : Stm} (st : StP TmB S) (h1 : SmAt K H p S) (h2 : SmAt K H q S) : Ak K H 11 (.ref p) (.ref q) := dp_ak (good_s st) (dp_st h1) (dp_st h2)
end
end GS

set_option linter.all false
set_option maxHeartbeats 4000000
namespace GS
open PySem L2 HX TH LamX NdefX
open K06 hiding gn sa1 sif cb1 and2 or2 pw_mono Txt Cal
theorem passN {P : Program} {w : World} {K : PySem.W.Frag} {mg : Str → Option Value} {base : Heap} {N : List Str} {F : NF} {f : Addr} {A : Around} {outer : List Env} {s : Shared} {H : Hp} {E : XK} : Passes (L2.CX P w) (ncx (L2.CX P w) P w K mg base N F f A outer s H E) E :=
  passes_call (takes_of rfl rfl rfl rfl) fun _ _ _ _ h => h
theorem xTt {K : PySem.W.Frag} {H H' : Hp} (e : ExtN H H') {t : Addr} {xs : List V} (h : SqT K H t xs) : SqT K H' t xs := by
  rcases h with (h | ⟨o, h⟩) | h
  · exact .inl (.inl (e _ _ h fun ps z => by cases z))
  · exact .inl (.inr ⟨o, e _ _ h fun ps z => by cases z⟩)
  · exact .inr h
theorem SmAt.ext {K : PySem.W.Frag} {H H' : Hp} (e : ExtN H H') {p : Addr} {S : Stm} (h : SmAt K H p S) : SmAt K H' p S := h.mono fun _ _ q => xTt e q
theorem ShapesAt.ext {K : PySem.W.Frag} {H H' : Hp} (e : ExtN H H') {d : Addr} {sh : Shp} (h : ShapesAt K H d sh) : ShapesAt K H' d sh := by
  obtain ⟨kvs, a, b⟩ := h
  exact ⟨kvs, e _ _ a (fun _ z => by cases z), pw_imp (fun _ _ ⟨q, t, u, v⟩ => ⟨q, t, u, xTt e v⟩) b⟩
/-- g(lambda: ..) of whatever frame -/
def tWordV (P : Program) (w : World) (K : PySem.W.Frag) (mg : Str → Option Value) (base : Heap) (k : Nat) (CN CR : Addr) (T : List (Addr × Str)) (N : List Str) (js : List Nat) (tb : XK → TE) : TE := fun σ H Q =>
  ∀ X : Cx, X.prog = P → X.w = w → X.K = K → X.mg = mg → X.base = base → tCallC X (spWo P w K mg base (k + 1) CN CR) [] E0 (tCons (tLam0 X k T N js tb) tNil) σ H Q
theorem pe_wordV {X : Cx} {P : Program} {w : World} {K : PySem.W.Frag} {mg : Str → Option Value} {base : Heap} {k : Nat} {CN CR : Addr} {T : List (Addr × Str)} {N : List Str} {js : List Nat} {tb : XK → TE} {e : Expr} (h : PE X e (tCallC X (spWo P w K mg base (k + 1) CN CR) [] E0 (tCons (tLam0 X k T N js tb) tNil)))
    (h1 : X.prog = P := by rfl) (h2 : X.w = w := by rfl) (h3 : X.K = K := by rfl) (h4 : X.mg = mg := by rfl) (h5 : X.base = base := by rfl) : PE X e (tWordV P w K mg base k CN CR T N js tb) :=
  ⟨fun pins s σ H Q I q => h.run pins s σ H Q I (q X h1 h2 h3 h4 h5)⟩
/-- where the lambda asks checked, by two arguments or three -/
theorem word_due' {K : PySem.W.Frag} {CN CR : Addr} {N : Nat} {H : Hp} {p d q : Addr} {sh : Shp} {ix : List (Str × Str)} {S : Stm} {Q' : VK} {E' : XK} {R : Str → Hp → Prop} {due : Str} (hS : SmAt K H p S) (wS : WnS N S) (Sh : ShapesAt K H d sh) (Ix : IxAt K H q ix) (wo : WordOk (chk sh ix S) due)
    (k : ∀ H2, Same H H2 → R due H2) (k1 : ∀ v H2, R sE H2 → Q' v H2) (k2 : ∀ (n : Str) (dx : Addr) H2, H2 dx = some (.xd [("word", .str n)]) → R n H2 → E' (.ref CN) (some dx) H2) (k3 : ∀ H2, R sRow H2 → E' (.ref CR) none H2) : spCh K CN CR N [.ref p, .ref d, .ref q] H Q' E' := by
  refine ⟨p, d, q, sh, ix, S, rfl, hS, wS, Sh, Ix, fun r e p' H' s _ => k1 _ _ ?_, fun e ee dx H' h0 h1 s => k2 e dx H' h1 ?_, fun ee H' s => k3 H' ?_⟩
  · rw [e] at wo
    have := k H' s
    rw [show due = sE from wo] at this
    exact this
  · rw [ee] at wo
    have := k H' s
    rw [wo.1] at this
    exact this
  · rw [ee] at wo
    have := k H' s
    rw [show due = sRow from wo] at this
    exact this
abbrev fl (t f : String) : Tr := .field (Str.ofString t) (Str.ofString f)
def shK : Shp := [(Str.ofString "ta", [Str.ofString "k", Str.ofString "x"]), (Str.ofString "tb", [Str.ofString "k", Str.ofString "y"])]
def kn1 : Stm := .ask (Str.ofString "pick") [fl "" "x"] [Str.ofString "ta", Str.ofString "tb", Str.ofString "tb"] none [] none
def kn2 : Stm := .ask (Str.ofString "pick") [fl "tb" "k"] [Str.ofString "ta"] none [] none
def kn3 : Stm := .ask (Str.ofString "pick") [fl "" "q"] [Str.ofString "ta"] none [fl "" "zz"] none
def kn4 : Stm := .ask (Str.ofString "pick") [fl "" "x"] [Str.ofString "ta"] (some (.bin (Str.ofString "=") (fl "" "q") (fl "" "x"))) [fl "" "zz"] none
def kns : List (Stm × Str) := [(kn1, Str.ofString "tb"), (kn2, Str.ofString "tb"), (kn3, Str.ofString "q"), (kn4, Str.ofString "q")]
theorem kns_word : ∀ q ∈ kns, WordOk (chk shK [] q.1) q.2 := by
  intro q h
  simp only [kns, List.mem_cons, List.not_mem_nil, or_false] at h
  rcases h with rfl | rfl | rfl | rfl
  · exact ⟨by decide +kernel, by decide +kernel⟩
  · exact ⟨by decide +kernel, by decide +kernel⟩
  · exact ⟨by decide +kernel, by decide +kernel⟩
  · exact ⟨by decide +kernel, by decide +kernel⟩
/-- te makes what R says, nothing else changed -/
def MkS (σ : L2.St) (H0 : Hp) (te : TE) (R : Hp → V → Prop) : Prop := ∀ (H : Hp) (Q : VK), Same H0 H → (∀ v H', Same H H' → R H' v → Q v H') → te σ H Q
def StR (R : Hp → V → Prop) : Prop := ∀ (H H' : Hp) (v : V), Same H H' → R H v → R H' v
section
variable {K : PySem.W.Frag} {σ : L2.St} {H0 : Hp} {t1 t2 t3 t4 : TE} {R1 R2 R3 R4 : Hp → V → Prop}
def ITs (K : PySem.W.Frag) (ts : List Tr) : Hp → V → Prop := fun H v => ∃ q, v = .ref q ∧ TsAt K H q ts
def ISs (K : PySem.W.Frag) (ts : List Str) : Hp → V → Prop := fun H v => ∃ q, v = .ref q ∧ SqT K H q (ts.map V.str)
theorem its_st {ts : List Tr} : StR (ITs K ts) := fun _ _ _ s ⟨q, e, h⟩ => ⟨q, e, h.mono fun _ _ z => (KeepN.of s).t z⟩
theorem iss_st {ts : List Str} : StR (ISs K ts) := fun _ _ _ s ⟨q, e, h⟩ => ⟨q, e, (KeepN.of s).t h⟩
theorem mk_iss {ts : List Str} {t : TA} (ht : ∀ H Q, Q (ts.map V.str) H → t σ H Q) (l : (ts.map V.str).length ≤ sizeLine) : MkS σ H0 (tTup t) (ISs K ts) := fun H Q s k => ht _ _ ⟨l, fun p hp => k _ _ (same_new hp) ⟨p, rfl, SqT.of upd_same⟩⟩
theorem mk_one {te : TE} {t : Tr} (h : MkS σ H0 te fun H v => TrAt K H v t) : MkS σ H0 (tTup (tCons te tNil)) (ITs K [t]) := fun H Q s k => h H _ s fun v H' s' q =>
  ⟨by show 1 ≤ sizeLine; decide, fun p hp => k _ _ (s'.trans (same_new hp)) ⟨p, rfl, [v], SqT.of upd_same, .cons (TrAt.same (same_new hp) q) .nil⟩⟩
theorem mk_zero : MkS σ H0 (tTup tNil) (ITs K []) := fun H Q s k => ⟨by show 0 ≤ sizeLine; decide, fun p hp => k _ _ (same_new hp) ⟨p, rfl, [], SqT.of upd_same, .nil⟩⟩
theorem mk_field {t f : Str} : MkS σ H0 (tTup (tCons (tC (.str (Str.ofString "field"))) (tCons (tC (.str t)) (tCons (tC (.str f)) tNil)))) (fun H v => TrAt K H v (.field t f)) := fun H Q s k =>
  ⟨by show 3 ≤ sizeLine; decide, fun p hp => k _ _ (same_new hp) ⟨p, rfl, SqT.of upd_same⟩⟩
theorem mk_var {i : Nat} {v : V} {t : Tr} (e : σ[i]? = some (some v)) (h : TrAt K H0 v t) : MkS σ H0 (tVar i) (fun H v => TrAt K H v t) := fun H Q s k => ⟨v, e, k v H (Same.refl H) (TrAt.same s h)⟩
theorem mk_stm {p3 : Addr} {ts : List Tr} {tabs : List Str} {c : Option Tr} {ob : List Tr} (e : σ[1]? = some (some (.ref p3))) (h3 : SqT K H0 p3 [.str (Str.ofString "ask"), .str (Str.ofString "pick")])
    (m1 : MkS σ H0 t1 (ITs K ts)) (m2 : MkS σ H0 t2 (ISs K tabs)) (m3 : MkS σ H0 t3 (fun H v => OcAt K H v c)) (m4 : MkS σ H0 t4 (ITs K ob)) :
    MkS σ H0 (tOp (rCatA K) (tVar 1) (tTup (tCons t1 (tCons t2 (tCons t3 (tCons t4 (tCons (tC V.non) tNil))))))) (fun H v => ∃ p, v = .ref p ∧ SmAt K H p (.ask (Str.ofString "pick") ts tabs c ob none)) := fun H Q s k => by
  refine ⟨_, e, m1 H _ s fun v1 H1 s1 r1 => m2 H1 _ (s.trans s1) fun v2 H2 s2 r2 => m3 H2 _ ((s.trans s1).trans s2) fun v3 H3 s3 r3 => m4 H3 _ (((s.trans s1).trans s2).trans s3) fun v4 H4 s4 r4 => ?_⟩
  refine ⟨by show 5 ≤ sizeLine; decide, fun q hq => ⟨p3, q, _, _, rfl, rfl, (KeepN.of ((((s.trans s1).trans s2).trans s3).trans (s4.trans (same_new hq)))).t h3, SqT.of upd_same, by show 7 ≤ sizeLine; decide, fun z => (nomatch z), fun _ z => (nomatch z), fun _ _ p hp => ?_⟩⟩
  have s5 := (same_new (o := .tup [v1, v2, v3, v4, V.non]) hq).trans (same_new (o := .tup ([.str (Str.ofString "ask"), .str (Str.ofString "pick")] ++ [v1, v2, v3, v4, V.non])) hp)
  obtain ⟨a1, rfl, r1⟩ := its_st _ _ _ (s2.trans (s3.trans (s4.trans s5))) r1
  obtain ⟨a2, rfl, r2⟩ := iss_st _ _ _ (s3.trans (s4.trans s5)) r2
  obtain ⟨a4, rfl, r4⟩ := its_st _ _ _ s5 r4
  exact k _ _ (s1.trans (s2.trans (s3.trans (s4.trans s5)))) ⟨p, rfl, a1, a2, v3, a4, SqT.of upd_same, r1, r2, r3.mono (fun _ _ z => (KeepN.of (s4.trans s5)).t z), r4⟩
theorem te_pairM {H : Hp} {Q : VK} (s : Same H0 H) (st : StR R1) (m1 : MkS σ H0 t1 R1) (m2 : MkS σ H0 t2 R2) (st2 : StR R2) (k : ∀ v1 v2 p H', Same H H' → R1 H' v1 → R2 H' v2 → H' p = some (.tup [v1, v2]) → Q (.ref p) H') : tTup (tCons t1 (tCons t2 tNil)) σ H Q :=
  m1 H _ s fun v1 H1 s1 r1 => m2 H1 _ (s.trans s1) fun v2 H2 s2 r2 => ⟨by show 2 ≤ sizeLine; decide, fun p hp => k v1 v2 p _ (s1.trans (s2.trans (same_new hp))) (st _ _ _ (s2.trans (same_new hp)) r1) (st2 _ _ _ (same_new hp) r2) upd_same⟩
theorem te_lstM {H : Hp} {Q : VK} (s : Same H0 H) (st : StR R1) (m1 : MkS σ H0 t1 R1) (k : ∀ v p H', Same H H' → R1 H' v → H p = none → H' p = some (.lst [v]) → Q (.ref p) H') : tLst (tCons t1 tNil) σ H Q :=
  m1 H _ s fun v1 H1 s1 r1 => ⟨by show 1 ≤ sizeLine; decide, fun p hp => k v1 p _ (s1.trans (same_new hp)) (st _ _ _ (same_new hp) r1) (by
    cases e : H p with
    | none => rfl
    | some o => rw [s1 _ _ e] at hp; cases hp) upd_same⟩
theorem tr_st {t : Tr} : StR (fun H v => TrAt K H v t) := fun _ _ _ s h => TrAt.same s h
theorem sm_st {S : Stm} : StR (fun H v => ∃ p, v = .ref p ∧ SmAt K H p S) := fun _ _ _ s ⟨p, e, h⟩ => ⟨p, e, SmAt.same s h⟩
end
theorem wns_mono {N : Nat} {S : Stm} (h : WnS 6 S) : WnS (N + 6) S := by
  have o : ∀ {c : Option Tr}, WnO 6 c → WnO (N + 6) c := fun h t e => ⟨(h t e).1, (h t e).2.1, by have := (h t e).2.2; omega⟩
  have l : ∀ {ts : List Tr}, WnL 6 ts → WnL (N + 6) ts := fun h => ⟨h.1, fun t m => ⟨(h.2 t m).1, (h.2 t m).2.1, by have := (h.2 t m).2.2; omega⟩⟩
  cases S with
  | table n fs => exact h
  | index n f => exact h
  | put n ns => exact h
  | set n ss c => exact ⟨h.1, h.2.1, fun q m => ⟨(h.2.2.1 q m).1, (h.2.2.1 q m).2.1, (h.2.2.1 q m).2.2.1, by have := (h.2.2.1 q m).2.2.2; omega⟩, o h.2.2.2⟩
  | strike n c => exact ⟨h.1, o h.2⟩
  | ask how ts tabs c ob fi => exact ⟨l h.1, h.2.1, h.2.2.1, o h.2.2.2.1, l h.2.2.2.2⟩
  | word w => exact h
theorem fl_wn {t f : String} (h : (Nm (Str.ofString t) ∧ Nm (Str.ofString f)) ∧ Str.ofString f ≠ sE) : Wn (fl t f) ∧ (fl t f).depth ≤ 1000 ∧ (fl t f).depth < 6 := ⟨⟨h.1.1, h.1.2, h.2⟩, by show 0 ≤ 1000; decide, by show 0 < 6; decide⟩
theorem kns_wn : ∀ q ∈ kns, WnS 6 q.1 := by
  have fx := fl_wn (t := "") (f := "x") (by decide +kernel)
  have fq := fl_wn (t := "") (f := "q") (by decide +kernel)
  have fz := fl_wn (t := "") (f := "zz") (by decide +kernel)
  have fk := fl_wn (t := "tb") (f := "k") (by decide +kernel)
  have one : ∀ {t : Tr}, (Wn t ∧ t.depth ≤ 1000 ∧ t.depth < 6) → WnL 6 [t] := fun h => ⟨by show 1 ≤ 1000; decide, fun x m => by rw [List.mem_singleton.mp m]; exact h⟩
  have nil : WnL 6 [] := ⟨by show 0 ≤ 1000; decide, fun x m => nomatch m⟩
  intro q h
  simp only [kns, List.mem_cons, List.not_mem_nil, or_false] at h
  rcases h with rfl | rfl | rfl | rfl
  · exact ⟨one fx, by decide +kernel, by decide, fun t e => (nomatch e), nil⟩
  · exact ⟨one fk, by decide +kernel, by decide, fun t e => (nomatch e), nil⟩
  · exact ⟨one fq, by decide +kernel, by decide, fun t e => (nomatch e), one fz⟩
  · exact ⟨one fx, by decide +kernel, by decide, fun t e => by rw [← Option.some.inj e]; exact ⟨⟨by decide +kernel, fq.1, fx.1⟩, by decide +kernel, by decide +kernel⟩, one fz⟩
theorem ext_of {H H' : Hp} (s : Same H H') : ExtN H H' := fun b o h _ => s b o h
theorem tabs_keepN {Tt : List (Addr × Str)} {H H' : Hp} (t : Tabs Tt H) (k : KeepN H H') : Tabs Tt H' := fun p hp => by
  obtain ⟨ps, h1, h2, h3⟩ := t p hp
  refine ⟨ps, k _ _ (fun _ z => by cases z) h1, h2, fun pos cv hc => ?_⟩
  obtain ⟨c, e1, e2⟩ := h3 pos cv hc
  exact ⟨c, e1, k _ _ (fun _ z => by cases z) e2⟩
def spKn (Tt : List (Addr × Str)) : Sp := fun vs H Q _ => vs = [] ∧ Tabs Tt H ∧ ∀ H', ExtN H H' → Tabs Tt H' → Q (.bl true) H'
section
variable {P : Program} {w : World} {K : PySem.W.Frag} {mg : Str → Option Value} {base : Heap} {CN CR cK PK : Addr} {Tt : List (Addr × Str)}
theorem scKn : FnScope ["_law_shapes_here", "_law_head", "_law_bad", "_law_good", "_law_trees", "_law_tree"] [] (defScope s_l_known) := ⟨rfl, rfl, rfl, by decide +kernel, rfl, by decide +kernel, by decide +kernel⟩
theorem ok_kn {k N : Nat} {f fw fC tz : Addr} {fdw fdC : FuncData} {dsC : List Value} {kV doc pm ct oc : Value} {an od : Option Addr} {osl : Array (Option Value)}
    (lk : K.lookup f = some ⟨oc, od, .func (PySem.W.fnOf "_law_known" "_law_known" (defArgs s_l_known) (defBody s_l_known) (defScope s_l_known) .none kV doc pm an (.ref cK) ct), osl⟩) (hcd : PySem.W.codeIn K (.ref cK) "_law_known" = true) (TB : TabB base mg cK PK) (T : GS.Txt mg) (hm : (PK, ("_law_known.<locals>.<lambda>" : Str)) ∈ Tt) (hu : ∀ p ∈ Tt, p.1 = PK → p.2 = ("_law_known.<locals>.<lambda>" : Str))
    (Cwo : HX.Cal P w K mg base (k + 2) "_law_word" ["_law_call"] (spWo P w K mg base (k + 1) CN CR) fw fdw)
    (gCh : mg "checked" = some (.ref fC)) (kCh : PySem.W.keepIn K (.ref fC) = true) (bCh : Binds K fdC ["tree", "shapes", "indexes"] dsC) (vCh : Vals [.ref tz] dsC) (htz : ∀ H, SqT K H tz []) (GCh : FnOk P w K mg base (L2.CX P w) k fC fdC ["tree", "shapes", "indexes"] (spCh K CN CR (N + 6))) :
    FnOk P w K mg base CX0 (k + 3) f (PySem.W.fnOf "_law_known" "_law_known" (defArgs s_l_known) (defBody s_l_known) (defScope s_l_known) .none kV doc pm an (.ref cK) ct) [] (spKn Tt) := by
  refine fn_of lk hcd scKn (fun vs H Q E h => ?_) (fun A outer s H vs Q E hr h => ?_)
  · obtain ⟨rfl, _⟩ := h
    rfl
  · obtain ⟨rfl, hT, kk⟩ := h
    have hr8 : Room (k + 2) _ := hr
    suffices hh : ∃ t, PSs (cxOf CX0 P w K mg base ["_law_shapes_here", "_law_head", "_law_bad", "_law_good", "_law_trees", "_law_tree"] "_law_known" (defScope s_l_known) f (.ref cK) A outer s H E).nox (defBody s_l_known) t ∧ t { nx := fun _ H' => Q .non H', rt := Q } (L2.start ["_law_shapes_here", "_law_head", "_law_bad", "_law_good", "_law_trees", "_law_tree"] []) H by
      obtain ⟨t, h1, h2⟩ := hh
      exact ⟨t, h1.nox, h2⟩
    refine ⟨_, (pss_cons (ps_asg (pe_tup (pa_cons (pe_disp (pps_cons pe_str (pe_tup (pa_cons pe_str (pa_cons pe_str pa_nil))) (pps_cons pe_str (pe_tup (pa_cons pe_str (pa_cons pe_str pa_nil))) pps_nil)) (by rfl) (by rfl) (fun z => by cases z) (by decide)) (pa_cons (pe_tup (pa_cons pe_str (pa_cons pe_str pa_nil))) pa_nil))) (RK.pgTup (K := K) (n := 2) rfl (pgs_cons (pg_name (i := 0) scKn.nd rfl (Or.inr rfl)) (pgs_cons (pg_name (i := 1) scKn.nd rfl (Or.inl rfl)) pgs_nil))))
      (pss_cons (ps_asg (pe_tup (pa_cons (pe_tup (pa_cons pe_str (pa_cons pe_str (pa_cons pe_str pa_nil)))) (pa_cons (pe_tup (pa_cons pe_str (pa_cons pe_str (pa_cons pe_str pa_nil)))) pa_nil))) (RK.pgTup (K := K) (n := 2) rfl (pgs_cons (pg_name (i := 2) scKn.nd rfl (Or.inl rfl)) (pgs_cons (pg_name (i := 3) scKn.nd rfl (Or.inl rfl)) pgs_nil))))
      (pss_cons (ps_set (i := 4) scKn.nd rfl (Or.inl rfl) (pe_lst (pa_cons (pe_op (RK.catT (K := K)) (pv 1) (pe_tup (pa_cons (pe_tup (pa_cons (pv 3) pa_nil)) (pa_cons (pe_tup (pa_cons pe_str (pa_cons pe_str (pa_cons pe_str pa_nil)))) (pa_cons pe_non (pa_cons (pe_tup pa_nil) (pa_cons pe_non pa_nil))))))) pa_nil)))
      (pss_cons (ps_expr (pe_bm PySem.F.plainAttrs_list PySem.F.slot_list_append PySem.F.type_list_append mt_append (pv 4) (pa_cons (pe_op (RK.catT (K := K)) (pv 1) (pe_tup (pa_cons (pe_tup (pa_cons (pe_tup (pa_cons pe_str (pa_cons pe_str (pa_cons pe_str pa_nil)))) pa_nil)) (pa_cons (pe_tup (pa_cons pe_str pa_nil)) (pa_cons pe_non (pa_cons (pe_tup pa_nil) (pa_cons pe_non pa_nil))))))) pa_nil)))
      (pss_cons (ps_set (i := 4) scKn.nd rfl (Or.inl rfl) (pe_op op_cat (pv 4) (pe_lst (pa_cons (pe_op (RK.catT (K := K)) (pv 1) (pe_tup (pa_cons (pe_tup (pa_cons (pv 2) pa_nil)) (pa_cons (pe_tup (pa_cons pe_str pa_nil)) (pa_cons pe_non (pa_cons (pe_tup (pa_cons (pe_tup (pa_cons pe_str (pa_cons pe_str (pa_cons pe_str pa_nil)))) pa_nil)) (pa_cons pe_non pa_nil))))))) pa_nil))))
      (pss_cons (ps_set (i := 4) scKn.nd rfl (Or.inl rfl) (pe_op op_cat (pv 4) (pe_lst (pa_cons (pe_op (RK.catT (K := K)) (pv 1) (pe_tup (pa_cons (pe_tup (pa_cons (pv 3) pa_nil)) (pa_cons (pe_tup (pa_cons pe_str pa_nil)) (pa_cons (pe_tup (pa_cons pe_str (pa_cons (pv 2) (pa_cons (pv 3) pa_nil)))) (pa_cons (pe_tup (pa_cons (pe_tup (pa_cons pe_str (pa_cons pe_str (pa_cons pe_str pa_nil)))) pa_nil)) (pa_cons pe_non pa_nil))))))) pa_nil))))
      (pss_one (ps_ret (pe_cmpR (RK.eqD (K := K) hr.units) (LCX.pe_lcV (E := E0) (W0 := fun _ _ _ _ => False) (own := [("_law_tree", 5)]) L2.takes0 (fun _ _ _ _ h => h) rfl rfl (fun _ => rfl) rfl scKn.nd (RK.piL (K := K) (pv 4)) (blkOk_by (N := ["_law_shapes_here", "_law_head", "_law_bad", "_law_good", "_law_trees", "_law_tree"]) (sc := defScope s_l_known) (by decide +kernel)) (fun _ _ _ _ _ _ => (pg_name (i := 5) scKn.nd rfl (Or.inr rfl))) (fun _ _ _ _ _ _ hcl => (pe_wordV (TH.pe_callV (E := E0) Cwo.G (hr8.mono (Nat.le_refl _)) (by rfl) Cwo.g Cwo.kp Cwo.b .nil hcl (pa_cons (TH.pe_lam0 (k := k) (T := Tt) (c := cK) (P := PK) (N := ["_law_tree", "_law_shapes_here"]) (js := [5, 0]) TB rfl hm hu (nscope_by (by decide +kernel)) (by show ndefB (relS _ (defScope s_l_known)) _ _ = true; decide +kernel) rfl rfl (fun _ _ _ => rfl) (fun f9 c9 A9 o9 s9 H9 E9 r9 => (pe_call GCh (r9.mono (Nat.le_refl _)) (by rfl) gCh kCh bCh vCh passN (pa_cons (pe_var (i := 0) rfl (.inr (.inr rfl))) (pa_cons (pe_var (i := 1) rfl (.inr (.inr rfl))) pa_nil))))) pa_nil))))) (pe_lst (pa_cons pe_str (pa_cons pe_str (pa_cons pe_str (pa_cons pe_str pa_nil))))) (nomark _)))))))))), ?_⟩
    have l2 : (2 : Nat) ≤ sizeLine := by decide
    have l3 : (3 : Nat) ≤ sizeLine := by decide
    refine sa1 (fun d hd => ⟨l2, fun p1 h1 => ⟨l2, fun p2 h2 => ⟨same_new h2 _ _ (same_new h1 _ _ upd_same), [(Sum.inr (Str.ofString "ta"), .ref p1), (Sum.inr (Str.ofString "tb"), .ref p2)], rfl, by show 2 ≤ 15; decide, ?_⟩⟩⟩)
    rw [show mergeK [] [((Sum.inr (Str.ofString "ta") : Key), V.ref p1), (Sum.inr (Str.ofString "tb"), .ref p2)] = [(Sum.inr (Str.ofString "ta"), .ref p1), (Sum.inr (Str.ofString "tb"), .ref p2)] from rfl]
    have sd := (same_new (o := .dK []) hd).trans ((same_new h1).trans (same_new (o := .tup [V.str (Str.ofString "k"), V.str (Str.ofString "y")]) h2))
    have e1 := same_new (o := .tup [V.str (Str.ofString "k"), V.str (Str.ofString "y")]) h2 _ _ (upd_same (H := upd H d (.dK [])) (a := p1) (o := .tup [V.str (Str.ofString "k"), V.str (Str.ofString "x")]))
    have e2 := upd_same (H := upd (upd H d (.dK [])) p1 (.tup [V.str (Str.ofString "k"), V.str (Str.ofString "x")])) (a := p2) (o := .tup [V.str (Str.ofString "k"), V.str (Str.ofString "y")])
    have n1 : p1 ≠ d := fun z => by rw [z, upd_same] at h1; cases h1
    have n2 : p2 ≠ d := fun z => by rw [z, upd_ne (Ne.symm n1), upd_same] at h2; cases h2
    generalize upd (upd (upd H d (.dK [])) p1 (.tup [V.str (Str.ofString "k"), V.str (Str.ofString "x")])) p2 (.tup [V.str (Str.ofString "k"), V.str (Str.ofString "y")]) = H1 at sd e1 e2 ⊢
    have s1 : Same H (upd H1 d (.dK [(Sum.inr (Str.ofString "ta"), .ref p1), (Sum.inr (Str.ofString "tb"), .ref p2)])) := fun b o e => by rw [upd_ne (ne_of_none e hd)]; exact sd b o e
    have S1 : ShapesAt K (upd H1 d (.dK [(Sum.inr (Str.ofString "ta"), .ref p1), (Sum.inr (Str.ofString "tb"), .ref p2)])) d shK :=
      ⟨_, upd_same, .cons ⟨rfl, p1, rfl, SqT.of (by rw [upd_ne n1]; exact e1)⟩ (.cons ⟨rfl, p2, rfl, SqT.of (by rw [upd_ne n2]; exact e2)⟩ .nil)⟩
    generalize upd H1 d (.dK [(Sum.inr (Str.ofString "ta"), .ref p1), (Sum.inr (Str.ofString "tb"), .ref p2)]) = H2 at s1 S1 ⊢
    refine ⟨l2, fun p3 h3 => ⟨l2, fun p4 h4 => ⟨p4, _, rfl, SqT.of upd_same, rfl, ⟨_, _, rfl, gn ⟨_, _, rfl, gn ⟨rfl, ?_⟩⟩⟩⟩⟩⟩
    have a3 := same_new (o := .tup [.ref d, .ref p3]) h4 _ _ (upd_same (H := H2) (a := p3) (o := .tup [V.str (Str.ofString "ask"), V.str (Str.ofString "pick")]))
    have s2 := (same_new (o := .tup [V.str (Str.ofString "ask"), V.str (Str.ofString "pick")]) h3).trans (same_new (o := .tup [.ref d, .ref p3]) h4)
    generalize upd (upd H2 p3 (.tup [V.str (Str.ofString "ask"), V.str (Str.ofString "pick")])) p4 (.tup [.ref d, .ref p3]) = H3 at a3 s2 ⊢
    have s3 := s1.trans s2
    have S3 := GS.ShapesAt.same s2 S1
    -- bad, good
    refine sa1 (te_pairM (H0 := H3) (Same.refl _) tr_st (mk_field (K := K) (t := Str.ofString "") (f := Str.ofString "q")) (mk_field (K := K) (t := Str.ofString "") (f := Str.ofString "x")) tr_st fun v2 v3 p7 H7 s6 B G e7 => ⟨p7, _, rfl, SqT.of e7, rfl, ⟨_, _, rfl, gn ⟨_, _, rfl, gn ⟨rfl, ?_⟩⟩⟩⟩)
    have a3 := s6 _ _ a3
    have S7 := GS.ShapesAt.same s6 S3
    have s7 := s3.trans s6
    refine at_stD (σ' := [some (.ref d), some (.ref p3), some v2, some v3, none, none]) rfl ?_
    have c3 : ∀ {σ H}, MkS σ H (tC V.non) (fun H v => OcAt K H v none) := fun H Q s k => k _ _ (Same.refl _) rfl
    refine sa1 (te_lstM (H0 := H7) (Same.refl _) sm_st (mk_stm (p3 := p3) rfl (SqT.of a3) (mk_one (mk_var rfl G)) (mk_iss (ts := [Str.ofString "ta", Str.ofString "tb", Str.ofString "tb"]) (fun _ _ z => z) l3) c3 mk_zero) fun v l H8 s8 r8 nl el => gn ?_)
    obtain ⟨q1, rfl, r8⟩ := r8
    refine at_stD (σ' := [some (.ref d), some (.ref p3), some v2, some v3, some (.ref l), none]) rfl ?_
    refine ⟨_, rfl, .inl ⟨rfl, _, SqL.of el⟩, mk_stm (K := K) (H0 := H8) (p3 := p3) rfl (SqT.of (s8 _ _ a3)) (mk_one (mk_field (t := Str.ofString "tb") (f := Str.ofString "k"))) (mk_iss (ts := [Str.ofString "ta"]) (fun _ _ z => z) (by show 1 ≤ sizeLine; decide)) c3 mk_zero H8 _ (Same.refl _) fun v9 H9 s9 r9 => ?_⟩
    obtain ⟨q2, rfl, r9⟩ := r9
    refine ⟨l, [.ref q1], _, rfl, rfl, s9 _ _ el, by show 1 < sizeLine; decide, ?_⟩
    have k10 : KeepN H9 (upd H9 l (.lst ([.ref q1] ++ [.ref q2]))) := KeepN.lst (s9 _ _ el)
    have el : upd H9 l (.lst ([.ref q1] ++ [.ref q2])) l = some (.lst [.ref q1, .ref q2]) := upd_same
    have hl0 : H l = none := by
      cases e : H l with
      | none => rfl
      | some o => rw [s7 _ _ e] at nl; cases nl
    have s10 : Same H (upd H9 l (.lst ([.ref q1] ++ [.ref q2]))) := fun b o e => by rw [upd_ne (ne_of_none e hl0)]; exact s9 _ _ (s8 _ _ (s7 _ _ e))
    have r1 := (SmAt.same s9 r8).mono fun _ _ z => k10.t z
    have r2 := r9.mono fun _ _ z => k10.t z
    have B := (TrAt.same (s8.trans s9) B).keep k10
    have G := (TrAt.same (s8.trans s9) G).keep k10
    have S10 := (GS.ShapesAt.same (s8.trans s9) S7).keep k10
    have a3 := k10 _ _ (fun ys z => by cases z) (s9 _ _ (s8 _ _ a3))
    generalize upd H9 l (.lst ([.ref q1] ++ [.ref q2])) = H10 at el s10 r1 r2 B G S10 a3 ⊢
    dsimp only [tNext]
    refine sa1 ⟨_, rfl, ?_⟩
    refine te_lstM (H0 := H10) (Same.refl _) sm_st (mk_stm (K := K) (p3 := p3) rfl (SqT.of a3) (mk_one (mk_var rfl B)) (mk_iss (ts := [Str.ofString "ta"]) (fun _ _ z => z) (by show 1 ≤ sizeLine; decide)) c3 (mk_one (mk_field (t := Str.ofString "") (f := Str.ofString "zz")))) fun v l2 H11 s11 r11 nl2 el2 => ⟨l, l2, _, _, rfl, rfl, s11 _ _ el, el2, by show 3 ≤ sizeLine; decide, fun l3 hl3 => gn ?_⟩
    obtain ⟨q3, rfl, r11⟩ := r11
    have s12 := s11.trans (same_new (o := .lst ([.ref q1, .ref q2] ++ [.ref q3])) hl3)
    have el : upd H11 l3 (.lst ([.ref q1, .ref q2] ++ [.ref q3])) l3 = some (.lst [.ref q1, .ref q2, .ref q3]) := upd_same
    have r3 := SmAt.same (same_new (o := .lst ([.ref q1, .ref q2] ++ [.ref q3])) hl3) r11
    generalize upd H11 l3 (.lst ([.ref q1, .ref q2] ++ [.ref q3])) = H12 at s12 el r3 ⊢
    refine at_stD (σ' := [some (.ref d), some (.ref p3), some v2, some v3, some (.ref l3), none]) rfl ?_
    have cB : MkS [some (.ref d), some (.ref p3), some v2, some v3, some (.ref l3), none] H12 (tTup (tCons (tC (.str (Str.ofString "="))) (tCons (tVar 2) (tCons (tVar 3) tNil)))) (fun H v => OcAt K H v (some (.bin (Str.ofString "=") (fl "" "q") (fl "" "x")))) := fun H Q s k =>
      ⟨_, rfl, _, rfl, (by show 3 ≤ sizeLine; decide), fun p hp => k _ _ (same_new hp) ⟨p, _, _, rfl, SqT.of upd_same, TrAt.same (s12.trans (s.trans (same_new hp))) B, TrAt.same (s12.trans (s.trans (same_new hp))) G⟩⟩
    refine sa1 ⟨_, rfl, ?_⟩
    refine te_lstM (H0 := H12) (Same.refl _) sm_st (mk_stm (K := K) (p3 := p3) rfl (SqT.of (s12 _ _ a3)) (mk_one (mk_var rfl (TrAt.same s12 G))) (mk_iss (ts := [Str.ofString "ta"]) (fun _ _ z => z) (by show 1 ≤ sizeLine; decide)) cB (mk_one (mk_field (t := Str.ofString "") (f := Str.ofString "zz")))) fun v l4 H13 s13 r13 nl4 el4 => ⟨l3, l4, _, _, rfl, rfl, s13 _ _ el, el4, by show 4 ≤ sizeLine; decide, fun l5 hl5 => gn ?_⟩
    obtain ⟨q4, rfl, r13⟩ := r13
    have s14 := s13.trans (same_new (o := .lst ([.ref q1, .ref q2, .ref q3] ++ [.ref q4])) hl5)
    have el : upd H13 l5 (.lst ([.ref q1, .ref q2, .ref q3] ++ [.ref q4])) l5 = some (.lst [.ref q1, .ref q2, .ref q3, .ref q4]) := upd_same
    have r4 := SmAt.same (same_new (o := .lst ([.ref q1, .ref q2, .ref q3] ++ [.ref q4])) hl5) r13
    generalize upd H13 l5 (.lst ([.ref q1, .ref q2, .ref q3] ++ [.ref q4])) = H14 at s14 el r4 ⊢
    refine at_stD (σ' := [some (.ref d), some (.ref p3), some v2, some v3, some (.ref l5), none]) rfl ?_
    have r1 := SmAt.same (s12.trans s14) r1
    have r2 := SmAt.same (s12.trans s14) r2
    have r3 := SmAt.same s14 r3
    have S14 := GS.ShapesAt.same (s12.trans s14) S10
    have s14 := s10.trans (s12.trans s14)
    have el0 : H l5 = none := by
      cases e : H l5 with
      | none => rfl
      | some o => rw [(show Same H H13 from fun b o e => s13 _ _ (s12 _ _ (s10 _ _ e))) _ _ e] at hl5; cases hl5
    refine ⟨_, rfl, l5, rfl, ⟨_, SqL.of el⟩, fun D hD => ?_⟩
    have dl : D ≠ l5 := fun z => by rw [z, el] at hD; cases hD
    have hD0 : H D = none := by
      cases e : H D with
      | none => rfl
      | some o => rw [s14 _ _ e] at hD; cases hD
    have hw : ∀ q ∈ kns, WnS (N + 6) q.1 := fun q m => wns_mono (kns_wn q m)
    refine lc_it (walk_list (xs := [V.ref q1, .ref q2, .ref q3, .ref q4])) (fun i H' => Tabs Tt H' ∧ ExtN H H' ∧ H' l5 = some (.lst [.ref q1, .ref q2, .ref q3, .ref q4]) ∧ ShapesAt K H' d shK ∧ SmAt K H' q1 kn1 ∧ SmAt K H' q2 kn2 ∧ SmAt K H' q3 kn3 ∧ SmAt K H' q4 kn4 ∧ H' D = some (.lst (((kns.map (·.2)).take i).map V.str)))
      ?_ (fun i H' _ z => SqL.of z.2.2.1) ?_ ?_
    · have sD := same_new (o := .lst []) hD
      exact ⟨hT.ext (s14.trans sD), ext_of (s14.trans sD), sD _ _ el, GS.ShapesAt.same sD S14, SmAt.same sD r1, SmAt.same sD r2, SmAt.same sD r3, SmAt.same sD r4, upd_same⟩
    · rintro i y H15 H16 hi ⟨t, e, el, S, r1, r2, r3, r4, eD⟩ ⟨rfl, ey⟩
      refine gn ⟨rfl, ?_⟩
      obtain ⟨q, u, due, rfl, eu, ru⟩ : ∃ q u due, y = .ref q ∧ kns[i]? = some (u, due) ∧ SmAt K H16 q u := by
        have w4 : i = 0 ∨ i = 1 ∨ i = 2 ∨ i = 3 := by have : i < 4 := hi; omega
        rcases w4 with rfl | rfl | rfl | rfl
        · exact ⟨q1, _, _, (Option.some.inj ey).symm, rfl, r1⟩
        · exact ⟨q2, _, _, (Option.some.inj ey).symm, rfl, r2⟩
        · exact ⟨q3, _, _, (Option.some.inj ey).symm, rfl, r3⟩
        · exact ⟨q4, _, _, (Option.some.inj ey).symm, rfl, r4⟩
      have m := List.mem_of_getElem? eu
      refine fun X x1 x2 x3 x4 x5 => te_wordL t (fun fl H17 e17 nn17 t17 Q' E' k1 k2 k3 => ⟨_, rfl, _, rfl, word_due' (R := fun s H2 => ∃ acc, H2 D = some (.lst acc) ∧ acc.length < sizeLine ∧ _) (SmAt.ext e17 ru) (hw _ m) (ShapesAt.ext e17 S) ⟨[], htz _, .nil, fun _ z => (nomatch z)⟩ (kns_word _ m) (fun H18 s18 => ?_) k1 k2 k3⟩) x1 x2 x3 x4 x5
      have lt := (List.getElem?_eq_some_iff.mp eu).1
      have e18 := s18 _ _ (e17 _ _ eD (fun _ z => by cases z))
      have tk : ((kns.map (·.2)).take (i + 1)) = (kns.map (·.2)).take i ++ [due] := by rw [List.take_add_one, List.getElem?_map, eu]; rfl
      have kD := KeepN.lst (ys := ((kns.map (·.2)).take i).map V.str ++ [V.str due]) e18
      have x18 : ExtN H16 H18 := fun b o h n => s18 _ _ (e17 b o h n)
      have big : (((kns.map (·.2)).take i).map V.str).length < sizeLine := by
        rw [List.length_map]
        exact Nat.lt_of_le_of_lt (List.length_take_le ..) (Nat.lt_of_lt_of_le (show i < 4 from hi) (by decide))
      refine ⟨_, e18, big, ?_, fun b o h n => ?_, ?_, (ShapesAt.ext x18 S).keep kD, (SmAt.ext x18 r1).mono fun _ _ z => kD.t z, (SmAt.ext x18 r2).mono fun _ _ z => kD.t z, (SmAt.ext x18 r3).mono fun _ _ z => kD.t z, (SmAt.ext x18 r4).mono fun _ _ z => kD.t z, ?_⟩
      · exact tabs_keepN (t17.ext s18) kD
      · rw [upd_ne (ne_of_none h hD0)]
        exact x18 _ _ (e b o h n) n
      · rw [upd_ne (Ne.symm dl)]
        exact x18 _ _ el (fun _ z => by cases z)
      · rw [tk, List.map_append]
        exact upd_same
    · rintro H15 ⟨t, e, el, S, r1, r2, r3, r4, eD⟩
      refine ⟨by show 4 ≤ sizeLine; decide, fun z hz => ?_⟩
      have eD : H15 D = some (.lst ([Str.ofString "tb", Str.ofString "tb", Str.ofString "q", Str.ofString "q"].map V.str)) := eD
      have eD := same_new (o := .lst [V.str (Str.ofString "tb"), .str (Str.ofString "tb"), .str (Str.ofString "q"), .str (Str.ofString "q")]) hz _ _ eD
      refine ⟨_, _, .lst (SqL.of eD) (dpS _), .lst (SqL.of upd_same) (dpS [Str.ofString "tb", Str.ofString "tb", Str.ofString "q", Str.ofString "q"]), by decide +kernel, by decide +kernel, ?_⟩
      rw [show PyData.eqv (.list ([Str.ofString "tb", Str.ofString "tb", Str.ofString "q", Str.ofString "q"].map PyData.str)) (.list ([Str.ofString "tb", Str.ofString "tb", Str.ofString "q", Str.ofString "q"].map PyData.str)) = true from by decide +kernel]
      exact kk _ (fun b o h n => same_new hz _ _ (e b o h n)) (t.ext (same_new hz))
end
end GS

set_option linter.all false
set_option maxHeartbeats 8000000
namespace GS
open PySem L2 HX TH LamX NdefX
open K06 hiding gn sa1 sif cb1 and2 or2 pw_mono Txt Cal
theorem passE0 {X : Cx} : Passes (L2.CX X.prog X.w) X E0 := passes_call L2.takes0 fun _ _ _ _ z => z
theorem hat_ext {H H' : Hp} {a b : Addr} (B : HAt H a b) (e : ExtN H H') : HAt H' a b := by
  obtain ⟨z, p, cs, h1, h2, h3⟩ := B
  exact ⟨z, p, cs, e _ _ h1 (fun _ z => by cases z), e _ _ h2 (fun _ z => by cases z), h3⟩
theorem ixat_keep {K : PySem.W.Frag} {H H' : Hp} (k : KeepN H H') {q : Addr} {ix : List (Str × Str)} (h : IxAt K H q ix) : IxAt K H' q ix := by
  obtain ⟨vs, a, b, c⟩ := h
  exact ⟨vs, k.t a, fl_mono (fun _ _ z => k.t z) b, c⟩
theorem stm_tup {K : PySem.W.Frag} {H : Hp} {p : Addr} {S : Stm} (h : SmAt K H p S) (nw : notWord S) : ∃ xs, SqT K H p xs ∧ atI xs 0 = some (.str (kindS S)) ∧ ∃ n, atI xs 1 = some (.str n) ∧ 2 < xs.length := by
  cases S with
  | table n fs => obtain ⟨q, a, _⟩ := h; exact ⟨_, a, rfl, _, rfl, by show 2 < 3; decide⟩
  | index n f => exact ⟨_, h, rfl, _, rfl, by show 2 < 3; decide⟩
  | put n ns => obtain ⟨q, a, _⟩ := h; exact ⟨_, a, rfl, _, rfl, by show 2 < 3; decide⟩
  | set n ss c => obtain ⟨q, v, a, _⟩ := h; exact ⟨_, a, rfl, _, rfl, by show 2 < 4; decide⟩
  | strike n c => obtain ⟨v, a, _⟩ := h; exact ⟨_, a, rfl, _, rfl, by show 2 < 3; decide⟩
  | ask how ts tabs c ob first => obtain ⟨q, r, v, b, a, _⟩ := h; exact ⟨_, a, rfl, _, rfl, by show 2 < 7; decide⟩
  | word x => exact absurd rfl (nw x)
theorem not_ask {S : Stm} (nw : notWord S) (ask : ¬ ∃ how ts tabs c ob fi, S = .ask how ts tabs c ob fi) : decide (kindS S = Str.ofString "ask") = false := by
  cases S with
  | ask how ts tabs c ob fi => exact absurd ⟨how, ts, tabs, c, ob, fi, rfl⟩ ask
  | word x => exact absurd rfl (nw x)
  | table n fs => show decide (Str.ofString "table" = Str.ofString "ask") = false; decide +kernel
  | index n f => show decide (Str.ofString "index" = Str.ofString "ask") = false; decide +kernel
  | put n ns => show decide (Str.ofString "put" = Str.ofString "ask") = false; decide +kernel
  | set n ss c => show decide (Str.ofString "set" = Str.ofString "ask") = false; decide +kernel
  | strike n c => show decide (Str.ofString "strike" = Str.ofString "ask") = false; decide +kernel
theorem te_bareL {K : PySem.W.Frag} {a b d tt p q2 : Addr} {xs : List V} {j : Int} {ts : List Tr} {tabs : List Str} {sh : Shp} {l0 v2 v4 v5 v8 v9 v10 v11 v12 v13 v14 v15 : Option V} {H : Hp} {Q : VK} (hp : SqT K H p xs) (e : atI xs j = some (.ref q2)) (hq : TsAt K H q2 ts) (ht : ∀ t ∈ ts, TmD t) (l3 : ts.length ≤ 3)
    (B : HAt H a b) (S : ShapesAt K H d sh) (er : SqT K H tt (tabs.map V.str)) (ok : ∀ t ∈ tabs, PyData.strOk t = true) (lt : tabs.length ≤ 100)
    (k : ∀ q ts' H', HAt H' a b → Keep a b H H' → TsAt K H' q ts' → Paired (Bare sh tabs) ts ts' → Q (.ref q) H') :
    tCB (RK.rTupQ K) (tCons (tLc (iTup K (tOp (rIxT K) (tVar 6) (tC (V.int j)))) (gName 10) tYes (tCall (spBare K 6) [] E0 (tCons (tVar 1) (tCons (tVar 10) (tCons (tVar 3) (tCons (tVar 7) tNil))))) [10]) tNil) [l0, some (.ref a), v2, some (.ref d), v4, v5, some (.ref p), some (.ref tt), v8, v9, v10, v11, v12, v13, v14, v15] H Q := by
  obtain ⟨vs, hv, pv⟩ := hq
  refine ⟨_, rfl, p, xs, j, _, rfl, rfl, hp, e, q2, rfl, ⟨_, hv⟩, fun D hD => ?_⟩
  have nD := B.ne hD
  refine lc_tup (K := K) (a := q2) (xs := vs) (fun i H' => HAt H' a b ∧ Keep a b H H' ∧ ∃ ws ts', H' D = some (.lst ws) ∧ Paired (TrAt K H') ws ts' ∧ Paired (Bare sh tabs) (ts.take i) ts' ∧ ws.length = i)
    ⟨B.upd nD, fun x o _ _ z => by rw [upd_ne (ne_of_none z hD)]; exact z, [], [], upd_same, .nil, .nil, rfl⟩ (fun i H' _ z => (z.2.1.n B).t hv) ?_ ?_
  · rintro i x H' hi ⟨B1, kp1, ws, ts', eD, pw, pb, lw⟩
    obtain ⟨t, et, hx⟩ := pw_nth pv hi
    have k1 := kp1.n B
    have d := ht t (List.mem_of_getElem? et)
    have li : i < ts.length := (List.getElem?_eq_some_iff.mp et).1
    refine ⟨rfl, _, rfl, _, rfl, _, rfl, _, rfl, a, b, x, some t, _, tt, sh, tabs, rfl, B1, hx.mono (fun _ _ z => k1.t z), fun t' e' => by rw [← Option.some.inj e']; exact ⟨d.1, d.2.2, by have := d.2.1; omega⟩, fun z => (nomatch z), S.keep k1, k1.t er, ok, lt, fun v' c' H2 B2 kp2 h2 b2 => ?_⟩
    obtain ⟨t', rfl, b2⟩ := b2
    have k2 := kp2.n B1
    have eD2 := kp2 D _ nD.1 nD.2 eD
    have kD := KeepN.lst (ys := ws ++ [v']) eD2
    refine ⟨ws, eD2, Nat.lt_of_le_of_lt (show ws.length ≤ 3 by omega) (by decide), B2.upd nD, fun y o n1 n2 z => ?_, ws ++ [v'], ts' ++ [t'], upd_same, ?_, ?_, by rw [List.length_append, lw]; rfl⟩
    · rw [upd_ne (ne_of_none z hD)]
      exact kp2 _ _ n1 n2 (kp1 _ _ n1 n2 z)
    · exact pw_app (pw_imp (fun _ _ z => TrAt.mono (fun _ _ y => kD.t (k2.t y)) z) pw) (.cons (TrAt.mono (fun _ _ y => kD.t y) h2) .nil)
    · rw [List.take_add_one, et]
      exact pw_app pb (.cons b2 .nil)
  · rintro H' ⟨B1, kp1, ws, ts', eD, pw, pb, lw⟩
    refine ⟨D, ws, rfl, .inl ⟨SqL.of eD, fun q hq => ?_⟩⟩
    have sq := same_new (o := .tup ws) hq
    rw [pw_len pv, List.take_length] at pb
    exact k q ts' _ (B1.same sq) (kp1.trans (Keep.same sq)) ⟨ws, SqT.of upd_same, pw_imp (fun _ _ z => TrAt.same sq z) pw⟩ pb
theorem peelNe {X : Cx} {sp : Sp} {dvs : List V} {E : XK} {t : TA} {j : Nat} {σ : L2.St} {H : Hp} {Q : Bool → Hp → Prop} (h : tCallC X sp dvs E t σ H fun v H1 => tVar j σ H1 fun y H2 => rNe v y H2 fun x H' => ∃ k, x = .bl k ∧ Q k H') : tTest (tOp rNe (tCallC X sp dvs E t) (tVar j)) σ H Q := h
theorem ixat_ext {K : PySem.W.Frag} {H H' : Hp} (k : ExtN H H') {q : Addr} {ix : List (Str × Str)} (h : IxAt K H q ix) : IxAt K H' q ix := by
  obtain ⟨vs, a, b, c⟩ := h
  exact ⟨vs, xTt k a, fl_mono (fun _ _ z => xTt k z) b, c⟩
theorem word_shaped {x : Str} (h : x ∈ words3) : SeqAt.shaped (pdSt (.word x)) = true := (show ∀ y ∈ words3, SeqAt.shaped (pdSt (.word y)) = true by decide +kernel) x h
theorem word_eqv {x : Str} (h : x ∈ words3) : PyData.eqv (pdSt (.word x)) (pdSt (.word x)) = true := (show ∀ y ∈ words3, PyData.eqv (pdSt (.word y)) (pdSt (.word y)) = true by decide +kernel) x h

def spLaw (K : PySem.W.Frag) (Tt : List (Addr × Str)) : Sp := fun vs H Q _ => ∃ (a : Addr) (ns : List Int), vs = [.ref a] ∧ SqL K H a (ns.map V.int) ∧ ns.length ≤ 63 ∧ Tabs Tt H ∧ ∀ H', Q (.bl true) H'
section
variable {P : Program} {w : World} {K : PySem.W.Frag} {mg : Str → Option Value} {base : Heap} {CN CR cB PB : Addr} {Tt : List (Addr × Str)}
theorem scLw : FnScope ["_law_script", "_law_h", "_law_turn", "_law_shapes_here", "_law_indexes", "_law_table", "_law_tree", "_law_tables", "_law_bare_here", "_law_terms", "_law_one", "_law_by", "_law_cond_here", "_law_due_here", "_law_found", "_law_bent_here"] ["_law_script"] (defScope s_law) := ⟨rfl, rfl, rfl, by decide +kernel, rfl, by decide +kernel, by decide +kernel⟩
theorem ok_law {k N : Nat} {f fm fn fs ft fk fw fb fu fa fe fC tz : Addr} {fdm fdn fds fdt fdk fdw fdb fdu fda fde fdC : FuncData} {dsC : List Value} {kV doc pm ct oc : Value} {an od : Option Addr} {osl : Array (Option Value)} (k12 : 12 ≤ k)
    (lk : K.lookup f = some ⟨oc, od, .func (PySem.W.fnOf "law" "law" (defArgs s_law) (defBody s_law) (defScope s_law) .none kV doc pm an (.ref cB) ct), osl⟩) (hcd : PySem.W.codeIn K (.ref cB) "law" = true) (TB : TabB base mg cB PB) (T : Txt6 mg) (hm : (PB, ("law.<locals>.<lambda>" : Str)) ∈ Tt) (hu : ∀ p ∈ Tt, p.1 = PB → p.2 = ("law.<locals>.<lambda>" : Str))
    (Cmix : K06.Cal P w K mg base 1 "_law_mix" ["_law_script", "_law_seed"] (spMix K) fm fdm) (Cnext : K06.Cal P w K mg base 1 "_law_next" ["_law_h", "_law_many"] spNext fn fdn) (Cshapes : K06.Cal P w K mg base 2 "_law_shapes" ["_law_h", "_law_many"] (spShapes K) fs fds)
    (Cstatement : K06.Cal P w K mg base 12 "_law_statement" ["_law_h", "_law_shapes_here"] (spStm K) ft fdt) (Cknown : HX.Cal P w K mg base (k + 3) "_law_known" [] (spKn Tt) fk fdk) (Cword : HX.Cal P w K mg base (k + 2) "_law_word" ["_law_call"] (spWo P w K mg base (k + 1) CN CR) fw fdw)
    (Cbare : HX.Cal P w K mg base 12 "_law_bare" ["_law_h", "_law_tree", "_law_shapes_here", "_law_tables"] (spBare K 6) fb fdb) (Cdue : HX.Cal P w K mg base 12 "_law_due" ["_law_tree", "_law_shapes_here", "_law_indexes"] (spDue K) fu fdu)
    (Calike : HX.Cal P w K mg base 12 "_law_alike" ["_law_found", "_law_due_here"] (spAk K 11) fa fda) (Cbent : HX.Cal P w K mg base 12 "_law_bent" ["_law_h", "_law_tree"] (spBent K) fe fde)
    (gCh : mg "checked" = some (.ref fC)) (kCh : PySem.W.keepIn K (.ref fC) = true) (b3 : Binds K fdC ["tree", "shapes", "indexes"] []) (bCh : Binds K fdC ["tree", "shapes", "indexes"] dsC) (vCh : Vals [.ref tz] dsC) (htz : ∀ H, SqT K H tz []) (GCh : FnOk P w K mg base (L2.CX P w) k fC fdC ["tree", "shapes", "indexes"] (spCh K CN CR (N + 6))) :
    FnOk P w K mg base CX0 (k + 4) f (PySem.W.fnOf "law" "law" (defArgs s_law) (defBody s_law) (defScope s_law) .none kV doc pm an (.ref cB) ct) ["_law_script"] (spLaw K Tt) := by
  refine fn_of lk hcd scLw (fun vs H Q E h => ?_) (fun A outer s H vs Q E hr h => ?_)
  · obtain ⟨a, ns, rfl, _⟩ := h
    rfl
  · obtain ⟨l0, ns, rfl, hS, hlen, hT, kk⟩ := h
    have hr8 : Room (k + 3) _ := hr
    suffices hh : ∃ t, PSs (cxOf CX0 P w K mg base ["_law_script", "_law_h", "_law_turn", "_law_shapes_here", "_law_indexes", "_law_table", "_law_tree", "_law_tables", "_law_bare_here", "_law_terms", "_law_one", "_law_by", "_law_cond_here", "_law_due_here", "_law_found", "_law_bent_here"] "law" (defScope s_law) f (.ref cB) A outer s H E).nox (defBody s_law) t ∧ t { nx := fun _ H' => Q .non H', rt := Q } (L2.start ["_law_script", "_law_h", "_law_turn", "_law_shapes_here", "_law_indexes", "_law_table", "_law_tree", "_law_tables", "_law_bare_here", "_law_terms", "_law_one", "_law_by", "_law_cond_here", "_law_due_here", "_law_found", "_law_bent_here"] [V.ref l0]) H by
      obtain ⟨t, h1, h2⟩ := hh
      exact ⟨t, h1.nox, h2⟩
    refine ⟨_, (pss_cons (ps_set (i := 1) scLw.nd rfl (Or.inr rfl) (pe_call Cmix.G (hr8.mono (by omega)) (by rfl) Cmix.g Cmix.kp Cmix.b .nil pass0 (pa_cons (pv 0) (pa_cons pe_int pa_nil))))
      (pss_cons (ps_if (pt_not (pt_val (pe_call0 Cknown.G (hr8.mono (by omega)) (by rfl) Cknown.g Cknown.kp Cknown.b .nil pass0))) (pss_one (ps_ret pe_bl)) pss_nil)
      (pss_cons (ps_for PassesOwn.never rfl (pi_range1 rfl T.range (pa_cons pe_int pa_nil)) (pg_name (i := 2) scLw.nd rfl (Or.inl rfl))
        (pss_cons (ps_set (i := 3) scLw.nd rfl (Or.inr rfl) (pe_call Cshapes.G (hr8.mono (by omega)) (by rfl) Cshapes.g Cshapes.kp Cshapes.b .nil pass0 (pa_cons (pv 1) (pa_cons pe_int pa_nil))))
        (pss_cons (ps_set (i := 4) scLw.nd rfl (Or.inr rfl) (pe_callTy (RK.tupQ (K := K)) (by rfl) T.tuple (by decide +kernel) (pa_cons (pe_lc (own := [("_law_table", 5)]) rfl scLw.nd (RK.piL (K := K) (pe_callB (call_sortedD rfl) (by rfl) T.sorted (by decide +kernel) (pa_cons (pv 3) pa_nil))) (blkOk_by (N := ["_law_script", "_law_h", "_law_turn", "_law_shapes_here", "_law_indexes", "_law_table", "_law_tree", "_law_tables", "_law_bare_here", "_law_terms", "_law_one", "_law_by", "_law_cond_here", "_law_due_here", "_law_found", "_law_bent_here"]) (sc := defScope s_law) (by decide +kernel)) (fun _ _ _ _ _ => (pg_name (i := 5) scLw.nd rfl (Or.inl rfl))) (fun _ _ _ _ _ => (pts_one (pt_cmpR op_eq (pe_call Cnext.G (hr8.mono (by omega)) (by rfl) Cnext.g Cnext.kp Cnext.b .nil pass0 (pa_cons (pv 1) (pa_cons pe_int pa_nil))) pe_int (nomark _)))) (fun _ _ _ _ _ => (pe_tup (pa_cons (pv 5) (pa_cons pe_str pa_nil))))) pa_nil)))
        (pss_cons (ps_set (i := 6) scLw.nd rfl (Or.inl rfl) (pe_call Cstatement.G (hr8.mono (by omega)) (by rfl) Cstatement.g Cstatement.kp Cstatement.b .nil pass0 (pa_cons (pv 1) (pa_cons (pv 3) pa_nil))))
        (pss_one (ps_if (pt_cmpR op_gt (pe_callB (RK.lenQ (K := K)) (by rfl) T.len PySem.boot_len (pa_cons (pv 6) pa_nil)) pe_int (nomark _)) (pss_cons (ps_set (i := 7) scLw.nd rfl (Or.inr rfl) (pe_ifExp (pt_cmpR op_eq (pe_ix (RK.ixT (K := K)) (pv 6) pe_int (fun _ _ => rfl)) pe_str (nomark _)) (pe_ix (RK.ixT (K := K)) (pv 6) pe_int (fun _ _ => rfl)) (pe_tup (pa_cons (pe_ix (RK.ixT (K := K)) (pv 6) pe_int (fun _ _ => rfl)) pa_nil))))
          (pss_cons (ps_set (i := 8) scLw.nd rfl (Or.inr rfl) (pv 6))
          (pss_cons (ps_if (pt_cmpR op_eq (pe_ix (RK.ixT (K := K)) (pv 6) pe_int (fun _ _ => rfl)) pe_str (nomark _)) (pss_cons (ps_set (i := 9) scLw.nd rfl (Or.inl rfl) (pe_callTy (RK.tupQ (K := K)) (by rfl) T.tuple (by decide +kernel) (pa_cons (pe_lc (own := [("_law_one", 10)]) rfl scLw.nd (RK.piT (K := K) (pe_ix (RK.ixT (K := K)) (pv 6) pe_int (fun _ _ => rfl))) (blkOk_by (N := ["_law_script", "_law_h", "_law_turn", "_law_shapes_here", "_law_indexes", "_law_table", "_law_tree", "_law_tables", "_law_bare_here", "_law_terms", "_law_one", "_law_by", "_law_cond_here", "_law_due_here", "_law_found", "_law_bent_here"]) (sc := defScope s_law) (by decide +kernel)) (fun _ _ _ _ _ => (pg_name (i := 10) scLw.nd rfl (Or.inl rfl))) (fun _ _ _ _ _ => pts_nil) (fun _ _ _ _ _ => (pe_call Cbare.G (hr8.mono (by omega)) (by rfl) Cbare.g Cbare.kp Cbare.b .nil pass0 (pa_cons (pv 1) (pa_cons (pv 10) (pa_cons (pv 3) (pa_cons (pv 7) pa_nil))))))) pa_nil)))
            (pss_cons (ps_set (i := 11) scLw.nd rfl (Or.inl rfl) (pe_callTy (RK.tupQ (K := K)) (by rfl) T.tuple (by decide +kernel) (pa_cons (pe_lc (own := [("_law_one", 10)]) rfl scLw.nd (RK.piT (K := K) (pe_ix (RK.ixT (K := K)) (pv 6) pe_int (fun _ _ => rfl))) (blkOk_by (N := ["_law_script", "_law_h", "_law_turn", "_law_shapes_here", "_law_indexes", "_law_table", "_law_tree", "_law_tables", "_law_bare_here", "_law_terms", "_law_one", "_law_by", "_law_cond_here", "_law_due_here", "_law_found", "_law_bent_here"]) (sc := defScope s_law) (by decide +kernel)) (fun _ _ _ _ _ => (pg_name (i := 10) scLw.nd rfl (Or.inl rfl))) (fun _ _ _ _ _ => pts_nil) (fun _ _ _ _ _ => (pe_call Cbare.G (hr8.mono (by omega)) (by rfl) Cbare.g Cbare.kp Cbare.b .nil pass0 (pa_cons (pv 1) (pa_cons (pv 10) (pa_cons (pv 3) (pa_cons (pv 7) pa_nil))))))) pa_nil)))
            (pss_cons (ps_set (i := 12) scLw.nd rfl (Or.inl rfl) (pe_call Cbare.G (hr8.mono (by omega)) (by rfl) Cbare.g Cbare.kp Cbare.b .nil pass0 (pa_cons (pv 1) (pa_cons (pe_ix (RK.ixT (K := K)) (pv 6) pe_int (fun _ _ => rfl)) (pa_cons (pv 3) (pa_cons (pv 7) pa_nil))))))
            (pss_one (ps_set (i := 8) scLw.nd rfl (Or.inr rfl) (pe_op (RK.catT (K := K)) (pe_slice (RK.slT (K := K)) (pv 6) po_none (po_some pe_int)) (pe_tup (pa_cons (pv 9) (pa_cons (pv 7) (pa_cons (pv 12) (pa_cons (pv 11) (pa_cons (pe_ix (RK.ixT (K := K)) (pv 6) pe_int (fun _ _ => rfl)) pa_nil)))))))))))) pss_nil)
          (pss_cons (ps_set (i := 13) scLw.nd rfl (Or.inl rfl) (pe_call Cdue.G (hr8.mono (by omega)) (by rfl) Cdue.g Cdue.kp Cdue.b .nil pass0 (pa_cons (pv 8) (pa_cons (pv 3) (pa_cons (pv 4) pa_nil)))))
          (pss_cons (ps_if (pt_cmpR op_ne (TH.pe_callC (E := E0) Cword.G (hr8.mono (by omega)) (by rfl) Cword.g Cword.kp Cword.b .nil (fun _ => rfl) (pa_cons (TH.pe_lam0 (k := k) (T := Tt) (c := cB) (P := PB) (N := ["_law_bare_here", "_law_shapes_here", "_law_indexes"]) (js := [8, 3, 4]) TB rfl hm hu (nscope_by (by decide +kernel)) (by show ndefB (defScope s_law) _ _ = true; decide +kernel) rfl rfl (fun _ _ _ => rfl) (fun f9 c9 A9 o9 s9 H9 E9 r9 => (pe_call GCh (r9.mono (Nat.le_refl _)) (by rfl) gCh kCh b3 .nil passN (pa_cons (pe_var (i := 0) rfl (.inr (.inr rfl))) (pa_cons (pe_var (i := 1) rfl (.inr (.inr rfl))) (pa_cons (pe_var (i := 2) rfl (.inr (.inr rfl))) pa_nil)))))) pa_nil)) (pv 13) (nomark _)) (pss_one (ps_ret pe_bl)) pss_nil)
          (pss_cons (ps_set (i := 14) scLw.nd rfl (Or.inl rfl) (pe_ifExp (pt_cmpR op_eq (pv 13) pe_str (nomark _)) (pe_call GCh (hr8.mono (by omega)) (by rfl) gCh kCh b3 .nil passE0 (pa_cons (pv 8) (pa_cons (pv 3) (pa_cons (pv 4) pa_nil)))) (pv 6)))
          (pss_cons (ps_if (pt_not (pt_val (pe_call Calike.G (hr8.mono (by omega)) (by rfl) Calike.g Calike.kp Calike.b .nil pass0 (pa_cons (pv 14) (pa_cons (pv 6) pa_nil))))) (pss_one (ps_ret pe_bl)) pss_nil)
          (pss_cons (ps_set (i := 15) scLw.nd rfl (Or.inr rfl) (pe_call Cbent.G (hr8.mono (by omega)) (by rfl) Cbent.g Cbent.kp Cbent.b .nil pass0 (pa_cons (pv 1) (pa_cons (pv 8) pa_nil))))
          (pss_cons (ps_set (i := 13) scLw.nd rfl (Or.inl rfl) (pe_call Cdue.G (hr8.mono (by omega)) (by rfl) Cdue.g Cdue.kp Cdue.b .nil pass0 (pa_cons (pv 15) (pa_cons (pv 3) (pa_cons (pv 4) pa_nil)))))
          (pss_one (ps_if (pt_cmpR op_ne (TH.pe_callC (E := E0) Cword.G (hr8.mono (by omega)) (by rfl) Cword.g Cword.kp Cword.b .nil (fun _ => rfl) (pa_cons (TH.pe_lam0 (k := k) (T := Tt) (c := cB) (P := PB) (N := ["_law_bent_here", "_law_shapes_here", "_law_indexes"]) (js := [15, 3, 4]) TB rfl hm hu (nscope_by (by decide +kernel)) (by show ndefB (defScope s_law) _ _ = true; decide +kernel) rfl rfl (fun _ _ _ => rfl) (fun f9 c9 A9 o9 s9 H9 E9 r9 => (pe_call GCh (r9.mono (Nat.le_refl _)) (by rfl) gCh kCh b3 .nil passN (pa_cons (pe_var (i := 0) rfl (.inr (.inr rfl))) (pa_cons (pe_var (i := 1) rfl (.inr (.inr rfl))) (pa_cons (pe_var (i := 2) rfl (.inr (.inr rfl))) pa_nil)))))) pa_nil)) (pv 13) (nomark _)) (pss_one (ps_ret pe_bl)) pss_nil))))))))))) (pss_one (ps_if (pt_cmpR (RK.neD (K := K) hr.units) (pe_call GCh (hr8.mono (by omega)) (by rfl) gCh kCh bCh vCh passE0 (pa_cons (pv 6) (pa_cons (pv 3) pa_nil))) (pv 6) (nomark _)) (pss_one (ps_ret pe_bl)) pss_nil))))))))
      (pss_one (ps_ret pe_bl))))), ?_⟩
    refine sa1 ⟨_, rfl, l0, ns, 7, rfl, hS, hlen, fun a b H1 na nb B1 s1 => gn ?_⟩
    have t1 := hT.ext s1
    refine ifs ⟨rfl, t1, fun H2 e2 t2 => ⟨true, rfl, iteF ?_⟩⟩
    have B2 : HAt H2 a b := hat_ext B1 e2
    refine ⟨6, rfl, by decide, by decide, for_range (lo := 0) (n := (6 : Int).toNat) (fun i σ H' => ∃ v2 v3 v4 v5 v6 v7 v8 v9 v10 v11 v12 v13 v14 v15, σ = [some (.ref l0), some (.ref a), v2, v3, v4, v5, v6, v7, v8, v9, v10, v11, v12, v13, v14, v15] ∧ HAt H' a b ∧ Tabs Tt H')
      ⟨_, _, _, _, _, _, _, _, _, _, _, _, _, _, rfl, B2, t2⟩ ?_ ?_⟩
    · rintro i σ H3 hi ⟨v2, v3, v4, v5, v6, v7, v8, v9, v10, v11, v12, v13, v14, v15, rfl, B3, t3⟩
      refine gn ?_
      refine sa1 ⟨_, rfl, a, b, rfl, B3, fun d H4 sh B4 kp4 d0 S4 I l1 => gn ?_⟩
      have t4 := tabs_keepN t3 (kp4.n B3)
      obtain ⟨kvs, hd, pr⟩ := id S4
      have n64 : (sh.map (·.1)).length < 64 := by rw [List.length_map]; have := I.few; omega
      refine sa1 ⟨_, rfl, d, kvs, sh.map (·.1), rfl, Rd.of hd, pr_keys pr, n64, fun ys g perm _ hg => ⟨g, rfl, ⟨_, SqL.of upd_same⟩, fun D hD => ?_⟩⟩
      have ngab := B4.ne hg
      have sg := same_new (o := .lst (ys.map V.str)) hg
      have hDg : D ≠ g := fun z => by rw [z, upd_same] at hD; cases hD
      have hD4 : H4 D = none := by rw [upd_ne hDg] at hD; exact hD
      have nDab := B4.ne hD4
      have lys : ys.length ≤ 3 := by rw [perm.length_eq, List.length_map]; exact I.few
      refine lc_it (walk_list (xs := ys.map V.str)) (fun j H' => HAt H' a b ∧ KeepN H4 H' ∧ H' g = some (.lst (ys.map V.str)) ∧ ∃ ws fl, H' D = some (.lst ws) ∧ Paired (FlR K H') ws fl ∧ FlOk fl ∧ ws.length ≤ j)
        ⟨(B4.same sg).upd nDab, fun x o nl e => by rw [upd_ne (ne_of_none e hD4)]; exact sg _ _ e, by rw [upd_ne (Ne.symm hDg)]; exact upd_same, [], [], upd_same, .nil, fun _ z => (nomatch z), Nat.le_refl _⟩ (fun j H' _ z => SqL.of z.2.2.1) ?_ ?_
      · rintro j y H5 H6 hj ⟨B6, k6, g6, ws, fl, eD, pw, fo, lw⟩ ⟨rfl, ey⟩
        obtain ⟨t, et, rfl⟩ : ∃ t, ys[j]? = some t ∧ y = .str t := by
          rw [List.getElem?_map] at ey
          cases e : ys[j]? with
          | none => rw [e] at ey; cases ey
          | some t => rw [e] at ey; exact ⟨t, rfl, (Option.some.inj ey).symm⟩
        have mt : t ∈ sh.map (·.1) := perm.mem_iff.mp (List.mem_of_getElem? et)
        refine gn ⟨rfl, ⟨_, rfl, a, b, 2, rfl, by decide, by decide, B6, fun r H7 r0 r2 B7 kp7 => ⟨rfl, _, rfl, ?_⟩⟩⟩
        have k7 := kp7.n B6
        have gab : g ≠ a ∧ g ≠ b := ngab
        have g7 := kp7 g _ gab.1 gab.2 g6
        have eD7 := kp7 D _ nDab.1 nDab.2 eD
        have pw7 := fl_mono (fun _ _ z => k7.t z) pw
        have lj : j < ys.length := by rw [List.length_map] at hj; exact hj
        cases c : decide (V.int r = V.int 0) with
        | false => exact ⟨B7, k6.trans k7, g7, ws, fl, eD7, pw7, fo, Nat.le_succ_of_le lw⟩
        | true =>
          refine ⟨_, rfl, by show 2 ≤ sizeLine; decide, fun q hq => ?_⟩
          have nq := B7.ne hq
          have sq := same_new (o := .tup [.str t, .str (Str.ofString "x")]) hq
          have B8 := B7.same sq
          refine ⟨ws, sq _ _ eD7, by show ws.length < sizeLine; exact Nat.lt_of_le_of_lt lw (Nat.lt_of_lt_of_le lj (Nat.le_trans lys (by decide))), ?_⟩
          have kD := KeepN.lst (ys := ws ++ [.ref q]) (sq _ _ eD7)
          refine ⟨B8.upd nDab, (k6.trans k7).trans ((KeepN.of sq).trans kD), by rw [upd_ne (Ne.symm hDg)]; exact sq _ _ g7, ws ++ [.ref q], fl ++ [(t, Str.ofString "x")], upd_same, ?_, fun z mz => ?_, by rw [List.length_append]; exact Nat.add_le_add_right lw 1⟩
          · exact pw_app (fl_mono (fun _ _ z => kD.t ((KeepN.of sq).t z)) pw7) (.cons ⟨q, rfl, kD.t (SqT.of upd_same)⟩ .nil)
          · rcases List.mem_append.mp mz with mz | mz
            · exact fo z mz
            · rw [List.mem_singleton.mp mz]
              exact ⟨(nx_tab _ (sh_names I mt)).2.1, show PyData.strOk (Str.ofString "x") = true by decide +kernel⟩
      rintro H5 ⟨B5, k5, _, ws, fl, eD, pw, fo, lw⟩
      refine ⟨D, ws, rfl, .inl ⟨SqL.of eD, fun qi hqi => gn ?_⟩⟩
      have sqi := same_new (o := .tup ws) hqi
      have B6 := B5.same sqi
      have k6 := k5.trans (KeepN.of sqi)
      have Ix6 : IxAt K (upd H5 qi (.tup ws)) qi fl := ⟨ws, SqT.of upd_same, fl_mono (fun _ _ z => (KeepN.of sqi).t z) pw, fo⟩
      have S6 := S4.keep k6
      have t6 := tabs_keepN t4 k6
      generalize upd H5 qi (.tup ws) = H6 at B6 k6 Ix6 S6 t6 ⊢
      refine sa1 ⟨_, rfl, _, rfl, a, b, d, sh, rfl, B6, S6, I, l1, fun p H7 S B7 kp7 hp st => gn ?_⟩
      have k7 := kp7.n B6
      have Ix7 := ixat_keep k7 Ix6
      have S7 := S6.keep k7
      have t7 := tabs_keepN t6 k7
      refine at_stD (σ' := [some (.ref l0), some (.ref a), some (.int (0 + (i : Nat))), some (.ref d), some (.ref qi), v5, some (.ref p), v7, v8, v9, v10, v11, v12, v13, v14, v15]) rfl ?_
      by_cases nw : notWord S
      · obtain ⟨xs, hx, x0, n, x1, lx⟩ := stm_tup hp nw
        refine ⟨_, rfl, p, xs, rfl, .inr hx, _, _, rfl, rfl, _, rfl, ?_⟩
        rw [show decide ((1 : Int) < (xs.length : Int)) = true from decide_eq_true (by omega)]
        refine iteT ?_
        -- the tables
        suffices rest : ∀ (tt : Addr), (∀ how ts tabs c ob fi, S = .ask how ts tabs c ob fi → SqT K H7 tt (tabs.map V.str)) → ∀ H8, Same H7 H8 → tSeq _ _ _ [some (.ref l0), some (.ref a), some (.int (0 + (i : Nat))), some (.ref d), some (.ref qi), v5, some (.ref p), some (.ref tt), v8, v9, v10, v11, v12, v13, v14, v15] H8 by
          refine sa1 ?_
          by_cases ask : ∃ how ts tabs c ob fi, S = .ask how ts tabs c ob fi
          · obtain ⟨how, ts, tabs, c, ob, fi, rfl⟩ := ask
            obtain ⟨q, r, v, bb, ea, _, er, _, _⟩ := hp
            refine ⟨_, rfl, p, _, 0, _, rfl, rfl, ea, rfl, rfl, _, rfl, ?_⟩
            rw [vS, show decide (Str.ofString "ask" = Str.ofString "ask") = true from decide_eq_true rfl]
            refine iteT ⟨_, rfl, p, _, 3, _, rfl, rfl, ea, rfl, gn ?_⟩
            exact rest r (fun _ _ _ _ _ _ e => by cases e; exact er) H7 (Same.refl _)
          · have nk := not_ask nw ask
            refine ⟨_, rfl, p, _, 0, _, rfl, rfl, hx, x0, rfl, _, rfl, ?_⟩
            rw [vS, nk]
            refine iteF ⟨_, rfl, p, _, 1, _, rfl, rfl, hx, x1, by show 1 ≤ sizeLine; decide, fun tt htt => gn ?_⟩
            exact rest tt (fun _ _ _ _ _ _ e => absurd ⟨_, _, _, _, _, _, e⟩ ask) _ (same_new htt)
        intro tt ht H8 s8
        have B8 := B7.same s8
        have hp8 := SmAt.same s8 hp
        have S8 := GS.ShapesAt.same s8 S7
        have Ix8 := ixat_keep (KeepN.of s8) Ix7
        have t8 := t7.ext s8
        have hx8 := (KeepN.of s8).t hx
        refine sa1 ⟨_, rfl, gn ?_⟩
        refine at_stD (σ' := [some (.ref l0), some (.ref a), some (.int (0 + (i : Nat))), some (.ref d), some (.ref qi), v5, some (.ref p), some (.ref tt), some (.ref p), v9, v10, v11, v12, v13, v14, v15]) rfl ?_
        suffices go : ∀ (p' : Addr) (S' : Stm) (H9 : Hp) (v9 v10 v11 v12 : Option V), HAt H9 a b → KeepN H8 H9 → SmAt K H9 p' S' → BareS sh S S' → tSeq _ _ _ [some (.ref l0), some (.ref a), some (.int (0 + (i : Nat))), some (.ref d), some (.ref qi), v5, some (.ref p), some (.ref tt), some (.ref p'), v9, v10, v11, v12, v13, v14, v15] H9 by
          by_cases ask : ∃ how ts tabs c ob fi, S = .ask how ts tabs c ob fi
          · obtain ⟨how, ts, tabs, c, ob, fi, rfl⟩ := ask
            have er := ht _ _ _ _ _ _ rfl
            obtain ⟨q, r, v, bb, ea, tq, _, ec, tb⟩ := hp8
            obtain ⟨_, l3, o3, ht', ho', hc', _, tl3, htb⟩ := st
            have okt : ∀ t ∈ tabs, PyData.strOk t = true := fun t m => (htb t m).2.1
            have er8 := (KeepN.of s8).t er
            refine ifs ⟨_, rfl, p, _, 0, _, rfl, rfl, ea, rfl, rfl, _, rfl, ?_⟩
            rw [vS, show decide (Str.ofString "ask" = Str.ofString "ask") = true from decide_eq_true rfl]
            refine iteT ?_
            dsimp only
            refine sa1 (te_bareL (xs := _) (j := 2) ea rfl tq ht' l3 B8 S8 er8 okt (by omega) fun qt ts' H9 B9 kp9 tq9 pw1 => gn ?_)
            have k9 := kp9.n B8
            refine at_stD (σ' := [some (.ref l0), some (.ref a), some (.int (0 + (i : Nat))), some (.ref d), some (.ref qi), v5, some (.ref p), some (.ref tt), some (.ref p), some (.ref qt), v10, v11, v12, v13, v14, v15]) rfl ?_
            refine sa1 (te_bareL (xs := _) (j := 5) (k9.t ea) rfl (tb.mono fun _ _ z => k9.t z) ho' o3 B9 (S8.keep k9) (k9.t er8) okt (by omega) fun qo ob' H10 B10 kp10 tq10 pw2 => gn ?_)
            have k10 := k9.trans (kp10.n B9)
            refine sa1 ⟨_, rfl, _, rfl, p, _, 4, _, rfl, rfl, k10.t ea, rfl, _, rfl, _, rfl, a, b, v, c, d, tt, sh, tabs, rfl, B10, ec.mono (fun _ _ z => k10.t z), fun t e => ⟨(hc' t e).1, (hc' t e).2.2, by have := (hc' t e).2.1; omega⟩, fun _ => by decide, S8.keep k10, k10.t er8, okt, by omega, fun vc c' H11 B11 kp11 hc11 bc => gn ?_⟩
            have kn11 := kp11.n B10
            have k11 := k10.trans kn11
            refine at_stD (σ' := [some (.ref l0), some (.ref a), some (.int (0 + (i : Nat))), some (.ref d), some (.ref qi), v5, some (.ref p), some (.ref tt), some (.ref p), some (.ref qt), v10, some (.ref qo), some vc, v13, v14, v15]) rfl ?_
            refine ⟨_, rfl, 2, rfl, p, _, rfl, k11.t ea, fun z => absurd z.2 (by show ¬ (HT.sIx 7 7 (some 2) = 7); decide), fun _ p2 hp2 => ⟨_, rfl, _, rfl, _, rfl, _, rfl, _, rfl, p, _, 6, _, rfl, rfl, (KeepN.of (same_new hp2)).t (k11.t ea), rfl, by show 5 ≤ sizeLine; decide, fun p3 hp3 => ?_⟩⟩
            have s3 := (same_new (o := .tup (cutV [V.str (Str.ofString "ask"), .str how, .ref q, .ref r, v, .ref bb, OiV fi] none (some 2))) hp2).trans (same_new (o := .tup [V.ref qt, .ref tt, vc, .ref qo, OiV fi]) hp3)
            refine ⟨p2, p3, _, _, rfl, rfl, (KeepN.of (same_new hp3)).t (SqT.of upd_same), SqT.of upd_same, by show 7 ≤ sizeLine; decide, fun z => (nomatch z), fun _ z => (nomatch z), fun _ _ p4 hp4 => gn ?_⟩
            have s4 := s3.trans (same_new (o := .tup (cutV [V.str (Str.ofString "ask"), .str how, .ref q, .ref r, v, .ref bb, OiV fi] none (some 2) ++ [V.ref qt, .ref tt, vc, .ref qo, OiV fi])) hp4)
            dsimp only [tNext]
            exact go p4 (.ask how ts' tabs c' ob' fi) _ _ _ _ _ (B11.same s4) (k11.trans (KeepN.of s4)) ⟨qt, tt, vc, qo, SqT.of upd_same, (tq9.mono fun _ _ z => ((kp10.n B9).trans (kn11.trans (KeepN.of s4))).t z), (k11.trans (KeepN.of s4)).t er8, hc11.mono (fun _ _ z => (KeepN.of s4).t z), tq10.mono fun _ _ z => (kn11.trans (KeepN.of s4)).t z⟩ (.ask pw1 bc pw2)
          · have nk := not_ask nw ask
            obtain ⟨xs8, hx8, x08, _⟩ := stm_tup hp8 nw
            refine ifs ⟨_, rfl, p, _, 0, _, rfl, rfl, hx8, x08, rfl, _, rfl, ?_⟩
            rw [vS, nk]
            refine iteF ?_
            dsimp only [tNext]
            exact go p S H8 _ _ _ _ B8 (KeepN.of (Same.refl _)) hp8 (.same S)
        intro p' S' H9 v9 v10 v11 v12 B9 k9 hp' bare
        obtain ⟨stB, nw'⟩ := stp_bare st nw bare
        have t9 := tabs_keepN t8 k9
        have S9 := S8.keep k9
        have Ix9 := ixat_keep k9 Ix8
        have hp9 := hp8.mono fun _ _ z => k9.t z
        have wo := due_chk (ix := fl) (nd_shapes I) stB nw'
        have ws6 := wns_mono (N := N) (wns_of stB)
        refine sa1 ⟨_, rfl, _, rfl, _, rfl, p', d, qi, sh, fl, S', rfl, hp', stB, nw', S9, Ix9, fun H10 s10 => gn ?_⟩
        have t10 := t9.ext s10
        refine at_stD (σ' := [some (.ref l0), some (.ref a), some (.int (0 + (i : Nat))), some (.ref d), some (.ref qi), v5, some (.ref p), some (.ref tt), some (.ref p'), v9, v10, v11, v12, some (.str (dueS sh fl S')), v14, v15]) rfl ?_
        have B10 := B9.same s10
        refine ifs ?_
        refine peelNe ?_
        refine te_wordL (k := k) t10 (fun fl' H11 e11 nn t11 Q' E' k1 k2 k3 => ?_)
        refine ⟨_, rfl, _, rfl, _, rfl, word_due' (SmAt.ext e11 (SmAt.same s10 hp')) ws6 (ShapesAt.ext e11 (GS.ShapesAt.same s10 S9)) (ixat_ext e11 (ixat_keep (KeepN.of s10) Ix9)) wo (fun H12 s12 => ?_) k1 k2 k3⟩
        have x12 : ExtN H10 H12 := fun b o h n => s12 _ _ (e11 b o h n)
        refine ⟨_, rfl, rfl, _, rfl, ?_⟩
        rw [vS, show decide (dueS sh fl S' = dueS sh fl S') = true from decide_eq_true rfl]
        refine iteF ?_
        have t12 := t11.ext s12
        have B12 := hat_ext B10 x12
        have h12 := SmAt.ext x12 (SmAt.same s10 hp')
        have hp12 := SmAt.ext x12 (SmAt.same s10 hp9)
        have S12 := ShapesAt.ext x12 (GS.ShapesAt.same s10 S9)
        have Ix12 := ixat_ext x12 (ixat_keep (KeepN.of s10) Ix9)
        have stB0 := st.mono fun _ h => tmb_of h
        dsimp only [tNext]
        suffices go2 : ∀ (pf : Addr) H13, Same H12 H13 → SmAt K H13 pf S → tSeq _ _ _ [some (.ref l0), some (.ref a), some (.int (0 + (i : Nat))), some (.ref d), some (.ref qi), v5, some (.ref p), some (.ref tt), some (.ref p'), v9, v10, v11, v12, some (.str (dueS sh fl S')), some (.ref pf), v15] H13 by
          refine sa1 ⟨_, rfl, rfl, _, rfl, ?_⟩
          rw [vS]
          by_cases z : dueS sh fl S' = sE
          · rw [show decide (dueS sh fl S' = Str.ofString "") = true from decide_eq_true z]
            refine iteT ⟨_, rfl, _, rfl, _, rfl, p', d, qi, sh, fl, S', rfl, h12, ws6, S12, Ix12, fun r er pf H13 s13 hpf => gn ?_, fun e ee => ?_, fun ee => ?_⟩
            · obtain rfl := chk_bare st bare er
              exact go2 pf H13 s13 hpf
            · rw [z] at wo
              obtain ⟨r, er⟩ := due_ok wo
              rw [er] at ee; cases ee
            · rw [z] at wo
              obtain ⟨r, er⟩ := due_ok wo
              rw [er] at ee; cases ee
          · rw [show decide (dueS sh fl S' = Str.ofString "") = false from decide_eq_false z]
            refine iteF ⟨_, rfl, gn ?_⟩
            exact go2 p H12 (Same.refl _) hp12
        intro pf H13 s13 hpf
        refine ifs ⟨_, rfl, _, rfl, .ref pf, .ref p, rfl, st_ak stB0 hpf (SmAt.same s13 hp12), fun H14 s14 => ⟨true, rfl, iteF ?_⟩⟩
        have s14 := s13.trans s14
        have t14 := t12.ext s14
        dsimp only [tNext]
        refine sa1 ⟨_, rfl, _, rfl, a, b, p', S', rfl, B12.same s14, SmAt.same s14 h12, stB, nw', fun p'' S'' H15 B15 kp15 h'' st'' nw'' => gn ?_⟩
        have k15 := kp15.n (B12.same s14)
        have t15 := tabs_keepN t14 k15
        have S15 := (GS.ShapesAt.same s14 S12).keep k15
        have Ix15 := ixat_keep k15 (ixat_keep (KeepN.of s14) Ix12)
        refine at_stD (σ' := [some (.ref l0), some (.ref a), some (.int (0 + (i : Nat))), some (.ref d), some (.ref qi), v5, some (.ref p), some (.ref tt), some (.ref p'), v9, v10, v11, v12, some (.str (dueS sh fl S')), some (.ref pf), some (.ref p'')]) rfl ?_
        refine sa1 ⟨_, rfl, _, rfl, _, rfl, p'', d, qi, sh, fl, S'', rfl, h'', st'', nw'', S15, Ix15, fun H16 s16 => gn ?_⟩
        refine at_stD (σ' := [some (.ref l0), some (.ref a), some (.int (0 + (i : Nat))), some (.ref d), some (.ref qi), v5, some (.ref p), some (.ref tt), some (.ref p'), v9, v10, v11, v12, some (.str (dueS sh fl S'')), some (.ref pf), some (.ref p'')]) rfl ?_
        have wo2 := due_chk (ix := fl) (nd_shapes I) st'' nw''
        have ws2 := wns_mono (N := N) (wns_of st'')
        change tTest _ _ _ _
        refine peelNe ?_
        refine te_wordL (k := k) (t15.ext s16) (fun fl' H17 e17 nn t17 Q' E' k1 k2 k3 => ?_)
        refine ⟨_, rfl, _, rfl, _, rfl, word_due' (SmAt.ext e17 (SmAt.same s16 h'')) ws2 (ShapesAt.ext e17 (GS.ShapesAt.same s16 S15)) (ixat_ext e17 (ixat_keep (KeepN.of s16) Ix15)) wo2 (fun H18 s18 => ?_) k1 k2 k3⟩
        refine ⟨_, rfl, rfl, _, rfl, ?_⟩
        rw [vS, show decide (dueS sh fl S'' = dueS sh fl S'') = true from decide_eq_true rfl]
        refine iteF ?_
        exact ⟨_, _, _, _, _, _, _, _, _, _, _, _, _, _, rfl, hat_ext (B15.same s16) (fun b o h n => s18 _ _ (e17 b o h n)), t17.ext s18⟩
      · obtain ⟨x, rfl⟩ : ∃ x, S = .word x := Classical.byContradiction fun z => nw fun x e => z ⟨x, e⟩
        have hx : SqT K H7 p [.str x] := hp
        refine ⟨_, rfl, p, _, rfl, .inr hx, _, _, rfl, rfl, _, rfl, ?_⟩
        rw [show decide ((1 : Int) < (([V.str x].length : Nat) : Int)) = false from decide_eq_false (by show ¬ (1 : Int) < 1; decide)]
        refine iteF ?_
        have wx : x ∈ words3 := st
        refine ⟨_, rfl, _, rfl, p, d, tz, sh, [], .word x, rfl, hp, wx, S7, ⟨[], htz _, .nil, fun _ z => (nomatch z)⟩, fun r er pf H13 s13 hpf => ?_, fun e ee => (nomatch ee), fun ee => (nomatch ee)⟩
        cases er
        refine ⟨_, rfl, _, _, dp_st hpf, dp_st (SmAt.same s13 hp), word_shaped wx, word_shaped wx, _, rfl, ?_⟩
        rw [show PyData.eqv (pdSt (.word x)) (pdSt (.word x)) = true from word_eqv wx]
        refine iteF ?_
        exact ⟨_, _, _, _, _, _, _, _, _, _, _, _, _, _, rfl, B7.same s13, t7.ext s13⟩
    · rintro σ H5 ⟨v2, v3, v4, v5, v6, v7, v8, v9, v10, v11, v12, v13, v14, v15, rfl, _, _⟩
      exact kk _

end
end GS


set_option Elab.async false
set_option maxRecDepth 100000
set_option maxHeartbeats 4000000
namespace GS
open PySem L2 HX
open K06 hiding gn sa1 sif cb1 and2 or2 pw_mono Txt Cal
end GS
namespace K06
open PySem L2
section
variable {P : Program} {w : World} {K : PySem.W.Frag} {mg : Str → Option Value} {base : Heap}
theorem all_cond {f fn ft : Addr} {fd fdn fdt : FuncData} (F : Fun K "_law_cond" "_law_cond" sLcond f fd) (T : Txt mg) (Cnext : Cal P w K mg base 1 "_law_next" ["_law_h", "_law_many"] spNext fn fdn) (Cterm : Cal P w K mg base 4 "_law_term" ["_law_h", "_law_fields", "_law_deep"] (spTerm K 2) ft fdt)
    (g : mg "_law_cond" = some (.ref f)) (b : Binds K fd ["_law_h", "_law_fields", "_law_deep"] []) : ∀ n : Nat, FnOk P w K mg base CX0 (n + 4) f fd ["_law_h", "_law_fields", "_law_deep"] (spCond K n)
  | 0 => none_left fun vs H Q E h => by
    obtain ⟨_, _, _, _, dp, _, h0, h1, _⟩ := h
    omega
  | n + 1 => ok_cond F T (Cnext.mono (by omega)) (Cterm.mono (by omega)) ⟨g, F.kp, b, all_cond F T Cnext Cterm g b n⟩
end
end K06
namespace GS
open PySem L2
theorem all_mk {l : PySem.W.OpenLaw} {w : World} {K : PySem.W.Frag} {h : Heap} {mg : Str → Option Value} {fa f1 f2 f3 f4 f5 f6 f7 f8 f9 f10 f11 f12 f13 f14 f15 f16 f17 f18 f19 f20 f21 f22 f23 f24 f25 f26 f27 f28 f29 f30 f31 f32 f33 f34 : Addr} (X : K.In h) (G : h.Ns mainGlobals mg) (hfa : mg "law" = some (.ref fa))
    {od1 an1 od2 an2 od3 an3 od4 an4 od5 an5 od6 an6 od7 an7 od8 an8 od9 an9 od10 an10 od11 an11 od12 an12 od13 an13 od14 an14 od15 an15 od16 an16 od17 an17 od18 an18 od19 an19 od20 an20 od21 an21 od22 an22 od23 an23 od24 an24 od25 an25 od26 an26 od27 an27 od28 an28 od29 an29 od30 an30 od31 an31 od32 an32 od33 an33 od34 an34 : Option Addr} {CT CR CS NT hI cc cda fj fC Tq tz cB PB cK PK : Addr} {nmT qT : Str} {bsT : List Value} {snT : List Str} {subT : List Value} {abT : Bool} {colT : Option Bool} {ddT : Option Addr} {m0 m1 m2 m3 m5 : Option Value}
    {ocI kVI dcI pmI ctI : Value} {odI anI : Option Addr} {slI : Array (Option Value)} {clC : Value} {cldC : Option Addr} {cslC : Array (Option Value)} {cclD : Value} {cddD : Option Addr} {vsD : Array Value} {ccsD : Array (Option Value)} {fileD : Str} {tfD : Tok} {cdT : ClassData}
    {odJ odQ odZ odC anC : Option Addr} {itJ itQ itZ : Array Value} {nJ nQ nZ : Nat} {slJ slQ slZ slC : Array (Option Value)} {ocC kVC dcC pmC cdC ctC : Value} {sl1 sl2 sl3 sl4 sl5 sl6 sl7 sl8 sl9 sl10 sl11 sl12 sl13 sl14 sl15 sl16 sl17 sl18 sl19 sl20 sl21 sl22 sl23 sl24 sl25 sl26 sl27 sl28 sl29 sl30 sl31 sl32 sl33 sl34 : Array (Option Value)} {oc1 kV1 dc1 pm1 cd1 ct1 oc2 kV2 dc2 pm2 cd2 ct2 oc3 kV3 dc3 pm3 cd3 ct3 oc4 kV4 dc4 pm4 cd4 ct4 oc5 kV5 dc5 pm5 cd5 ct5 oc6 kV6 dc6 pm6 cd6 ct6 oc7 kV7 dc7 pm7 cd7 ct7 oc8 kV8 dc8 pm8 cd8 ct8 oc9 kV9 dc9 pm9 cd9 ct9 oc10 kV10 dc10 pm10 cd10 ct10 oc11 kV11 dc11 pm11 cd11 ct11 oc12 kV12 dc12 pm12 cd12 ct12 oc13 kV13 dc13 pm13 cd13 ct13 oc14 kV14 dc14 pm14 cd14 ct14 oc15 kV15 dc15 pm15 cd15 ct15 oc16 kV16 dc16 pm16 cd16 ct16 oc17 kV17 dc17 pm17 cd17 ct17 oc18 kV18 dc18 pm18 cd18 ct18 oc19 kV19 dc19 pm19 cd19 ct19 oc20 kV20 dc20 pm20 cd20 ct20 oc21 kV21 dc21 pm21 cd21 ct21 oc22 kV22 dc22 pm22 cd22 ct22 oc23 kV23 dc23 pm23 cd23 ct23 oc24 kV24 dc24 pm24 cd24 ct24 oc25 kV25 dc25 pm25 cd25 ct25 oc26 kV26 dc26 pm26 cd26 ct26 oc27 kV27 dc27 pm27 cd27 ct27 oc28 kV28 dc28 pm28 cd28 ct28 oc29 kV29 dc29 pm29 cd29 ct29 oc30 kV30 dc30 pm30 cd30 ct30 oc31 kV31 dc31 pm31 cd31 ct31 oc32 kV32 dc32 pm32 cd32 ct32 oc33 kV33 dc33 pm33 ct33 oc34 kV34 dc34 pm34 ct34 : Value}
    (a1 : PySem.W.nsIn K mainGlobals "check_table" = some (some (.ref f1))) (l1 : K.lookup f1 = some ⟨oc1, od1, .func (PySem.W.fnOf "check_table" "check_table" (defArgs s_check_table) (defBody s_check_table) (defScope s_check_table) .none kV1 dc1 pm1 an1 cd1 ct1), sl1⟩) (c1 : PySem.W.codeIn K cd1 "check_table" = true) (k1 : PySem.W.keepIn K (.ref f1) = true)
    (a2 : PySem.W.nsIn K mainGlobals "check_index" = some (some (.ref f2))) (l2 : K.lookup f2 = some ⟨oc2, od2, .func (PySem.W.fnOf "check_index" "check_index" (defArgs s_check_index) (defBody s_check_index) (defScope s_check_index) .none kV2 dc2 pm2 an2 cd2 ct2), sl2⟩) (c2 : PySem.W.codeIn K cd2 "check_index" = true) (k2 : PySem.W.keepIn K (.ref f2) = true)
    (a3 : PySem.W.nsIn K mainGlobals "check_there" = some (some (.ref f3))) (l3 : K.lookup f3 = some ⟨oc3, od3, .func (PySem.W.fnOf "check_there" "check_there" (defArgs s_check_there) (defBody s_check_there) (defScope s_check_there) .none kV3 dc3 pm3 an3 cd3 ct3), sl3⟩) (c3 : PySem.W.codeIn K cd3 "check_there" = true) (k3 : PySem.W.keepIn K (.ref f3) = true)
    (a4 : PySem.W.nsIn K mainGlobals "check_no_key" = some (some (.ref f4))) (l4 : K.lookup f4 = some ⟨oc4, od4, .func (PySem.W.fnOf "check_no_key" "check_no_key" (defArgs s_check_no_key) (defBody s_check_no_key) (defScope s_check_no_key) .none kV4 dc4 pm4 an4 cd4 ct4), sl4⟩) (c4 : PySem.W.codeIn K cd4 "check_no_key" = true) (k4 : PySem.W.keepIn K (.ref f4) = true)
    (a5 : PySem.W.nsIn K mainGlobals "check_put" = some (some (.ref f5))) (l5 : K.lookup f5 = some ⟨oc5, od5, .func (PySem.W.fnOf "check_put" "check_put" (defArgs s_check_put) (defBody s_check_put) (defScope s_check_put) .none kV5 dc5 pm5 an5 cd5 ct5), sl5⟩) (c5 : PySem.W.codeIn K cd5 "check_put" = true) (k5 : PySem.W.keepIn K (.ref f5) = true)
    (a6 : PySem.W.nsIn K mainGlobals "checked_set" = some (some (.ref f6))) (l6 : K.lookup f6 = some ⟨oc6, od6, .func (PySem.W.fnOf "checked_set" "checked_set" (defArgs s_checked_set) (defBody s_checked_set) (defScope s_checked_set) .none kV6 dc6 pm6 an6 cd6 ct6), sl6⟩) (c6 : PySem.W.codeIn K cd6 "checked_set" = true) (k6 : PySem.W.keepIn K (.ref f6) = true)
    (a7 : PySem.W.nsIn K mainGlobals "checked_strike" = some (some (.ref f7))) (l7 : K.lookup f7 = some ⟨oc7, od7, .func (PySem.W.fnOf "checked_strike" "checked_strike" (defArgs s_checked_strike) (defBody s_checked_strike) (defScope s_checked_strike) .none kV7 dc7 pm7 an7 cd7 ct7), sl7⟩) (c7 : PySem.W.codeIn K cd7 "checked_strike" = true) (k7 : PySem.W.keepIn K (.ref f7) = true)
    (a8 : PySem.W.nsIn K mainGlobals "checked_ask" = some (some (.ref f8))) (l8 : K.lookup f8 = some ⟨oc8, od8, .func (PySem.W.fnOf "checked_ask" "checked_ask" (defArgs s_checked_ask) (defBody s_checked_ask) (defScope s_checked_ask) .none kV8 dc8 pm8 an8 cd8 ct8), sl8⟩) (c8 : PySem.W.codeIn K cd8 "checked_ask" = true) (k8 : PySem.W.keepIn K (.ref f8) = true)
    (a9 : PySem.W.nsIn K mainGlobals "check_asked" = some (some (.ref f9))) (l9 : K.lookup f9 = some ⟨oc9, od9, .func (PySem.W.fnOf "check_asked" "check_asked" (defArgs s_check_asked) (defBody s_check_asked) (defScope s_check_asked) .none kV9 dc9 pm9 an9 cd9 ct9), sl9⟩) (c9 : PySem.W.codeIn K cd9 "check_asked" = true) (k9 : PySem.W.keepIn K (.ref f9) = true)
    (a10 : PySem.W.nsIn K mainGlobals "filled_all" = some (some (.ref f10))) (l10 : K.lookup f10 = some ⟨oc10, od10, .func (PySem.W.fnOf "filled_all" "filled_all" (defArgs s_filled_all) (defBody s_filled_all) (defScope s_filled_all) .none kV10 dc10 pm10 an10 cd10 ct10), sl10⟩) (c10 : PySem.W.codeIn K cd10 "filled_all" = true) (k10 : PySem.W.keepIn K (.ref f10) = true)
    (a11 : PySem.W.nsIn K mainGlobals "filled_where" = some (some (.ref f11))) (l11 : K.lookup f11 = some ⟨oc11, od11, .func (PySem.W.fnOf "filled_where" "filled_where" (defArgs s_filled_where) (defBody s_filled_where) (defScope s_filled_where) .none kV11 dc11 pm11 an11 cd11 ct11), sl11⟩) (c11 : PySem.W.codeIn K cd11 "filled_where" = true) (k11 : PySem.W.keepIn K (.ref f11) = true)
    (a12 : PySem.W.nsIn K mainGlobals "filled" = some (some (.ref f12))) (l12 : K.lookup f12 = some ⟨oc12, od12, .func (PySem.W.fnOf "filled" "filled" (defArgs s_filled) (defBody s_filled) (defScope s_filled) .none kV12 dc12 pm12 an12 cd12 ct12), sl12⟩) (c12 : PySem.W.codeIn K cd12 "filled" = true) (k12 : PySem.W.keepIn K (.ref f12) = true)
    (a13 : PySem.W.nsIn K mainGlobals "filled_start" = some (some (.ref f13))) (l13 : K.lookup f13 = some ⟨oc13, od13, .func (PySem.W.fnOf "filled_start" "filled_start" (defArgs s_filled_start) (defBody s_filled_start) (defScope s_filled_start) .none kV13 dc13 pm13 an13 cd13 ct13), sl13⟩) (c13 : PySem.W.codeIn K cd13 "filled_start" = true) (k13 : PySem.W.keepIn K (.ref f13) = true)
    (a14 : PySem.W.nsIn K mainGlobals "filled_field" = some (some (.ref f14))) (l14 : K.lookup f14 = some ⟨oc14, od14, .func (PySem.W.fnOf "filled_field" "filled_field" (defArgs s_filled_field) (defBody s_filled_field) (defScope s_filled_field) .none kV14 dc14 pm14 an14 cd14 ct14), sl14⟩) (c14 : PySem.W.codeIn K cd14 "filled_field" = true) (k14 : PySem.W.keepIn K (.ref f14) = true)
    (a15 : PySem.W.nsIn K mainGlobals "only_table" = some (some (.ref f15))) (l15 : K.lookup f15 = some ⟨oc15, od15, .func (PySem.W.fnOf "only_table" "only_table" (defArgs s_only_table) (defBody s_only_table) (defScope s_only_table) .none kV15 dc15 pm15 an15 cd15 ct15), sl15⟩) (c15 : PySem.W.codeIn K cd15 "only_table" = true) (k15 : PySem.W.keepIn K (.ref f15) = true)
    (a16 : PySem.W.nsIn K mainGlobals "_law_mix" = some (some (.ref f16))) (l16 : K.lookup f16 = some ⟨oc16, od16, .func (PySem.W.fnOf "_law_mix" "_law_mix" (defArgs s_l_mix) (defBody s_l_mix) (defScope s_l_mix) .none kV16 dc16 pm16 an16 cd16 ct16), sl16⟩) (c16 : PySem.W.codeIn K cd16 "_law_mix" = true) (k16 : PySem.W.keepIn K (.ref f16) = true)
    (a17 : PySem.W.nsIn K mainGlobals "_law_next" = some (some (.ref f17))) (l17 : K.lookup f17 = some ⟨oc17, od17, .func (PySem.W.fnOf "_law_next" "_law_next" (defArgs s_l_next) (defBody s_l_next) (defScope s_l_next) .none kV17 dc17 pm17 an17 cd17 ct17), sl17⟩) (c17 : PySem.W.codeIn K cd17 "_law_next" = true) (k17 : PySem.W.keepIn K (.ref f17) = true)
    (a18 : PySem.W.nsIn K mainGlobals "_law_alike" = some (some (.ref f18))) (l18 : K.lookup f18 = some ⟨oc18, od18, .func (PySem.W.fnOf "_law_alike" "_law_alike" (defArgs s_l_alike) (defBody s_l_alike) (defScope s_l_alike) .none kV18 dc18 pm18 an18 cd18 ct18), sl18⟩) (c18 : PySem.W.codeIn K cd18 "_law_alike" = true) (k18 : PySem.W.keepIn K (.ref f18) = true)
    (a19 : PySem.W.nsIn K mainGlobals "_law_shapes" = some (some (.ref f19))) (l19 : K.lookup f19 = some ⟨oc19, od19, .func (PySem.W.fnOf "_law_shapes" "_law_shapes" (defArgs s_l_shapes) (defBody s_l_shapes) (defScope s_l_shapes) .none kV19 dc19 pm19 an19 cd19 ct19), sl19⟩) (c19 : PySem.W.codeIn K cd19 "_law_shapes" = true) (k19 : PySem.W.keepIn K (.ref f19) = true)
    (a20 : PySem.W.nsIn K mainGlobals "_law_number" = some (some (.ref f20))) (l20 : K.lookup f20 = some ⟨oc20, od20, .func (PySem.W.fnOf "_law_number" "_law_number" (defArgs s_l_number) (defBody s_l_number) (defScope s_l_number) .none kV20 dc20 pm20 an20 cd20 ct20), sl20⟩) (c20 : PySem.W.codeIn K cd20 "_law_number" = true) (k20 : PySem.W.keepIn K (.ref f20) = true)
    (a21 : PySem.W.nsIn K mainGlobals "_law_term" = some (some (.ref f21))) (l21 : K.lookup f21 = some ⟨oc21, od21, .func (PySem.W.fnOf "_law_term" "_law_term" (defArgs s_l_term) (defBody s_l_term) (defScope s_l_term) .none kV21 dc21 pm21 an21 cd21 ct21), sl21⟩) (c21 : PySem.W.codeIn K cd21 "_law_term" = true) (k21 : PySem.W.keepIn K (.ref f21) = true)
    (a22 : PySem.W.nsIn K mainGlobals "_law_cond" = some (some (.ref f22))) (l22 : K.lookup f22 = some ⟨oc22, od22, .func (PySem.W.fnOf "_law_cond" "_law_cond" (defArgs s_l_cond) (defBody s_l_cond) (defScope s_l_cond) .none kV22 dc22 pm22 an22 cd22 ct22), sl22⟩) (c22 : PySem.W.codeIn K cd22 "_law_cond" = true) (k22 : PySem.W.keepIn K (.ref f22) = true)
    (a23 : PySem.W.nsIn K mainGlobals "_law_some" = some (some (.ref f23))) (l23 : K.lookup f23 = some ⟨oc23, od23, .func (PySem.W.fnOf "_law_some" "_law_some" (defArgs s_l_some) (defBody s_l_some) (defScope s_l_some) .none kV23 dc23 pm23 an23 cd23 ct23), sl23⟩) (c23 : PySem.W.codeIn K cd23 "_law_some" = true) (k23 : PySem.W.keepIn K (.ref f23) = true)
    (a24 : PySem.W.nsIn K mainGlobals "_law_ask" = some (some (.ref f24))) (l24 : K.lookup f24 = some ⟨oc24, od24, .func (PySem.W.fnOf "_law_ask" "_law_ask" (defArgs s_l_ask) (defBody s_l_ask) (defScope s_l_ask) .none kV24 dc24 pm24 an24 cd24 ct24), sl24⟩) (c24 : PySem.W.codeIn K cd24 "_law_ask" = true) (k24 : PySem.W.keepIn K (.ref f24) = true)
    (a25 : PySem.W.nsIn K mainGlobals "_law_statement" = some (some (.ref f25))) (l25 : K.lookup f25 = some ⟨oc25, od25, .func (PySem.W.fnOf "_law_statement" "_law_statement" (defArgs s_l_statement) (defBody s_l_statement) (defScope s_l_statement) .none kV25 dc25 pm25 an25 cd25 ct25), sl25⟩) (c25 : PySem.W.codeIn K cd25 "_law_statement" = true) (k25 : PySem.W.keepIn K (.ref f25) = true)
    (a26 : PySem.W.nsIn K mainGlobals "_law_word" = some (some (.ref f26))) (l26 : K.lookup f26 = some ⟨oc26, od26, .func (PySem.W.fnOf "_law_word" "_law_word" (defArgs s_l_word) (defBody s_l_word) (defScope s_l_word) .none kV26 dc26 pm26 an26 cd26 ct26), sl26⟩) (c26 : PySem.W.codeIn K cd26 "_law_word" = true) (k26 : PySem.W.keepIn K (.ref f26) = true)
    (a27 : PySem.W.nsIn K mainGlobals "_law_bare" = some (some (.ref f27))) (l27 : K.lookup f27 = some ⟨oc27, od27, .func (PySem.W.fnOf "_law_bare" "_law_bare" (defArgs s_l_bare) (defBody s_l_bare) (defScope s_l_bare) .none kV27 dc27 pm27 an27 cd27 ct27), sl27⟩) (c27 : PySem.W.codeIn K cd27 "_law_bare" = true) (k27 : PySem.W.keepIn K (.ref f27) = true)
    (a28 : PySem.W.nsIn K mainGlobals "_law_first" = some (some (.ref f28))) (l28 : K.lookup f28 = some ⟨oc28, od28, .func (PySem.W.fnOf "_law_first" "_law_first" (defArgs s_l_first) (defBody s_l_first) (defScope s_l_first) .none kV28 dc28 pm28 an28 cd28 ct28), sl28⟩) (c28 : PySem.W.codeIn K cd28 "_law_first" = true) (k28 : PySem.W.keepIn K (.ref f28) = true)
    (a29 : PySem.W.nsIn K mainGlobals "_law_due" = some (some (.ref f29))) (l29 : K.lookup f29 = some ⟨oc29, od29, .func (PySem.W.fnOf "_law_due" "_law_due" (defArgs s_l_due) (defBody s_l_due) (defScope s_l_due) .none kV29 dc29 pm29 an29 cd29 ct29), sl29⟩) (c29 : PySem.W.codeIn K cd29 "_law_due" = true) (k29 : PySem.W.keepIn K (.ref f29) = true)
    (a30 : PySem.W.nsIn K mainGlobals "_law_leaves" = some (some (.ref f30))) (l30 : K.lookup f30 = some ⟨oc30, od30, .func (PySem.W.fnOf "_law_leaves" "_law_leaves" (defArgs s_l_leaves) (defBody s_l_leaves) (defScope s_l_leaves) .none kV30 dc30 pm30 an30 cd30 ct30), sl30⟩) (c30 : PySem.W.codeIn K cd30 "_law_leaves" = true) (k30 : PySem.W.keepIn K (.ref f30) = true)
    (a31 : PySem.W.nsIn K mainGlobals "_law_put" = some (some (.ref f31))) (l31 : K.lookup f31 = some ⟨oc31, od31, .func (PySem.W.fnOf "_law_put" "_law_put" (defArgs s_l_put) (defBody s_l_put) (defScope s_l_put) .none kV31 dc31 pm31 an31 cd31 ct31), sl31⟩) (c31 : PySem.W.codeIn K cd31 "_law_put" = true) (k31 : PySem.W.keepIn K (.ref f31) = true)
    (a32 : PySem.W.nsIn K mainGlobals "_law_bent" = some (some (.ref f32))) (l32 : K.lookup f32 = some ⟨oc32, od32, .func (PySem.W.fnOf "_law_bent" "_law_bent" (defArgs s_l_bent) (defBody s_l_bent) (defScope s_l_bent) .none kV32 dc32 pm32 an32 cd32 ct32), sl32⟩) (c32 : PySem.W.codeIn K cd32 "_law_bent" = true) (k32 : PySem.W.keepIn K (.ref f32) = true)
    (a33 : PySem.W.nsIn K mainGlobals "_law_known" = some (some (.ref f33))) (l33 : K.lookup f33 = some ⟨oc33, od33, .func (PySem.W.fnOf "_law_known" "_law_known" (defArgs s_l_known) (defBody s_l_known) (defScope s_l_known) .none kV33 dc33 pm33 an33 (.ref cK) ct33), sl33⟩) (c33 : PySem.W.codeIn K (.ref cK) "_law_known" = true) (k33 : PySem.W.keepIn K (.ref f33) = true)
    (a34 : PySem.W.nsIn K mainGlobals "law" = some (some (.ref f34))) (l34 : K.lookup f34 = some ⟨oc34, od34, .func (PySem.W.fnOf "law" "law" (defArgs s_law) (defBody s_law) (defScope s_law) .none kV34 dc34 pm34 an34 (.ref cB) ct34), sl34⟩) (c34 : PySem.W.codeIn K (.ref cB) "law" = true) (k34 : PySem.W.keepIn K (.ref f34) = true)
    (z_len : PySem.W.nsIn K mainGlobals "len" = some none) (z_range : PySem.W.nsIn K mainGlobals "range" = some none) (z_list : PySem.W.nsIn K mainGlobals "list" = some none) (z_tuple : PySem.W.nsIn K mainGlobals "tuple" = some none) (z_int : PySem.W.nsIn K mainGlobals "int" = some none) (z_isinstance : PySem.W.nsIn K mainGlobals "isinstance" = some none) (z_dict : PySem.W.nsIn K mainGlobals "dict" = some none) (z_bool : PySem.W.nsIn K mainGlobals "bool" = some none) (z_str : PySem.W.nsIn K mainGlobals "str" = some none) (z_min : PySem.W.nsIn K mainGlobals "min" = some none) (z_sorted : PySem.W.nsIn K mainGlobals "sorted" = some none) (z_enumerate : PySem.W.nsIn K mainGlobals "enumerate" = some none) (z_max : PySem.W.nsIn K mainGlobals "max" = some none) (z_super : PySem.W.nsIn K mainGlobals "super" = some none)
    (aT : PySem.W.nsIn K mainGlobals "BadName" = some (some (.ref CT)))
    (aR : PySem.W.nsIn K mainGlobals "BadRow" = some (some (.ref CR)))
    (aS : PySem.W.nsIn K mainGlobals "StoreError" = some (some (.ref CS)))
    (xL : K.lookup CT = some (excClassObj nmT qT CT NT bsT [.ref CS, .type "ValueError", .type "Exception", .type "BaseException", .type "object"] true snT subT abT colT ddT m0 m1 m2 m3 m5 "ValueError.__new__"))
    (sa : PySem.W.findIn K (.ref CT) "__setattr__" = some (some (.builtin "object.__setattr__")))
    (bE : PySem.W.subIn K (.ref CT) (.type "BaseException") = some true)
    (tC : PySem.W.typeIn K (.ref CT) = some (.type "type"))
    (kC : PySem.W.keepIn K (.ref CT) = true)
    (iC : PySem.W.findIn K (.ref CT) "__init__" = some (some (.ref hI)))
    (tI2 : PySem.W.typeIn K (.ref hI) = some (.type "function"))
    (np : PySem.W.findIn K (.ref CT) "word" = some none)
    (lI : K.lookup hI = some ⟨ocI, odI, .func (PySem.W.fnX "__init__" "BadName.__init__" (defArgs s_BadName___init__) (defBody s_BadName___init__) (defScope s_BadName___init__) [("__class__", cc)] .none kVI dcI pmI anI (.ref cda) ctI), slI⟩)
    (cI : PySem.W.codeIn K (.ref cda) "BadName.__init__" = true)
    (cell : K.lookup cc = some ⟨clC, cldC, .cell (some (.ref CT)), cslC⟩)
    (code : K.lookup cda = some ⟨cclD, cddD, .fields vsD, ccsD⟩)
    (cod2 : vsD[2]? = some (.str fileD tfD))
    (file : ((l.prog.main.file : Str) == fileD) = true)
    (stat : PySem.W.nsIn K cStatics "thirdparty.any" = some none)
    (clsM : PySem.W.clsIn K CT = some cdT)
    (mroM : PySem.W.alongIn K "__init__" ((cdT.mro.dropWhile (· != .ref CT)).drop 1) = some (some (.builtin "ValueError.__init__")))
    (self : PySem.W.mroIn K CT (.ref CT) = some true)
    (veS : PySem.W.subIn K (.ref CT) (.type "ValueError") = some true)
    (top : (l.prog.main.scope.names.lookup ("super" : Str)).isSome = false)
    (e1 : PySem.W.findIn K (.ref CT) "__getattribute__" = some (some (.builtin "BaseException.__getattribute__")))
    (e2 : PySem.W.findIn K (.ref CT) "__getattr__" = some none)
    (e4 : PySem.W.hasDictIn K CT = true)
    (e5 : PySem.W.findIn K (.ref CT) "__class__" = some (some (.builtin "object.__class__")))
    (e8 : PySem.W.mroIn K CT (.type "object") = some true)
    (sp6 : PySem.W.specialIn K (.builtin "object.__class__") "__get__" = some (some (.builtin "getset_descriptor.__get__")))
    (sp7 : PySem.W.takesIn K (.builtin "object.__class__") = some true)
    (y1 : PySem.W.findIn K (.ref CR) "__getattribute__" = some (some (.builtin "BaseException.__getattribute__")))
    (y2 : PySem.W.findIn K (.ref CR) "__getattr__" = some none)
    (y3 : PySem.W.subIn K (.ref CR) (.type "BaseException") = some true)
    (y4 : PySem.W.hasDictIn K CR = true)
    (y5 : PySem.W.findIn K (.ref CR) "__class__" = some (some (.builtin "object.__class__")))
    (y8 : PySem.W.mroIn K CR (.type "object") = some true)
    (yx : PySem.W.excIn K CR [.type "ValueError", .type "Exception", .type "BaseException", .type "object"] "ValueError.__new__" = true)
    (yk : PySem.W.keepIn K (.ref CR) = true)
    (yt : PySem.W.typeIn K (.ref CR) = some (.type "type"))
    (nn : PySem.W.exmOne K (.ref CT) (.ref CT) = some true)
    (nr : PySem.W.exmOne K (.ref CT) (.ref CR) = some false)
    (rn : PySem.W.exmOne K (.ref CR) (.ref CT) = some false)
    (rr : PySem.W.exmOne K (.ref CR) (.ref CR) = some true)
    (k1s : PySem.W.kitOne K (.ref CT) (.ref CS) = some true)
    (k2s : PySem.W.kitOne K (.ref CR) (.ref CS) = some true)
    (aJ : PySem.W.nsIn K mainGlobals "JOINING" = some (some (.ref fj)))
    (lJ : K.lookup fj = some ⟨.type "tuple", odJ, .seq itJ nJ, slJ⟩)
    (hJ : itJ.size ≤ sizeLine)
    (vJ : Vals (K06.joins.map V.str) itJ.toList)
    (aCh : PySem.W.nsIn K mainGlobals "checked" = some (some (.ref fC)))
    (lCh : K.lookup fC = some ⟨ocC, odC, .func (PySem.W.fnOf "checked" "checked" (defArgs s_checked) (defBody s_checked) (defScope s_checked) (.ref Tq) kVC dcC pmC anC cdC ctC), slC⟩)
    (cCh : PySem.W.codeIn K cdC "checked" = true)
    (kCh : PySem.W.keepIn K (.ref fC) = true)
    (lTq : K.lookup Tq = some ⟨.type "tuple", odQ, .seq itQ nQ, slQ⟩)
    (vTq : Vals [.ref tz] itQ.toList)
    (lTz : K.lookup tz = some ⟨.type "tuple", odZ, .seq itZ nZ, slZ⟩)
    (hZ : itZ.size ≤ sizeLine)
    (vZ : Vals [] itZ.toList)
    (tI : PySem.W.tabIn K "law" = some (cB, PB))
    (tK : PySem.W.tabIn K "_law_known" = some (cK, PK))
    (hB : PySem.W.codeHdIn K cB PB = true)
    (hK : PySem.W.codeHdIn K cK PK = true)
    (nP : K.lookup PB = none)
    (nPK : K.lookup PK = none)
    (nPQ : PB ≠ PK)
    (hB0 : h.get? PB = some { cls := .none, data := .fields #[] })
    (hK0 : h.get? PK = some { cls := .none, data := .fields #[] })
    : LamX.LawAtS l w K CX0 23 63 "_law_script" mg fa h := by
  have e := hfa.symm.trans (PySem.W.mg_of X G a34)
  cases e
  have m_len : mg "len" = none := PySem.W.mg_none_of X G z_len
  have m_range : mg "range" = none := PySem.W.mg_none_of X G z_range
  have m_list : mg "list" = none := PySem.W.mg_none_of X G z_list
  have m_tuple : mg "tuple" = none := PySem.W.mg_none_of X G z_tuple
  have m_int : mg "int" = none := PySem.W.mg_none_of X G z_int
  have m_isinstance : mg "isinstance" = none := PySem.W.mg_none_of X G z_isinstance
  have m_dict : mg "dict" = none := PySem.W.mg_none_of X G z_dict
  have m_bool : mg "bool" = none := PySem.W.mg_none_of X G z_bool
  have m_str : mg "str" = none := PySem.W.mg_none_of X G z_str
  have m_min : mg "min" = none := PySem.W.mg_none_of X G z_min
  have m_sorted : mg "sorted" = none := PySem.W.mg_none_of X G z_sorted
  have m_enumerate : mg "enumerate" = none := PySem.W.mg_none_of X G z_enumerate
  have m_max : mg "max" = none := PySem.W.mg_none_of X G z_max
  have m_super : mg "super" = none := PySem.W.mg_none_of X G z_super
  have F1 := fun_mk (st := s_check_table) l1 c1 k1
  have g1 : mg "check_table" = some (.ref f1) := PySem.W.mg_of X G a1
  have b1 := F1.binds (ps := ["tree", "shapes"]) fun _ _ _ _ _ _ us hl => match us, hl with | [_, _], _ => rfl
  have F2 := fun_mk (st := s_check_index) l2 c2 k2
  have g2 : mg "check_index" = some (.ref f2) := PySem.W.mg_of X G a2
  have b2 := F2.binds (ps := ["tree", "shapes", "indexes"]) fun _ _ _ _ _ _ us hl => match us, hl with | [_, _, _], _ => rfl
  have F3 := fun_mk (st := s_check_there) l3 c3 k3
  have g3 : mg "check_there" = some (.ref f3) := PySem.W.mg_of X G a3
  have b3 := F3.binds (ps := ["name", "shapes"]) fun _ _ _ _ _ _ us hl => match us, hl with | [_, _], _ => rfl
  have F4 := fun_mk (st := s_check_no_key) l4 c4 k4
  have g4 : mg "check_no_key" = some (.ref f4) := PySem.W.mg_of X G a4
  have b4 := F4.binds (ps := ["field", "fields"]) fun _ _ _ _ _ _ us hl => match us, hl with | [_, _], _ => rfl
  have F5 := fun_mk (st := s_check_put) l5 c5 k5
  have g5 : mg "check_put" = some (.ref f5) := PySem.W.mg_of X G a5
  have b5 := F5.binds (ps := ["tree", "shapes"]) fun _ _ _ _ _ _ us hl => match us, hl with | [_, _], _ => rfl
  have F6 := fun_mk (st := s_checked_set) l6 c6 k6
  have g6 : mg "checked_set" = some (.ref f6) := PySem.W.mg_of X G a6
  have b6 := F6.binds (ps := ["tree", "shapes"]) fun _ _ _ _ _ _ us hl => match us, hl with | [_, _], _ => rfl
  have F7 := fun_mk (st := s_checked_strike) l7 c7 k7
  have g7 : mg "checked_strike" = some (.ref f7) := PySem.W.mg_of X G a7
  have b7 := F7.binds (ps := ["tree", "shapes"]) fun _ _ _ _ _ _ us hl => match us, hl with | [_, _], _ => rfl
  have F8 := fun_mk (st := s_checked_ask) l8 c8 k8
  have g8 : mg "checked_ask" = some (.ref f8) := PySem.W.mg_of X G a8
  have b8 := F8.binds (ps := ["tree", "shapes"]) fun _ _ _ _ _ _ us hl => match us, hl with | [_, _], _ => rfl
  have F9 := fun_mk (st := s_check_asked) l9 c9 k9
  have g9 : mg "check_asked" = some (.ref f9) := PySem.W.mg_of X G a9
  have b9 := F9.binds (ps := ["tables", "shapes"]) fun _ _ _ _ _ _ us hl => match us, hl with | [_, _], _ => rfl
  have F10 := fun_mk (st := s_filled_all) l10 c10 k10
  have g10 : mg "filled_all" = some (.ref f10) := PySem.W.mg_of X G a10
  have b10 := F10.binds (ps := ["terms", "shapes", "tables"]) fun _ _ _ _ _ _ us hl => match us, hl with | [_, _, _], _ => rfl
  have F11 := fun_mk (st := s_filled_where) l11 c11 k11
  have g11 : mg "filled_where" = some (.ref f11) := PySem.W.mg_of X G a11
  have b11 := F11.binds (ps := ["condition", "shapes", "tables"]) fun _ _ _ _ _ _ us hl => match us, hl with | [_, _, _], _ => rfl
  have F12 := fun_mk (st := s_filled) l12 c12 k12
  have g12 : mg "filled" = some (.ref f12) := PySem.W.mg_of X G a12
  have b12 := F12.binds (ps := ["tree", "shapes", "tables"]) fun _ _ _ _ _ _ us hl => match us, hl with | [_, _, _], _ => rfl
  have F13 := fun_mk (st := s_filled_start) l13 c13 k13
  have g13 : mg "filled_start" = some (.ref f13) := PySem.W.mg_of X G a13
  have b13 := F13.binds (ps := ["tree", "shapes", "tables"]) fun _ _ _ _ _ _ us hl => match us, hl with | [_, _, _], _ => rfl
  have F14 := fun_mk (st := s_filled_field) l14 c14 k14
  have g14 : mg "filled_field" = some (.ref f14) := PySem.W.mg_of X G a14
  have b14 := F14.binds (ps := ["tree", "shapes", "tables"]) fun _ _ _ _ _ _ us hl => match us, hl with | [_, _, _], _ => rfl
  have F15 := fun_mk (st := s_only_table) l15 c15 k15
  have g15 : mg "only_table" = some (.ref f15) := PySem.W.mg_of X G a15
  have b15 := F15.binds (ps := ["field", "shapes", "tables"]) fun _ _ _ _ _ _ us hl => match us, hl with | [_, _, _], _ => rfl
  have F16 := fun_mk (st := s_l_mix) l16 c16 k16
  have g16 : mg "_law_mix" = some (.ref f16) := PySem.W.mg_of X G a16
  have b16 := F16.binds (ps := ["_law_script", "_law_seed"]) fun _ _ _ _ _ _ us hl => match us, hl with | [_, _], _ => rfl
  have F17 := fun_mk (st := s_l_next) l17 c17 k17
  have g17 : mg "_law_next" = some (.ref f17) := PySem.W.mg_of X G a17
  have b17 := F17.binds (ps := ["_law_h", "_law_many"]) fun _ _ _ _ _ _ us hl => match us, hl with | [_, _], _ => rfl
  have F18 := fun_mk (st := s_l_alike) l18 c18 k18
  have g18 : mg "_law_alike" = some (.ref f18) := PySem.W.mg_of X G a18
  have b18 := F18.binds (ps := ["_law_found", "_law_due_here"]) fun _ _ _ _ _ _ us hl => match us, hl with | [_, _], _ => rfl
  have F19 := fun_mk (st := s_l_shapes) l19 c19 k19
  have g19 : mg "_law_shapes" = some (.ref f19) := PySem.W.mg_of X G a19
  have b19 := F19.binds (ps := ["_law_h", "_law_many"]) fun _ _ _ _ _ _ us hl => match us, hl with | [_, _], _ => rfl
  have F20 := fun_mk (st := s_l_number) l20 c20 k20
  have g20 : mg "_law_number" = some (.ref f20) := PySem.W.mg_of X G a20
  have b20 := F20.binds (ps := ["_law_h"]) fun _ _ _ _ _ _ us hl => match us, hl with | [_], _ => rfl
  have F21 := fun_mk (st := s_l_term) l21 c21 k21
  have g21 : mg "_law_term" = some (.ref f21) := PySem.W.mg_of X G a21
  have b21 := F21.binds (ps := ["_law_h", "_law_fields", "_law_deep"]) fun _ _ _ _ _ _ us hl => match us, hl with | [_, _, _], _ => rfl
  have F22 := fun_mk (st := s_l_cond) l22 c22 k22
  have g22 : mg "_law_cond" = some (.ref f22) := PySem.W.mg_of X G a22
  have b22 := F22.binds (ps := ["_law_h", "_law_fields", "_law_deep"]) fun _ _ _ _ _ _ us hl => match us, hl with | [_, _, _], _ => rfl
  have F23 := fun_mk (st := s_l_some) l23 c23 k23
  have g23 : mg "_law_some" = some (.ref f23) := PySem.W.mg_of X G a23
  have b23 := F23.binds (ps := ["_law_h", "_law_shapes_here", "_law_tables"]) fun _ _ _ _ _ _ us hl => match us, hl with | [_, _, _], _ => rfl
  have F24 := fun_mk (st := s_l_ask) l24 c24 k24
  have g24 : mg "_law_ask" = some (.ref f24) := PySem.W.mg_of X G a24
  have b24 := F24.binds (ps := ["_law_h", "_law_shapes_here"]) fun _ _ _ _ _ _ us hl => match us, hl with | [_, _], _ => rfl
  have F25 := fun_mk (st := s_l_statement) l25 c25 k25
  have g25 : mg "_law_statement" = some (.ref f25) := PySem.W.mg_of X G a25
  have b25 := F25.binds (ps := ["_law_h", "_law_shapes_here"]) fun _ _ _ _ _ _ us hl => match us, hl with | [_, _], _ => rfl
  have F26 := fun_mk (st := s_l_word) l26 c26 k26
  have g26 : mg "_law_word" = some (.ref f26) := PySem.W.mg_of X G a26
  have b26 := F26.binds (ps := ["_law_call"]) fun _ _ _ _ _ _ us hl => match us, hl with | [_], _ => rfl
  have F27 := fun_mk (st := s_l_bare) l27 c27 k27
  have g27 : mg "_law_bare" = some (.ref f27) := PySem.W.mg_of X G a27
  have b27 := F27.binds (ps := ["_law_h", "_law_tree", "_law_shapes_here", "_law_tables"]) fun _ _ _ _ _ _ us hl => match us, hl with | [_, _, _, _], _ => rfl
  have F28 := fun_mk (st := s_l_first) l28 c28 k28
  have g28 : mg "_law_first" = some (.ref f28) := PySem.W.mg_of X G a28
  have b28 := F28.binds (ps := ["_law_tree", "_law_shapes_here", "_law_tables"]) fun _ _ _ _ _ _ us hl => match us, hl with | [_, _, _], _ => rfl
  have F29 := fun_mk (st := s_l_due) l29 c29 k29
  have g29 : mg "_law_due" = some (.ref f29) := PySem.W.mg_of X G a29
  have b29 := F29.binds (ps := ["_law_tree", "_law_shapes_here", "_law_indexes"]) fun _ _ _ _ _ _ us hl => match us, hl with | [_, _, _], _ => rfl
  have F30 := fun_mk (st := s_l_leaves) l30 c30 k30
  have g30 : mg "_law_leaves" = some (.ref f30) := PySem.W.mg_of X G a30
  have b30 := F30.binds (ps := ["_law_one", "_law_path"]) fun _ _ _ _ _ _ us hl => match us, hl with | [_, _], _ => rfl
  have F31 := fun_mk (st := s_l_put) l31 c31 k31
  have g31 : mg "_law_put" = some (.ref f31) := PySem.W.mg_of X G a31
  have b31 := F31.binds (ps := ["_law_one", "_law_path", "_law_word_here"]) fun _ _ _ _ _ _ us hl => match us, hl with | [_, _, _], _ => rfl
  have F32 := fun_mk (st := s_l_bent) l32 c32 k32
  have g32 : mg "_law_bent" = some (.ref f32) := PySem.W.mg_of X G a32
  have b32 := F32.binds (ps := ["_law_h", "_law_tree"]) fun _ _ _ _ _ _ us hl => match us, hl with | [_, _], _ => rfl
  have F33 := fun_mk (st := s_l_known) l33 c33 k33
  have g33 : mg "_law_known" = some (.ref f33) := PySem.W.mg_of X G a33
  have b33 := F33.binds (ps := []) fun _ _ _ _ _ _ us hl => match us, hl with | [], _ => rfl
  have F34 := fun_mk (st := s_law) l34 c34 k34
  have T : GS.Txt mg := ⟨m_len, m_range, m_list, m_tuple, m_int, m_isinstance, m_dict, m_bool, m_str, m_min, m_sorted⟩
  have T1 : K06.Txt mg := ⟨m_len, m_range, m_list, m_tuple, m_max⟩
  have T6 : K06.Txt6 mg := ⟨T1, m_sorted, m_int⟩
  have ox : OexC K CT := ⟨⟨nmT, qT, NT, bsT, _, snT, subT, abT, colT, ddT, m0, m1, m2, m3, m5, xL, (show PySem.HandSPX.refsVE [.type "ValueError", .type "Exception", .type "BaseException", .type "object"] = true from by decide +kernel)⟩, sa, bE, tC, kC⟩
  have ST : SIX.SupT l.prog K CT cc cda := ⟨⟨_, _, _, cell⟩, ⟨_, _, _, _, _, _, code, cod2, file⟩, stat, ⟨cdT, clsM, mroM⟩, self, veS, ox⟩
  have gT := PySem.W.mg_of X G aT
  have gR := PySem.W.mg_of X G aR
  have gS := PySem.W.mg_of X G aS
  have WF : WoF K mg CT CR CS := ⟨⟨e1, e2, bE, e4, e5, sp6, sp7, e8⟩, ⟨e1, e2, bE, e4⟩, ⟨y1, y2, y3, y4, y5, sp6, sp7, y8⟩, nn, nr, rn, rr, k1s, k2s, np, gT, gR, gS⟩
  have JF : JnF K mg fj := ⟨PySem.W.mg_of X G aJ, fun _ => .inr ⟨_, itJ, nJ, lJ, rfl, rfl, hJ, vJ⟩⟩
  have EF : ErrF K mg "BadRow" CR := ⟨gR, yx, yk, y3, yt⟩
  have gCh := PySem.W.mg_of X G aCh
  have FC : FunD K "checked" "checked" (defArgs s_checked) (defBody s_checked) (defScope s_checked) [.ref tz] [] fC _ := ⟨⟨ocC, odC, .ref Tq, kVC, dcC, pmC, anC, cdC, ctC, slC, rfl, lCh, cCh, .inr ⟨by simp, Tq, _, itQ.toList, nQ, rfl, lTq, by simp, vTq⟩, .inl rfl⟩, kCh⟩
  obtain ⟨dsC, vC, bC⟩ := FC.binds1 (ps := ["tree", "shapes", "indexes"]) 2 0 (by simp) rfl fun T kV doc pm an cdv ct us its l1 l2 => match us, its, l1, l2 with | [_, _], [_], _, _ => ⟨_, rfl, rfl⟩
  obtain ⟨ds3, vA, bA⟩ := FC.binds1 (ps := ["tree", "shapes", "indexes"]) 3 1 (by simp) rfl fun T kV doc pm an cdv ct us its l1 l2 => match us, its, l1, l2 with | [_, _, _], [_], _, _ => ⟨_, rfl, rfl⟩
  cases vA
  have htz : ∀ H, SqT K H tz [] := fun _ => .inr ⟨_, itZ, nZ, lTz, rfl, rfl, hZ, vZ⟩
  have mem2 : ∀ {α : Type} {x y z : α}, z ∈ [x, y] → z = x ∨ z = y := fun h => (List.mem_cons.mp h).imp id List.mem_singleton.mp
  refine ⟨PySem.W.fnOf "law" "law" (defArgs s_law) (defBody s_law) (defScope s_law) .none kV34 dc34 pm34 an34 (.ref cB) ct34, [(cB, PB), (cK, PK)], spLaw K [(PB, "law.<locals>.<lambda>"), (PK, "_law_known.<locals>.<lambda>")], fun p hp => ?_, fun p hp => ?_, fun p hp => ?_, fun s v => .of_eq rfl, fun H a ns hl _ hH hS => ⟨a, ns, rfl, hS, hl, fun p hp => ?_, fun _ => rfl⟩, fun base _ _ TBs => ?_⟩
  · rcases mem2 hp with q | q <;> rw [q]
    · exact hB0
    · exact hK0
  · rcases mem2 hp with q | q <;> rw [q]
    · exact nP
    · exact nPK
  · rcases mem2 hp with q | q <;> rw [q]
    · exact PySem.W.codeHd_of_K X hB
    · exact PySem.W.codeHd_of_K X hK
  · rcases mem2 hp with q | q <;> rw [q]
    · exact LamX.TabS.nil (hH (cB, PB) (List.mem_cons_self ..))
    · exact LamX.TabS.nil (hH (cK, PK) (List.mem_cons_of_mem _ (List.mem_cons_self ..)))
  have TB := TBs (cB, PB) (List.mem_cons_self ..)
  have TBK := TBs (cK, PK) (List.mem_cons_of_mem _ (List.mem_cons_self ..))
  have u1 : ∀ q ∈ ([(PB, "law.<locals>.<lambda>"), (PK, "_law_known.<locals>.<lambda>")] : List (Addr × Str)), q.1 = PB → q.2 = ("law.<locals>.<lambda>" : Str) := fun q hq e => by
    rcases mem2 hq with z | z
    · rw [z]
    · rw [z] at e; exact absurd e.symm nPQ
  have u2 : ∀ q ∈ ([(PB, "law.<locals>.<lambda>"), (PK, "_law_known.<locals>.<lambda>")] : List (Addr × Str)), q.1 = PK → q.2 = ("_law_known.<locals>.<lambda>" : Str) := fun q hq e => by
    rcases mem2 hq with z | z
    · rw [z] at e; exact absurd e nPQ
    · rw [z]
  have GB := ok_bn (P := l.prog) (w := w) (mg := mg) (base := base) lI cI ST m_super top
  have BB : BnF l.prog w K mg base CT hI _ := ⟨ox, iC, tI2, GB, ⟨fun s us ws _ l1 l2 => match us, ws, l1, l2 with | [_], [_], _, _ => .of_eq rfl, fun r1 r2 => r1.append r2⟩, gT, np⟩
  have Gct := ok_ct F3 BB
  have Gcn := ok_cn F4 BB
  have Got := ok_ot F15 T BB
  have Gff := ok_ff F14 BB g15 k15 b15 Got
  have Gfi := all_fi F12 F13 JF g12 k12 b12 g13 k13 b13 g14 k14 b14 Gff 6
  have Gfw := ok_fw F11 g12 k12 b12 Gfi
  have Gfa := ok_fa F10 T g12 k12 b12 Gfi
  have Gcp := ok_cp F5 T EF g3 k3 b3 Gct
  have Gcb := ok_cb F1 m_enumerate BB
  have Gck := ok_ck F9 m_enumerate BB g3 k3 b3 Gct
  have Gcx := ok_cx F2 BB g3 k3 b3 Gct g4 k4 b4 Gcn
  have Gcr := ok_cr (j := 17) F7 g3 k3 b3 (Gct.mono (by decide)) g11 k11 b11 Gfw
  have Gca := ok_ca (j := 17) F8 g9 k9 b9 (Gck.mono (by decide)) g11 k11 b11 Gfw g10 k10 b10 Gfa
  have Gcs := ok_cs (j := 17) F6 T BB (by decide) g3 k3 b3 (Gct.mono (by decide)) g4 k4 b4 (Gcn.mono (by decide)) g12 k12 b12 (Gfi.mono (by decide)) g11 k11 b11 Gfw
  have GCh := ok_ch (j := 18) FC g1 k1 b1 (Gcb.mono (by decide)) g2 k2 b2 (Gcx.mono (by decide)) g5 k5 b5 (Gcp.mono (by decide)) g6 k6 b6 Gcs g7 k7 b7 Gcr g8 k8 b8 Gca
  have Cmx : K06.Cal l.prog w K mg base 1 "_law_mix" ["_law_script", "_law_seed"] (K06.spMix K) f16 _ := ⟨g16, k16, b16, K06.ok_mix F16 T1⟩
  have Cnx : K06.Cal l.prog w K mg base 1 "_law_next" ["_law_h", "_law_many"] K06.spNext f17 _ := ⟨g17, k17, b17, K06.ok_next F17 T1⟩
  have Csh : K06.Cal l.prog w K mg base 2 "_law_shapes" ["_law_h", "_law_many"] (K06.spShapes K) f19 _ := ⟨g19, k19, b19, K06.ok_shapes F19 T1 Cnx⟩
  have Cnu : K06.Cal l.prog w K mg base 2 "_law_number" ["_law_h"] K06.spNumber f20 _ := ⟨g20, k20, b20, K06.ok_number F20 Cnx⟩
  have Ct3 : K06.Cal l.prog w K mg base 9 "_law_term" ["_law_h", "_law_fields", "_law_deep"] (K06.spTerm K 3) f21 _ := ⟨g21, k21, b21, (K06.all_term F21 T1 Cnx Cnu g21 b21 3).mono (by decide)⟩
  have Ct2 : K06.Cal l.prog w K mg base 4 "_law_term" ["_law_h", "_law_fields", "_law_deep"] (K06.spTerm K 2) f21 _ := ⟨g21, k21, b21, K06.all_term F21 T1 Cnx Cnu g21 b21 2⟩
  have Ccd : K06.Cal l.prog w K mg base 9 "_law_cond" ["_law_h", "_law_fields", "_law_deep"] (K06.spCond K 4) f22 _ := ⟨g22, k22, b22, (K06.all_cond F22 T1 Cnx Ct2 g22 b22 4).mono (by decide)⟩
  have Cso : K06.Cal l.prog w K mg base 9 "_law_some" ["_law_h", "_law_shapes_here", "_law_tables"] (K06.spSome K) f23 _ := ⟨g23, k23, b23, (K06.ok_some F23).mono (by decide)⟩
  have Cnx9 : K06.Cal l.prog w K mg base 9 "_law_next" ["_law_h", "_law_many"] K06.spNext f17 _ := ⟨g17, k17, b17, (K06.ok_next F17 T1).mono (by decide)⟩
  have Cnu9 : K06.Cal l.prog w K mg base 10 "_law_number" ["_law_h"] K06.spNumber f20 _ := ⟨g20, k20, b20, (K06.ok_number F20 Cnx).mono (by decide)⟩
  have Cas : K06.Cal l.prog w K mg base 10 "_law_ask" ["_law_h", "_law_shapes_here"] (K06.spAsk K) f24 _ := ⟨g24, k24, b24, K06.ok_ask F24 T6 Cnx9 Cso Ct3 Ccd⟩
  have Cnx10 : K06.Cal l.prog w K mg base 10 "_law_next" ["_law_h", "_law_many"] K06.spNext f17 _ := ⟨g17, k17, b17, Cnx9.G.mono (by decide)⟩
  have Cso10 : K06.Cal l.prog w K mg base 10 "_law_some" ["_law_h", "_law_shapes_here", "_law_tables"] (K06.spSome K) f23 _ := ⟨g23, k23, b23, Cso.G.mono (by decide)⟩
  have Ct310 : K06.Cal l.prog w K mg base 10 "_law_term" ["_law_h", "_law_fields", "_law_deep"] (K06.spTerm K 3) f21 _ := ⟨g21, k21, b21, Ct3.G.mono (by decide)⟩
  have Ccd10 : K06.Cal l.prog w K mg base 10 "_law_cond" ["_law_h", "_law_fields", "_law_deep"] (K06.spCond K 4) f22 _ := ⟨g22, k22, b22, Ccd.G.mono (by decide)⟩
  have Cst : K06.Cal l.prog w K mg base 12 "_law_statement" ["_law_h", "_law_shapes_here"] (K06.spStm K) f25 _ := ⟨g25, k25, b25, (K06.ok_stm F25 T6 Cnx10 Cnu9 Cso10 Ct310 Ccd10 Cas).mono (by decide)⟩
  have Cwo : HX.Cal l.prog w K mg base 21 "_law_word" ["_law_call"] (spWo l.prog w K mg base 20 CT CR) f26 _ := ⟨g26, k26, b26, ok_wo (k := 20) F26 T WF⟩
  have Cba : HX.Cal l.prog w K mg base 12 "_law_bare" ["_law_h", "_law_tree", "_law_shapes_here", "_law_tables"] (spBare K 6) f27 _ := ⟨g27, k27, b27, (all_bare F27 T Cnx g27 k27 b27 5).mono (by decide)⟩
  have Cdu : HX.Cal l.prog w K mg base 12 "_law_due" ["_law_tree", "_law_shapes_here", "_law_indexes"] (spDue K) f29 _ := ⟨g29, k29, b29, (ok_due F29 T g28 k28 b28 (all_fst F28 T g28 k28 b28 5)).mono (by decide)⟩
  have Cak : HX.Cal l.prog w K mg base 12 "_law_alike" ["_law_found", "_law_due_here"] (spAk K 11) f18 _ := ⟨g18, k18, b18, all_ak F18 T g18 k18 b18 11⟩
  have Cbe : HX.Cal l.prog w K mg base 12 "_law_bent" ["_law_h", "_law_tree"] (spBent K) f32 _ := ⟨g32, k32, b32, ok_bent (j := 11) F32 T (by decide) (by decide) (by decide) Cnx g30 k30 b30 (all_lv F30 T g30 k30 b30 11) g31 k31 b31 (all_put F31 g31 k31 b31 10)⟩
  have Ckn : HX.Cal l.prog w K mg base 22 "_law_known" [] (spKn [(PB, "law.<locals>.<lambda>"), (PK, "_law_known.<locals>.<lambda>")]) f33 _ := ⟨g33, k33, b33, ok_kn (k := 19) (N := 0) l33 c33 TBK T (List.mem_cons_of_mem _ (List.mem_cons_self ..)) u2 Cwo gCh kCh bC vC htz GCh⟩
  exact ok_law (k := 19) (N := 0) (by decide) l34 c34 TB T6 (List.mem_cons_self ..) u1 Cmx Cnx Csh Cst Ckn Cwo Cba Cdu Cak Cbe gCh kCh bA bC vC htz GCh

theorem walk {l : PySem.W.OpenLaw} {q : Program} {loose : List Str} {XP : (Str → Option Value) → Heap → Prop} {YP : World → Heap → Prop} {d : DefRec} {K : Params → PySem.W.Frag} (hn : l.most = some 63) (hdf : d.params.defaults = [])
    (hY : ∀ (w : World) (h : Heap), YP w h → (K w.params).In h)
    (F : ∀ (w : World) (mg : Str → Option Value) (fa : Addr) (h : Heap), YP w h → (K w.params).In h → h.Ns mainGlobals mg → mg d.name = some (.ref fa) → LamX.LawAtS l w (K w.params) CX0 23 63 "_law_script" mg fa h) :
    PySem.W.WalkO q loose XP YP l.row.toRowW d [] (fun f vs => PySem.call f vs) :=
  LamX.walk_ofTs (CX := fun _ => CX0) hn (by decide) hdf ⟨rfl, by decide, by decide⟩ hY F fun _ _ _ _ _ z => z
end GS

set_option Elab.async false
open PySem PySem.W PyProof.Rows in
set_option maxRecDepth 100000 in
set_option maxHeartbeats 0 in
theorem PySem.Challenge.cw_granary_k03_names_looked_up_holds : PySem.Challenge.rw_granary_k03_names_looked_up.Holds := by
  w_on; o_law; k_head; (case hw => w_witness2)
  k_fill
  refine GS.walk (l := PySem.Challenge.rw_granary_k03_names_looked_up) rfl rfl (fun w h Y => PySem.W.km_in_of Y) ?F
  case F =>
    intro w mg fa h Y KX G hmg
    refine' GS.all_mk KX G hmg ?a1 ?l1 ?c1 ?k1 ?a2 ?l2 ?c2 ?k2 ?a3 ?l3 ?c3 ?k3 ?a4 ?l4 ?c4 ?k4 ?a5 ?l5 ?c5 ?k5 ?a6 ?l6 ?c6 ?k6 ?a7 ?l7 ?c7 ?k7 ?a8 ?l8 ?c8 ?k8 ?a9 ?l9 ?c9 ?k9 ?a10 ?l10 ?c10 ?k10 ?a11 ?l11 ?c11 ?k11 ?a12 ?l12 ?c12 ?k12 ?a13 ?l13 ?c13 ?k13 ?a14 ?l14 ?c14 ?k14 ?a15 ?l15 ?c15 ?k15 ?a16 ?l16 ?c16 ?k16 ?a17 ?l17 ?c17 ?k17 ?a18 ?l18 ?c18 ?k18 ?a19 ?l19 ?c19 ?k19 ?a20 ?l20 ?c20 ?k20 ?a21 ?l21 ?c21 ?k21 ?a22 ?l22 ?c22 ?k22 ?a23 ?l23 ?c23 ?k23 ?a24 ?l24 ?c24 ?k24 ?a25 ?l25 ?c25 ?k25 ?a26 ?l26 ?c26 ?k26 ?a27 ?l27 ?c27 ?k27 ?a28 ?l28 ?c28 ?k28 ?a29 ?l29 ?c29 ?k29 ?a30 ?l30 ?c30 ?k30 ?a31 ?l31 ?c31 ?k31 ?a32 ?l32 ?c32 ?k32 ?a33 ?l33 ?c33 ?k33 ?a34 ?l34 ?c34 ?k34 ?z_len ?z_range ?z_list ?z_tuple ?z_int ?z_isinstance ?z_dict ?z_bool ?z_str ?z_min ?z_sorted ?z_enumerate ?z_max ?z_super ?aT ?aR ?aS ?xL ?sa ?bE ?tC ?kC ?iC ?tI2 ?np ?lI ?cI ?cell ?code ?cod2 ?file ?stat ?clsM ?mroM ?self ?veS ?top ?e1 ?e2 ?e4 ?e5 ?e8 ?sp6 ?sp7 ?y1 ?y2 ?y3 ?y4 ?y5 ?y8 ?yx ?yk ?yt ?nn ?nr ?rn ?rr ?k1s ?k2s ?aJ ?lJ ?hJ ?vJ ?aCh ?lCh ?cCh ?kCh ?lTq ?vTq ?lTz ?hZ ?vZ ?tI ?tK ?hB ?hK ?nP ?nPK ?nPQ ?hB0 ?hK0
    (case a1 => k_is)
    (case l1 => k_is)
    (case c1 => k_is)
    (case k1 => k_is)
    (case a2 => k_is)
    (case l2 => k_is)
    (case c2 => k_is)
    (case k2 => k_is)
    (case a3 => k_is)
    (case l3 => k_is)
    (case c3 => k_is)
    (case k3 => k_is)
    (case a4 => k_is)
    (case l4 => k_is)
    (case c4 => k_is)
    (case k4 => k_is)
    (case a5 => k_is)
    (case l5 => k_is)
    (case c5 => k_is)
    (case k5 => k_is)
    (case a6 => k_is)
    (case l6 => k_is)
    (case c6 => k_is)
    (case k6 => k_is)
    (case a7 => k_is)
    (case l7 => k_is)
    (case c7 => k_is)
    (case k7 => k_is)
    (case a8 => k_is)
    (case l8 => k_is)
    (case c8 => k_is)
    (case k8 => k_is)
    (case a9 => k_is)
    (case l9 => k_is)
    (case c9 => k_is)
    (case k9 => k_is)
    (case a10 => k_is)
    (case l10 => k_is)
    (case c10 => k_is)
    (case k10 => k_is)
    (case a11 => k_is)
    (case l11 => k_is)
    (case c11 => k_is)
    (case k11 => k_is)
    (case a12 => k_is)
    (case l12 => k_is)
    (case c12 => k_is)
    (case k12 => k_is)
    (case a13 => k_is)
    (case l13 => k_is)
    (case c13 => k_is)
    (case k13 => k_is)
    (case a14 => k_is)
    (case l14 => k_is)
    (case c14 => k_is)
    (case k14 => k_is)
    (case a15 => k_is)
    (case l15 => k_is)
    (case c15 => k_is)
    (case k15 => k_is)
    (case a16 => k_is)
    (case l16 => k_is)
    (case c16 => k_is)
    (case k16 => k_is)
    (case a17 => k_is)
    (case l17 => k_is)
    (case c17 => k_is)
    (case k17 => k_is)
    (case a18 => k_is)
    (case l18 => k_is)
    (case c18 => k_is)
    (case k18 => k_is)
    (case a19 => k_is)
    (case l19 => k_is)
    (case c19 => k_is)
    (case k19 => k_is)
    (case a20 => k_is)
    (case l20 => k_is)
    (case c20 => k_is)
    (case k20 => k_is)
    (case a21 => k_is)
    (case l21 => k_is)
    (case c21 => k_is)
    (case k21 => k_is)
    (case a22 => k_is)
    (case l22 => k_is)
    (case c22 => k_is)
    (case k22 => k_is)
    (case a23 => k_is)
    (case l23 => k_is)
    (case c23 => k_is)
    (case k23 => k_is)
    (case a24 => k_is)
    (case l24 => k_is)
    (case c24 => k_is)
    (case k24 => k_is)
    (case a25 => k_is)
    (case l25 => k_is)
    (case c25 => k_is)
    (case k25 => k_is)
    (case a26 => k_is)
    (case l26 => k_is)
    (case c26 => k_is)
    (case k26 => k_is)
    (case a27 => k_is)
    (case l27 => k_is)
    (case c27 => k_is)
    (case k27 => k_is)
    (case a28 => k_is)
    (case l28 => k_is)
    (case c28 => k_is)
    (case k28 => k_is)
    (case a29 => k_is)
    (case l29 => k_is)
    (case c29 => k_is)
    (case k29 => k_is)
    (case a30 => k_is)
    (case l30 => k_is)
    (case c30 => k_is)
    (case k30 => k_is)
    (case a31 => k_is)
    (case l31 => k_is)
    (case c31 => k_is)
    (case k31 => k_is)
    (case a32 => k_is)
    (case l32 => k_is)
    (case c32 => k_is)
    (case k32 => k_is)
    (case a33 => k_is)
    (case l33 => k_is)
    (case c33 => k_is)
    (case k33 => k_is)
    (case a34 => k_is)
    (case l34 => k_is)
    (case c34 => k_is)
    (case k34 => k_is)
    (case z_len => k_is)
    (case z_range => k_is)
    (case z_list => k_is)
    (case z_tuple => k_is)
    (case z_int => k_is)
    (case z_isinstance => k_is)
    (case z_dict => k_is)
    (case z_bool => k_is)
    (case z_str => k_is)
    (case z_min => k_is)
    (case z_sorted => k_is)
    (case z_enumerate => k_is)
    (case z_max => k_is)
    (case z_super => k_is)
    (case aT => k_is)
    (case aR => k_is)
    (case aS => k_is)
    (case xL => k_is)
    (case sa => k_is)
    (case bE => k_is)
    (case tC => k_is)
    (case kC => k_is)
    (case iC => k_is)
    (case tI2 => k_is)
    (case np => k_is)
    (case lI => k_is)
    (case cI => k_is)
    (case cell => k_is)
    (case code => k_is)
    (case cod2 => rfl)
    (case file => first | rfl | decide +kernel)
    (case stat => k_is)
    (case clsM => first | k_is | rfl | decide +kernel)
    (case mroM => first | k_is | rfl | decide +kernel)
    (case self => first | k_is | rfl | decide +kernel)
    (case veS => k_is)
    (case top => first | rfl | decide +kernel)
    (case e1 => k_is)
    (case e2 => k_is)
    (case e4 => k_is)
    (case e5 => k_is)
    (case e8 => k_is)
    (case sp6 => k_is)
    (case sp7 => k_is)
    (case y1 => k_is)
    (case y2 => k_is)
    (case y3 => k_is)
    (case y4 => k_is)
    (case y5 => k_is)
    (case y8 => k_is)
    (case yx => k_exc)
    (case yk => k_is)
    (case yt => k_is)
    (case nn => first | k_is | rfl | decide +kernel)
    (case nr => first | k_is | rfl | decide +kernel)
    (case rn => first | k_is | rfl | decide +kernel)
    (case rr => first | k_is | rfl | decide +kernel)
    (case k1s => first | k_is | rfl | decide +kernel)
    (case k2s => first | k_is | rfl | decide +kernel)
    (case aJ => k_is)
    (case lJ => k_is)
    (case hJ => decide)
    (case vJ => exact .cons ⟨_, rfl⟩ (.cons ⟨_, rfl⟩ (.cons ⟨_, rfl⟩ (.cons ⟨_, rfl⟩ (.cons ⟨_, rfl⟩ (.cons ⟨_, rfl⟩ (.cons ⟨_, rfl⟩ (.cons ⟨_, rfl⟩ (.cons ⟨_, rfl⟩ (.cons ⟨_, rfl⟩ (.nil)))))))))))
    (case aCh => k_is)
    (case lCh => k_is)
    (case cCh => k_is)
    (case kCh => k_is)
    (case lTq => k_is)
    (case vTq => exact .cons rfl .nil)
    (case lTz => k_is)
    (case hZ => decide)
    (case vZ => exact .nil)
    (case tI => first | k_is | rfl)
    (case tK => first | k_is | rfl)
    (case hB => first | k_is | rfl | decide +kernel)
    (case hK => first | k_is | rfl | decide +kernel)
    (case nP => first | k_is | rfl)
    (case nPK => first | k_is | rfl)
    (case nPQ => decide)
    (case hB0 => exact PySem.W.km_tabs_of Y _ (by first | decide | simp))
    (case hK0 => exact PySem.W.km_tabs_of Y _ (by first | decide | simp))

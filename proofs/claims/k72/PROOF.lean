import PyProof.Rows.All
import Wide.All
import OpenK.AllK
import Wide.FinOn
import HandS.ForMost
import HandS.IsInst
import HandS.TupAny
import HandS.Deep
import HandS.Flow
import HandS.Style
import HandS.WideMore
import PySem.Challenge.RW_granary_k72_days_written_and_read
import HandS.Exc
import HandS.TryOnly
import HandS.Lambda
import HandS.Nested
import HandS.ExcInit
import HandS.ClsMeth
import HandS.FStr
import KE.KExcSuper
import KE.KSuper
import HandS.MakeKwOnly
import PyProof.FitsInt
import HandS.Text
import HandS.Walk
import HandS.List
import HandS.Comp
import HandS.More
import HandS.WordsExc
import HandS.ForExc
import HandS.Iter
import PyProof.NeKinds
import PyProof.EqAt
import KE.KExcIs
import HandS.ExcIs
import HandS.ExcField
import HandS.ExcOwn
import HandS.Dict
import HandS.EndTab
set_option Elab.async false
namespace RK
open PySem L2
section
variable {X : Cx} {K : PySem.W.Frag}
theorem ixL (h : X.K = K := by rfl) : IxR X (rIxL K) := by subst h; exact ix_list
theorem ixT (h : X.K = K := by rfl) : IxR X (rIxT K) := by subst h; exact ix_tup
theorem ixQ (h : X.K = K := by rfl) : IxR X (rIx K) := by subst h; exact ix_seq
theorem eqD (hu : X.A.units + 64 < cLine) (h : X.K = K := by rfl) : OpR X (compareOp .Eq) (rEqD K) := by subst h; exact op_eqD hu
theorem neD (hu : X.A.units + 64 < cLine) (h : X.K = K := by rfl) : OpR X (compareOp .NotEq) (rNeD K) := by subst h; exact op_neD hu
theorem inQ (h : X.K = K := by rfl) : OpR X (compareOp .In) (rIn K false) := by subst h; exact op_in_seq
theorem notInQ (h : X.K = K := by rfl) : OpR X (compareOp .NotIn) (rIn K true) := by subst h; exact op_notIn_seq
def rLenQ (K : PySem.W.Frag) : List V → Hp → VK → Prop := fun xs H Q => ∃ p ys, xs = [.ref p] ∧ (SqL K H p ys ∨ SqT K H p ys) ∧ Q (.int ys.length) H
theorem lenQ (h : X.K = K := by rfl) : CallR X (.builtin "len") (rLenQ K) := by subst h; exact call_len_seq
def rListQ (K : PySem.W.Frag) : List V → Hp → VK → Prop := fun xs H Q => ∃ p ys, xs = [.ref p] ∧ (SqL K H p ys ∨ SqT K H p ys) ∧ ∀ l, H l = none → Q (.ref l) (upd H l (.lst ys))
theorem listQ (h : X.K = K := by rfl) : CallR X (.type "list") (rListQ K) := by subst h; exact call_list_of
def rTupQ (K : PySem.W.Frag) : List V → Hp → VK → Prop := fun xs H Q => ∃ p ys, xs = [.ref p] ∧ ((SqL K H p ys ∧ ∀ l, H l = none → Q (.ref l) (upd H l (.tup ys))) ∨ (SqT K H p ys ∧ Q (.ref p) H))
theorem tupQ (h : X.K = K := by rfl) : CallR X (.type "tuple") (rTupQ K) := by subst h; exact call_tuple_of
theorem slL (h : X.K = K := by rfl) : SlR X (rSlL K) := by subst h; exact sl_list
theorem slT (h : X.K = K := by rfl) : SlR X (rSlA K) := by subst h; exact sl_tupA
theorem catT (h : X.K = K := by rfl) : OpR X (binaryOp .Add) (rCatA K) := by subst h; exact op_catA
theorem isi (h : X.K = K := by rfl) : CallR X (.builtin "isinstance") (rIsi K) := by subst h; exact call_isi
theorem isiT (h : X.K = K := by rfl) : CallR X (.builtin "isinstance") (rIsiT K) := by subst h; exact call_isiT
theorem piL {tg l : Expr} {tl : TE} (hl : PE X l tl) (h : X.K = K := by rfl) : PI X tg l (iList K tl) := by subst h; exact pi_list hl
theorem piT {tg l : Expr} {tl : TE} (hl : PE X l tl) (h : X.K = K := by rfl) : PI X tg l (iTup K tl) := by subst h; exact pi_tup hl
def rAllQ (K : PySem.W.Frag) : List V → Hp → VK → Prop := fun xs H Q => ∃ (a : Addr) (bs : List Bool), xs = [.ref a] ∧ SqL K H a (bs.map V.bl) ∧ Q (.bl (bs.all id)) H
def rAnyQ (K : PySem.W.Frag) : List V → Hp → VK → Prop := fun xs H Q => ∃ (a : Addr) (bs : List Bool), xs = [.ref a] ∧ SqL K H a (bs.map V.bl) ∧ Q (.bl (bs.any id)) H
theorem allQ (hc : X.calm = true) (h : X.K = K := by rfl) : CallR X (.builtin "all") (rAllQ K) := by subst h; exact cr_all hc
theorem anyQ (hc : X.calm = true) (h : X.K = K := by rfl) : CallR X (.builtin "any") (rAnyQ K) := by subst h; exact cr_any hc
theorem pgTup {es : List Expr} {kk n : Nat} {pos : Pos} {t : TGs} (hc : X.calm = true) (ht : PGs X es t) (h : X.K = K := by rfl) (hn : (assignEach es X.env).length = n := by rfl) (hst : (assignEach es X.env).findIdx? (·.1) = none := by rfl) :
    PG X (.Tuple es kk pos) (gTup K n t) := by subst h; exact pg_tup hc ht hn hst
end
end RK

set_option Elab.async false
namespace RK
open PySem L2
section
variable {X : Cx} {K : PySem.W.Frag} {o e : Expr} {es : List Expr} {to : TE} {t : TA} {name : Str} {apos cpos : Pos} {T id : String} {r : V → List V → Hp → VK → Prop}
/-- a method of a list, in a comprehension too -/
theorem bm (pa : PlainAttrs T) (slot : Slot T name id) (ty : typeOf (.builtin id) = pure (.type "method_descriptor")) (mt : MtR X id r) (ho : PE X o to) (ha : PA X (e :: es) t) (hK : X.K = K := by rfl)
    (h1 : attributeBase o name X.env (eval o X.env) = eval o X.env := by rfl)
    (h2 : ((backTo cpos (starEach (e :: es) X.env)).all (fun y => !y.1) && (backToKw cpos (keywordEach [] X.env)).all (fun y => y.1.isSome)
      && decide ((e :: es).length + ([] : List Keyword).length + (if ([] : List Keyword).isEmpty then 0 else 1) < 30)) = true := by rfl)
    (h3 : (apos.endLine == cpos.line) = true := by rfl) (h4 : starEach (e :: es) X.env = (false, eval e X.env) :: starEach es X.env := by rfl) (h5 : (backTo cpos (starEach es X.env)).any (·.1) = false := by rfl) :
    PE X (.Call (.Attribute o name apos) (e :: es) [] cpos) (tBM K T r to t) := by subst hK; exact pe_bm pa slot ty mt ho ha h1 h2 h3 h4 h5
theorem bm0 (pa : PlainAttrs T) (slot : Slot T name id) (ty : typeOf (.builtin id) = pure (.type "method_descriptor")) (mt : MtR X id r) (ho : PE X o to) (hK : X.K = K := by rfl)
    (h1 : attributeBase o name X.env (eval o X.env) = eval o X.env := by rfl) (h2 : (apos.endLine == cpos.line) = true := by rfl) : PE X (.Call (.Attribute o name apos) [] [] cpos) (tBM0 K T r to) := by subst hK; exact pe_bm0 pa slot ty mt ho h1 h2
def rDictQ (K : PySem.W.Frag) : List V → Hp → VK → Prop := fun xs H Q => ∃ (a : Addr) (ps : List Addr) (kvs : List (Key × V)), xs = [.ref a] ∧ SqL K H a (ps.map V.ref) ∧ Paired (fun q kv => SqT K H q [kV kv.1, kv.2]) ps kvs ∧ ∀ q, H q = none → Q (.ref q) (upd H q (.dK (mergeK [] kvs)))
theorem dictQ (hc : X.calm = true) (h : X.K = K := by rfl) : CallR X (.type "dict") (rDictQ K) := by subst h; exact call_dictP hc
theorem minQ (hc : X.calm = true) (h : X.K = K := by rfl) : CallR X (.builtin "min") (rMin K) := by subst h; exact cr_min hc
theorem indexQ (h : X.K = K := by rfl) : MtR X "list.index" (rIndex K) := by subst h; exact mt_index
theorem inD (hu : X.A.units + 65 < cLine) (h : X.K = K := by rfl) : OpR X (compareOp .In) (rInD K) := by subst h; exact op_inD hu
end
end RK

set_option Elab.async false
set_option maxRecDepth 100000
namespace HX
open PySem L2
theorem same_new {H : Hp} {p : Addr} {o : HO} (hp : H p = none) : Same H (upd H p o) := fun b u e => by rw [upd_ne (ne_of_none e hp)]; exact e
theorem gn {i : Nat} {x : V} {σ : L2.St} {H : Hp} {Q : L2.St → Hp → Prop} (h : Q (σ.set i (some x)) H) : gName i x σ H Q := h
theorem sa1 {te : TE} {g : TG} {u : TS} {D : Ends} {σ : L2.St} {H : Hp} (h : te σ H fun x H1 => g x σ H1 (u D)) : tSeq (tAsg te g) u D σ H := h
theorem sq1 {te : TE} {u : TS} {D : Ends} {σ : L2.St} {H : Hp} (h : te σ H fun _ H1 => u D σ H1) : tSeq (tDrop te) u D σ H := h
theorem op1 {r : R2} {ta : TE} {y : V} {σ : L2.St} {H : Hp} {Q : VK} (h : ta σ H fun x H1 => r x y H1 Q) : tOp r ta (tC y) σ H Q := h
theorem par1 {i j : Nat} {ta tb : TE} {u : TS} {D : Ends} {σ : L2.St} {H : Hp} (h : ta σ H fun x H1 => tb σ H1 fun y H2 => ∃ v w, [x, y] = [v, w] ∧ u D ((σ.set i (some v)).set j (some w)) H2) : tSeq (tPar i j (tCons ta (tCons tb tNil))) u D σ H := h
theorem rg1 {te : TE} {g : TG} {tb u : TS} {D : Ends} {σ : L2.St} {H : Hp} (h : te σ H fun x H1 => ∃ j : Int, [x] = [V.int j] ∧ -(2 ^ 62) ≤ j ∧ j < 2 ^ 62 ∧ (tFor (fun _ H R => R (Itr 0 j.toNat) H) g tb) { D with nx := u D } σ H1) : tSeq (tFor (iRng1 (tCons te tNil)) g tb) u D σ H := h
theorem sif {c : TT} {t e u : TS} {D : Ends} {σ : L2.St} {H : Hp} (h : c σ H fun b H1 => if b = true then t { D with nx := u D } σ H1 else e { D with nx := u D } σ H1) : tSeq (tIfS c t e) u D σ H := h
theorem sifR {c : TT} {t e u : TS} {D : Ends} {σ : L2.St} {H : Hp} (R : L2.St → Hp → Prop) (h1 : ∀ σ' H', R σ' H' → u D σ' H') (h : (∀ σ' H', R σ' H' → u D σ' H') → c σ H fun b H1 => if b = true then t { D with nx := u D } σ H1 else e { D with nx := u D } σ H1) : tSeq (tIfS c t e) u D σ H := h h1
theorem ifs {c : TT} {t e : TS} {D : Ends} {σ : L2.St} {H : Hp} (h : c σ H fun b H1 => if b = true then t D σ H1 else e D σ H1) : tIfS c t e D σ H := h
theorem at0 {x : V} {xs : List V} : atI (x :: xs) 0 = some x := atI_nat (j := 0) rfl
theorem room66 {k : Nat} {A : Around} (hr : Room k A) : A.units + 66 < cLine := by
  have z := hr.un
  omega
theorem pw_imp {α β : Type} {R S : α → β → Prop} (h : ∀ x y, R x y → S x y) : ∀ {xs : List α} {ys : List β}, Paired R xs ys → Paired S xs ys
  | _, _, .nil => .nil
  | _, _, .cons a r => .cons (h _ _ a) (pw_imp h r)
theorem pw_len {α β : Type} {R : α → β → Prop} : ∀ {xs : List α} {ys : List β}, Paired R xs ys → xs.length = ys.length
  | _, _, .nil => rfl
  | _, _, .cons _ r => by rw [List.length_cons, List.length_cons, pw_len r]
theorem pw_get {α β : Type} {R : α → β → Prop} : ∀ {xs : List α} {ys : List β} {i : Nat} {y : β}, Paired R xs ys → ys[i]? = some y → ∃ x, xs[i]? = some x ∧ R x y
  | _, _, i, y, .nil, e => by simp at e
  | _, _, 0, y, .cons h _, e => ⟨_, rfl, by simp at e; subst e; exact h⟩
  | _, _, i + 1, y, .cons _ r, e => pw_get (i := i) r (by simpa using e)
theorem pw_app {α β : Type} {R : α → β → Prop} : ∀ {xs xs' : List α} {ys ys' : List β}, Paired R xs ys → Paired R xs' ys' → Paired R (xs ++ xs') (ys ++ ys')
  | _, _, _, _, .nil, r => r
  | _, _, _, _, .cons a q, r => .cons a (pw_app q r)
theorem pw_take {α β : Type} {R : α → β → Prop} : ∀ {xs : List α} {ys : List β} (i : Nat), Paired R xs ys → Paired R (xs.take i) (ys.take i)
  | _, _, 0, _ => .nil
  | _, _, _ + 1, .nil => .nil
  | _, _, i + 1, .cons a q => .cons a (pw_take i q)
theorem pw_snoc {α β : Type} {R : α → β → Prop} {ds : List α} {i : Nat} {e : α} {ys : List β} {y : β} (h : Paired R (ds.take i) ys) (he : ds[i]? = some e) (r : R e y) : Paired R (ds.take (i + 1)) (ys ++ [y]) := by
  have z : ds.take (i + 1) = ds.take i ++ [e] := by rw [List.take_add_one, he]; rfl
  rw [z]
  exact pw_app h (.cons r .nil)
structure Cal (P : Program) (w : World) (K : PySem.W.Frag) (mg : Str → Option Value) (base : Heap) (k : Nat) (x : Str) (ps : List Str) (sp : Sp) (f : Addr) (fd : FuncData) : Prop where
  g : mg x = some (.ref f)
  kp : PySem.W.keepIn K (.ref f) = true
  b : Binds K fd ps []
  G : FnOk P w K mg base CX0 k f fd ps sp
theorem Cal.mono {P : Program} {w : World} {K : PySem.W.Frag} {mg : Str → Option Value} {base : Heap} {j k : Nat} {x : Str} {ps : List Str} {sp : Sp} {f : Addr} {fd : FuncData} (C : Cal P w K mg base j x ps sp f fd) (h : j ≤ k) : Cal P w K mg base k x ps sp f fd := ⟨C.g, C.kp, C.b, C.G.mono h⟩
/-- what is new in H' -/
def fresh (H H' : Hp) : Hp := fun b => match H b with
  | some _ => none
  | none => H' b
theorem fresh_at {H H' : Hp} {b : Addr} {o : HO} : fresh H H' b = some o ↔ H b = none ∧ H' b = some o := by
  unfold fresh
  cases H b with
  | none => exact ⟨fun h => ⟨rfl, h⟩, fun h => h.2⟩
  | some u => exact ⟨fun h => (by cases h), fun h => (by cases h.1)⟩
theorem none_of_same {H H' : Hp} (s : Same H H') {b : Addr} (h : H' b = none) : H b = none := by
  cases e : H b with
  | none => rfl
  | some o => rw [s b o e] at h; cases h
end HX

set_option Elab.async false
set_option maxRecDepth 100000
set_option maxHeartbeats 4000000
namespace GS
open PySem L2 HX
def top (i : Nat) : Stmt := PySem.Challenge.pw_granary_k72_days_written_and_read.main.body.getD i (.Pass ⟨0, 0, 0, 0⟩)
abbrev s_BadText___init__ : Stmt := inClass (top 2) 0
abbrev s_day_text : Stmt := top 7
abbrev s_deed_text : Stmt := top 8
abbrev s_read_day : Stmt := top 9
abbrev s_read_deed : Stmt := top 10
abbrev s_is_number : Stmt := top 11
abbrev s_l_mix : Stmt := top 13
abbrev s_l_next : Stmt := top 14
abbrev s_l_alike : Stmt := top 15
abbrev s_l_place : Stmt := top 16
abbrev s_l_deeds : Stmt := top 17
abbrev s_l_row : Stmt := top 18
abbrev s_l_is_number : Stmt := top 19
abbrev s_l_is_row : Stmt := top 20
abbrev s_law : Stmt := top 21
structure Txt (mg : Str → Option Value) : Prop where
  len : mg "len" = none
  range : mg "range" = none
  list : mg "list" = none
  tuple : mg "tuple" = none
  int : mg "int" = none
  isinstance : mg "isinstance" = none
  dict : mg "dict" = none
  bool : mg "bool" = none
  str : mg "str" = none
  min : mg "min" = none
  sorted : mg "sorted" = none
end GS

set_option Elab.async false
set_option maxRecDepth 100000
set_option maxHeartbeats 4000000
namespace TH
open PySem PySem.Spec PyProof.Rows L2 LamX NdefX
/-- cells are shut into the abstract heap, frozen as they stand; and taken out of it again -/
def addC (cs : List (Addr × Obj)) (H : Hp) : Hp := fun b => match cs.lookup b with | some o => some (.frz o (.own b)) | none => H b
def subC (cs : List (Addr × Obj)) (H : Hp) : Hp := fun b => match cs.lookup b with | some _ => none | none => H b
theorem addC_in {cs : List (Addr × Obj)} {H : Hp} {b : Addr} {o : Obj} (h : cs.lookup b = some o) : addC cs H b = some (.frz o (.own b)) := by unfold addC; rw [h]
theorem addC_out {cs : List (Addr × Obj)} {H : Hp} {b : Addr} (h : cs.lookup b = none) : addC cs H b = H b := by unfold addC; rw [h]
theorem subC_in {cs : List (Addr × Obj)} {H : Hp} {b : Addr} {o : Obj} (h : cs.lookup b = some o) : subC cs H b = none := by unfold subC; rw [h]
theorem subC_out {cs : List (Addr × Obj)} {H : Hp} {b : Addr} (h : cs.lookup b = none) : subC cs H b = H b := by unfold subC; rw [h]
/-- they stand in the heap, untracked -/
def CsAt (cs : List (Addr × Obj)) (H : Hp) (h : Heap) : Prop := ∀ b o, cs.lookup b = some o → h.get? b = some o ∧ H b = none
/-- they are shut in -/
def CsIn (cs : List (Addr × Obj)) (H : Hp) : Prop := ∀ b o, cs.lookup b = some o → H b = some (.frz o (.own b))
theorem csIn_add (cs : List (Addr × Obj)) (H : Hp) : CsIn cs (addC cs H) := fun _ _ h => addC_in h
/-- what is no cell is seen alike -/
theorem out_of {cs : List (Addr × Obj)} {H : Hp} {b : Addr} (i : CsIn cs H) (n : ∀ o, H b ≠ some (.frz o (.own b))) : cs.lookup b = none := by
  cases e : cs.lookup b with
  | none => rfl
  | some o => exact absurd (i b o e) (n o)
theorem out_none {cs : List (Addr × Obj)} {H : Hp} {b : Addr} (i : CsIn cs H) (n : H b = none) : cs.lookup b = none := out_of i fun o z => by rw [n] at z; cases z
section
variable {P : Program} {w : World} {cs : List (Addr × Obj)} {H H' : Hp} {h h' B : Heap} {fs : List Addr}
theorem out_own (a : CsAt cs H h) {b x : Addr} (e : H b = some (.own x)) : cs.lookup b = none := by
  cases q : cs.lookup b with
  | none => rfl
  | some o => rw [(a b o q).2] at e; cases e
theorem out_tup (a : CsAt cs H h) {b : Addr} {xs : List V} (e : H b = some (.tup xs)) : cs.lookup b = none := by
  cases q : cs.lookup b with
  | none => rfl
  | some o => rw [(a b o q).2] at e; cases e
theorem out_some (a : CsAt cs H h) {b : Addr} {u : HO} (e : H b = some u) : cs.lookup b = none := by
  cases q : cs.lookup b with
  | none => rfl
  | some o => rw [(a b o q).2] at e; cases e
theorem hok_add (x : HOk P w H h) (a : CsAt cs H h) : HOk P w (addC cs H) h := fun b u e => by
  cases q : cs.lookup b with
  | some o =>
    rw [addC_in q] at e
    cases e
    exact ⟨(a b o q).1, o, (a b o q).1⟩
  | none =>
    rw [addC_out q] at e
    exact (x b u e).stay (fun _ _ _ z => z) (fun c z => by rw [addC_out (out_own a z)]; exact z) fun c xs z => by rw [addC_out (out_tup a z)]; exact z
theorem hok_sub (x : HOk P w H h) (i : CsIn cs H) : HOk P w (subC cs H) h := fun b u e => by
  cases q : cs.lookup b with
  | some o =>
    rw [subC_in q] at e
    cases e
  | none =>
    rw [subC_out q] at e
    refine (x b u e).stay (fun _ _ _ z => z) (fun c z => ?_) fun c xs z => ?_
    · rw [subC_out (out_of i fun o y => by rw [z] at y; cases y)]; exact z
    · rw [subC_out (out_of i fun o y => by rw [z] at y; cases y)]; exact z
theorem csAt_sub (x : HOk P w H h) (i : CsIn cs H) : CsAt cs (subC cs H) h := fun b o q => ⟨(x b _ (i b o q)).1, subC_in q⟩
/-- a call's end, seen from without: the cells were shut in for it -/
theorem un_add (u : Un fs [] (addC cs H) H' h h') (a : CsAt cs H h) (x : HOk P w H' h') : Un fs [] H (subC cs H') h h' where
  keep := fun b o e n hb hx => by
    cases q : cs.lookup b with
    | some o' =>
      have e1 := (a b o' q).1
      rw [e] at e1
      cases e1
      exact (x b _ (u.frzs b o _ (addC_in q))).1
    | none => exact u.keep b o e (by rw [addC_out q]; exact n) hb hx
  slot := fun b o e n hb hx => by
    cases q : cs.lookup b with
    | some o' =>
      have e1 := (a b o' q).1
      rw [e] at e1
      cases e1
      exact ⟨o.slots, (x b _ (u.frzs b o _ (addC_in q))).1⟩
    | none => exact u.slot b o e (by rw [addC_out q]; exact n) hb hx
  free := fun b o e n hx => by
    cases q : cs.lookup b with
    | some o' => exact subC_in q
    | none =>
      rw [subC_out q]
      exact u.free b o e (by rw [addC_out q]; exact n) hx
  there := u.there
  tups := fun b xs e => by
    have q := out_some a e
    rw [subC_out q]
    exact u.tups b xs (by rw [addC_out q]; exact e)
  frzs := fun b o v e => by
    have q := out_some a e
    rw [subC_out q]
    exact u.frzs b o v (by rw [addC_out q]; exact e)
  tbls := fun b ps e => by
    have q := out_some a e
    rw [subC_out q]
    exact u.tbls b ps (by rw [addC_out q]; exact e)
theorem csIn_of (u : Un fs [] (addC cs H) H' h h') : CsIn cs H' := fun b o q => u.frzs b o _ (addC_in q)
/-- a call's end, seen from without: the cells were taken out for it -/
theorem un_sub (u : Un fs [] (subC cs H) H' h h') (i : CsIn cs H) : Un fs [] H (addC cs H') h h' where
  keep := fun b o e n hb hx => u.keep b o e (by rw [subC_out (out_none i n)]; exact n) hb hx
  slot := fun b o e n hb hx => u.slot b o e (by rw [subC_out (out_none i n)]; exact n) hb hx
  free := fun b o e n hx => by
    have q := out_none i n
    rw [addC_out q]
    exact u.free b o e (by rw [subC_out q]; exact n) hx
  there := u.there
  tups := fun b xs e => by
    have q : cs.lookup b = none := out_of i fun o z => by rw [e] at z; cases z
    rw [addC_out q]
    exact u.tups b xs (by rw [subC_out q]; exact e)
  frzs := fun b o v e => by
    cases q : cs.lookup b with
    | some o' =>
      have e1 := i b o' q
      rw [e] at e1
      cases e1
      exact addC_in q
    | none =>
      rw [addC_out q]
      exact u.frzs b o v (by rw [subC_out q]; exact e)
  tbls := fun b ps e => by
    have q : cs.lookup b = none := out_of i fun o z => by rw [e] at z; cases z
    rw [addC_out q]
    exact u.tbls b ps (by rw [subC_out q]; exact e)
theorem csAt_of (u : Un fs [] (subC cs H) H' h h') (a : CsAt cs (subC cs H) h) (nf : ∀ b o, cs.lookup b = some o → b ∉ fs) : CsAt cs H' h' := fun b o q =>
  ⟨u.keep b o (a b o q).1 (a b o q).2 (nf b o q) (by simp), u.free b o (a b o q).1 (a b o q).2 (by simp)⟩
/-- the same of an exception's ground -/
theorem ub_add (u : UB fs (addC cs H) H' h B h') (a : CsAt cs H h) (x : HOk P w H' B) : UB fs H (subC cs H') h B h' where
  keep := fun b o e n hb => by
    cases q : cs.lookup b with
    | some o' =>
      have e1 := (a b o' q).1
      rw [e] at e1
      cases e1
      exact (x b _ (u.frzs b o _ (addC_in q))).1
    | none => exact u.keep b o e (by rw [addC_out q]; exact n) hb
  slot := u.slot
  free := fun b o e n => by
    cases q : cs.lookup b with
    | some o' => exact subC_in q
    | none =>
      rw [subC_out q]
      exact u.free b o e (by rw [addC_out q]; exact n)
  there := u.there
  tups := fun b xs e => by
    have q := out_some a e
    rw [subC_out q]
    exact u.tups b xs (by rw [addC_out q]; exact e)
  frzs := fun b o v e => by
    have q := out_some a e
    rw [subC_out q]
    exact u.frzs b o v (by rw [addC_out q]; exact e)
  tbls := fun b ps e => by
    have q := out_some a e
    rw [subC_out q]
    exact u.tbls b ps (by rw [addC_out q]; exact e)
theorem ub_sub (u : UB fs (subC cs H) H' h B h') (i : CsIn cs H) : UB fs H (addC cs H') h B h' where
  keep := fun b o e n hb => u.keep b o e (by rw [subC_out (out_none i n)]; exact n) hb
  slot := u.slot
  free := fun b o e n => by
    have q := out_none i n
    rw [addC_out q]
    exact u.free b o e (by rw [subC_out q]; exact n)
  there := u.there
  tups := fun b xs e => by
    have q : cs.lookup b = none := out_of i fun o z => by rw [e] at z; cases z
    rw [addC_out q]
    exact u.tups b xs (by rw [subC_out q]; exact e)
  frzs := fun b o v e => by
    cases q : cs.lookup b with
    | some o' =>
      have e1 := i b o' q
      rw [e] at e1
      cases e1
      exact addC_in q
    | none =>
      rw [addC_out q]
      exact u.frzs b o v (by rw [subC_out q]; exact e)
  tbls := fun b ps e => by
    have q : cs.lookup b = none := out_of i fun o z => by rw [e] at z; cases z
    rw [addC_out q]
    exact u.tbls b ps (by rw [subC_out q]; exact e)
theorem csAt_ub (u : UB fs (subC cs H) H' h B h') (a : CsAt cs (subC cs H) h) (nf : ∀ b o, cs.lookup b = some o → b ∉ fs) : CsAt cs H' B := fun b o q =>
  ⟨u.keep b o (a b o q).1 (a b o q).2 (nf b o q), u.free b o (a b o q).1 (a b o q).2⟩
end
/-! ### thunks -/
/-- what a function that was handed on leans on -/
def KeepC (H H1 : Hp) : Prop := (∀ b o u, H b = some (.frz o u) → H1 b = some (.frz o u)) ∧ (∀ b xs, H b = some (.tup xs) → H1 b = some (.tup xs)) ∧ ∀ b φ, H b = some (.ext φ) → H1 b = some (.ext φ)
theorem KeepC.of {H H1 : Hp} (e : ∀ b o, H b = some o → (∃ ob u, o = .frz ob u) ∨ (∃ xs, o = .tup xs) ∨ (∃ φ, o = .ext φ) → H1 b = some o) : KeepC H H1 :=
  ⟨fun b o u h => e b _ h (.inl ⟨o, u, rfl⟩), fun b xs h => e b _ h (.inr (.inl ⟨xs, rfl⟩)), fun b φ h => e b _ h (.inr (.inr ⟨φ, rfl⟩))⟩
theorem KeepC.refl (H : Hp) : KeepC H H := ⟨fun _ _ _ h => h, fun _ _ h => h, fun _ _ h => h⟩
theorem KeepC.trans {H H1 H2 : Hp} (a : KeepC H H1) (b : KeepC H1 H2) : KeepC H H2 := ⟨fun c o u h => b.1 c o u (a.1 c o u h), fun c xs h => b.2.1 c xs (a.2.1 c xs h), fun c φ h => b.2.2 c φ (a.2.2 c φ h)⟩
abbrev TK := Hp → VK → XK → Prop
/-- the function at f, called without arguments, does T -/
structure Thunk (P : Program) (w : World) (K : PySem.W.Frag) (mg : Str → Option Value) (base : Heap) (k : Nat) (H : Hp) (f : Addr) (T : TK) : Prop where
  fn : ∃ fd : FuncData, H f = some (.frz { cls := .type "function", data := .func fd } (.own f))
  run : ∀ (A : Around) (outer : List Env) (s : Shared) (H1 : Hp) (Q : VK) (E : XK), Room k A → Env0 P w K mg base A outer s H1 → KeepC H H1 → T H1 Q E →
    codeAny (model P w) A (.call (.ref f) ⟨[], []⟩) (CR (CX P w) outer P w H1 s Q E) s
section
variable {P : Program} {w : World} {K : PySem.W.Frag} {mg : Str → Option Value} {base : Heap} {k j : Nat} {H H' : Hp} {f : Addr} {T T' : TK}
theorem Thunk.keep (t : Thunk P w K mg base k H f T) (kc : KeepC H H') : Thunk P w K mg base k H' f T :=
  ⟨t.fn.elim fun fd h => ⟨fd, kc.1 _ _ _ h⟩, fun A outer s H1 Q E hr e0 k1 q => t.run A outer s H1 Q E hr e0 (kc.trans k1) q⟩
theorem Thunk.mono (t : Thunk P w K mg base j H f T) (h : j ≤ k) : Thunk P w K mg base k H f T := ⟨t.fn, fun A outer s H1 Q E hr => t.run A outer s H1 Q E (hr.mono h)⟩
theorem Thunk.imp (t : Thunk P w K mg base k H f T) (h : ∀ H1 Q E, KeepC H H1 → T' H1 Q E → T H1 Q E) : Thunk P w K mg base k H f T' := ⟨t.fn, fun A outer s H1 Q E hr e0 kc q => t.run A outer s H1 Q E hr e0 kc (h H1 Q E kc q)⟩
end
/-- a(), a a name that holds such a function -/
theorem pe_thunk {X : Cx} {W : WX} {i k : Nat} {a : Str} {p1 p2 : Pos} (tk : Takes X W) (hr : Room k X.A) (hN : X.N[i]? = some a) (hv : Vis X.env.scope a) (hd : (a == ("__debug__" : Str)) = false := by decide) (hcd : (a == ("__classdict__" : Str)) = false := by decide) :
    PE X (.Call (.Name a p1) [] [] p2) (fun σ H Q => ∃ f T Eb, σ[i]? = some (some (.ref f)) ∧ Thunk X.prog X.w X.K X.mg X.base k H f T ∧ T H Q Eb ∧ ∀ cls d H', Eb cls d H' → W cls d σ H') := by
  refine ⟨fun pins s σ H Q I h => ?_⟩
  obtain ⟨f, T, Eb, hs, th, q, hE⟩ := h
  refine wpAny_Call_Name_kw (thn ((pe_var (pos := p1) (i := i) hN hv hd hcd).run pins s σ H (fun v H1 => v = .ref f ∧ H1 = H) I ⟨.ref f, hs, rfl, rfl⟩) fun u s1 ⟨v, H1, I1, r1, q1⟩ => ?_)
  obtain ⟨ev, eH⟩ := q1
  subst ev
  rw [eH] at I1
  obtain rfl : u = Value.ref f := r1
  obtain ⟨fd, hf⟩ := th.fn
  have of1 := (I1.hok f _ hf).1
  refine PySem.W.callWith_F0 ⟨_, _, _, _, of1⟩ ?_
  refine wpAny_call (codeAny_mono (th.run X.A X.stack s1 H Q Eb hr I1.env0 (KeepC.refl H) q) fun r s' hq => ?_)
  cases r with
  | error e => exact tk e s' (XE.of_call (pins := pins) (σ := σ) I1 hE hq)
  | ok fl =>
    cases fl with
    | ret u => exact I1.after hq
    | next => exact False.elim hq
    | brk => exact False.elim hq
    | cont => exact False.elim hq
end TH

set_option Elab.async false
set_option maxRecDepth 100000
set_option maxHeartbeats 4000000
namespace TH
open PySem PySem.Spec PyProof.Rows L2 LamX NdefX
/-- a lambda's function, dv: where its defaults stand -/
abbrev lamFd (F : NF) (body : Expr) (dv pm ctv : Value) : FuncData := ⟨F.name, F.qual, F.params, .expr body, F.scope, mainGlobals, F.cl, dv, .none, .none, pm, none, .ref F.c, ctv, builtinsNs⟩
abbrev lamO (F : NF) (body : Expr) (dv pm ctv : Value) : Obj := { cls := .type "function", data := .func (lamFd F body dv pm ctv) }
section
variable {M : Model} {A : Around} {E : Value → Shared → Prop} {s : Shared} {nm ql : Str} {params : Arguments} {body : Expr} {scope : Scope} {env : Env} {c P : Addr} {ps : Array Value} {pos : Pos} {ln : Nat} {mg : Str → Option Value} {clos : List (Str × Addr)} {dv : Value} {Q : Value → Shared → Prop}
theorem tail_new (e1 : closureFor scope env = pure clos) (e2 : env.globals = mainGlobals) (hg : s.heap.Ns mainGlobals mg) (e3 : env.code = .ref c) (C : PySem.W.CodeHd s.heap c P) (hP : s.heap.get? P = some (PySem.W.tabObj ps)) (ht : TriplesOk ps.toList)
    (nf : codeAmong pos ps.toList = none) (gP : mainGlobals ≠ P) (hb : s.heap.BuiltinsAt mg P)
    (h : ∀ c' ctv h' tk, Heap.ExtBut P s.heap h' → s.heap.objs.size ≤ c' → c' < h'.objs.size → h'.CodeRec (.ref c') ql → h'.get? P = some (PySem.W.tabObj (ps ++ #[rawInt pos.line, rawInt pos.col, .ref c'])) →
      Q (.ref h'.objs.size) { s with heap := h'.push (lamO ⟨nm, ql, params, [], scope, clos, c'⟩ body dv ((mg "__name__").getD .none) ctv), toks := tk }) :
    wpAny M A (makeTail nm ql params (.expr body) scope env dv .none none pos ln) Q E s := by
  obtain ⟨bm, ob, b1, b2, _, b4, b5, b6, b7, b8⟩ := hb
  unfold makeTail
  rw [e1, e2]
  refine wpAny_bind (wpAny_pure ?_)
  cases clos with
  | nil =>
    rw [show (([] : List (Str × Addr)).isEmpty) = true from rfl, if_pos rfl]
    refine wpAny_bind (wpAny_pure (wpAny_bind (wpAny_functionCodeX e3 (C.code hP ht) (C.tab hP) nf fun c' h' tk x1 x2 x3 _ x5 x6 _ => ?_)))
    have g1 := hg.extBut x1 gP
    refine wpAny_bind (wpAny_builtinsFor g1 b1 b2 (x1 _ _ b4 b5) b6 b7 b8 (wpAny_bind (wpAny_nsGet g1 ?_)))
    exact wpAny_bind (wpAny_pure (wpAny_newObj_type (h c' .none h' tk x1 x2 x3 x5 x6.2) (by size_fits)))
  | cons q r =>
    rw [show ((q :: r).isEmpty) = false from rfl, if_neg Bool.false_ne_true]
    have kp : ∀ b o, s.heap.get? b = some o → (s.heap.push ({ cls := .type "tuple", data := .seq ((((q :: r).mergeSort fun a b => a.1.cps.toList ≤ b.1.cps.toList).map fun x => Value.ref x.2).toArray) } : Obj)).get? b = some o := fun b o e => Heap.get?_push_of_some _ e
    refine wpAny_bind (wpAny_newTextTuple (wpAny_bind (wpAny_functionCodeX e3 ((C.keeps kp).code (kp _ _ hP) ht) ((C.keeps kp).tab (kp _ _ hP)) nf fun c' h' tk x1 x2 x3 _ x5 x6 _ => ?_)))
    have g1 := (hg.push _).extBut x1 gP
    have y1 : Heap.ExtBut P s.heap h' := fun b o n e => x1 b o n (kp b o e)
    have y2 : s.heap.objs.size ≤ c' := Nat.le_trans (by rw [Heap.size_push]; omega) x2
    refine wpAny_bind (wpAny_builtinsFor g1 b1 b2 (y1 _ _ b4 b5) b6 b7 b8 (wpAny_bind (wpAny_nsGet g1 ?_)))
    exact wpAny_bind (wpAny_pure (wpAny_newObj_type (h c' _ h' tk y1 y2 x3 x5 x6.2) (by size_fits)))
theorem tail_hit {c' : Addr} (e1 : closureFor scope env = pure clos) (e2 : env.globals = mainGlobals) (hg : s.heap.Ns mainGlobals mg) (e3 : env.code = .ref c) (C : PySem.W.CodeHd s.heap c P) (hP : s.heap.get? P = some (PySem.W.tabObj ps)) (ht : TriplesOk ps.toList)
    (hf : codeAmong pos ps.toList = some (.ref c')) (hb : s.heap.BuiltinsAt mg P)
    (h : ∀ (ctv : Value) (h' : Heap) (tk : Tok), (∀ b o, s.heap.get? b = some o → h'.get? b = some o) → s.heap.objs.size ≤ h'.objs.size →
      Q (.ref h'.objs.size) { s with heap := h'.push (lamO ⟨nm, ql, params, [], scope, clos, c'⟩ body dv ((mg "__name__").getD .none) ctv), toks := tk }) :
    wpAny M A (makeTail nm ql params (.expr body) scope env dv .none none pos ln) Q E s := by
  obtain ⟨bm, ob, b1, b2, _, b4, b5, b6, b7, b8⟩ := hb
  unfold makeTail
  rw [e1, e2]
  refine wpAny_bind (wpAny_pure ?_)
  cases clos with
  | nil =>
    rw [show (([] : List (Str × Addr)).isEmpty) = true from rfl, if_pos rfl]
    refine wpAny_bind (wpAny_pure (wpAny_bind (wpAny_functionCode_hit e3 (C.code hP ht) hf ?_)))
    refine wpAny_bind (wpAny_builtinsFor hg b1 b2 b5 b6 b7 b8 (wpAny_bind (wpAny_nsGet hg ?_)))
    exact wpAny_bind (wpAny_pure (wpAny_newObj_type (h .none s.heap s.toks (fun _ _ e => e) (Nat.le_refl _)) (by size_fits)))
  | cons q r =>
    rw [show ((q :: r).isEmpty) = false from rfl, if_neg Bool.false_ne_true]
    have kp : ∀ b o, s.heap.get? b = some o → (s.heap.push ({ cls := .type "tuple", data := .seq ((((q :: r).mergeSort fun a b => a.1.cps.toList ≤ b.1.cps.toList).map fun x => Value.ref x.2).toArray) } : Obj)).get? b = some o := fun b o e => Heap.get?_push_of_some _ e
    refine wpAny_bind (wpAny_newTextTuple (wpAny_bind (wpAny_functionCode_hit e3 ((C.keeps kp).code (kp _ _ hP) ht) hf ?_)))
    refine wpAny_bind (wpAny_builtinsFor (hg.push _) b1 b2 (kp _ _ b5) b6 b7 b8 (wpAny_bind (wpAny_nsGet (hg.push _) ?_)))
    exact wpAny_bind (wpAny_pure (wpAny_newObj_type (h _ _ s.toks kp (by rw [Heap.size_push]; omega)) (by size_fits)))
end
/-- a lambda stands at f, ds its defaults -/
def LamAt (H : Hp) (f : Addr) (mk : Addr → NF) (body : Expr) (ds : List V) : Prop := ∃ (c' : Addr) (dv pm ctv : Value), H f = some (.frz (lamO (mk c') body dv pm ctv) (.own f)) ∧ H c' = some (CodeO c' (mk c').qual) ∧
  ((ds = [] ∧ dv = .none) ∨ ∃ d y, ds = [y] ∧ dv = .ref d ∧ H d = some (.tup [y]))
theorem LamAt.keep {H H' : Hp} {f : Addr} {mk : Addr → NF} {body : Expr} {ds : List V} (l : LamAt H f mk body ds) (kc : KeepC H H') : LamAt H' f mk body ds := by
  obtain ⟨c', dv, pm, ctv, h1, h2, h3⟩ := l
  refine ⟨c', dv, pm, ctv, kc.1 _ _ _ h1, ?_, ?_⟩
  · unfold CodeO at h2 ⊢
    exact kc.2.2 _ _ h2
  · rcases h3 with h3 | ⟨d, y, e1, e2, e3⟩
    · exact .inl h3
    · exact .inr ⟨d, y, e1, e2, kc.2.1 _ _ e3⟩
abbrev mkLam (X : Cx) (params : Arguments) (scope : Scope) : Addr → NF := fun c' => ⟨"<lambda>", X.env.qual ++ "<lambda>", params, [], scope, cloFrom X.env.cells scope.names [], c'⟩
section
variable {X : Cx} {pins : List (Addr × Obj)} {σ : L2.St} {H : Hp} {s : Shared}
/-- the function's object is new, and known from now on -/
theorem inv_lam {F : NF} {body : Expr} {dv pm ctv : Value} {t' : Nat} {o : Obj} (I : Inv X pins σ H s) (e : o = lamO F body dv pm ctv) :
    Inv X pins σ (upd H s.heap.objs.size (.frz (lamO F body dv pm ctv) (.own s.heap.objs.size))) { s with heap := s.heap.push o, toks := t' } := by
  subst e
  refine I.laid (a := s.heap.objs.size) (fun b u z => Heap.get?_push_of_some _ z) (Nat.le_refl _) ?_
  have z : (s.heap.push (lamO F body dv pm ctv)).get? s.heap.objs.size = some (lamO F body dv pm ctv) := Heap.get?_push_size _ rfl
  exact ⟨z, _, z⟩
theorem lam_tail {T : List (Addr × Str)} {c P : Addr} {params : Arguments} {body : Expr} {scope : Scope} {pos : Pos} {dv : Value} {E : Value → Shared → Prop} {Q : Value → Shared → Prop} (I : Inv X pins σ H s) (TB : TabB X.base X.mg c P) (hcode : X.env.code = .ref c)
    (hm : (P, X.env.qual ++ "<lambda>") ∈ T) (hu : ∀ p ∈ T, p.1 = P → p.2 = X.env.qual ++ "<lambda>") (hT : Tabs T H) (hfree : ∀ y ∈ scope.names, y.2 = .free → ∃ c, X.env.cells.lookup y.1 = some c)
    (h : ∀ (f c' : Addr) (pm ctv : Value) (H1 : Hp) (s' : Shared), Inv X pins σ H1 s' → ExtN H H1 → (∀ b, H1 b = Option.none → H b = Option.none) → Tabs T H1 → H f = none →
      H1 f = some (.frz (lamO (mkLam X params scope c') body dv pm ctv) (.own f)) → H1 c' = some (CodeO c' (X.env.qual ++ "<lambda>")) → Q (.ref f) s') :
    wpAny (model X.prog X.w) X.A (makeTail "<lambda>" (X.env.qual ++ "<lambda>") params (.expr body) scope X.env dv .none none pos pos.line) Q E s := by
  obtain ⟨ps, hP, ht, ha⟩ := hT _ hm
  have bP : s.heap.BuiltinsAt X.mg P := TB.bm.keeps I.bk
  have gtP : s.heap.get? P = some { cls := .none, data := .fields ps } := I.hok P _ hP
  cases hc : codeAmong pos ps.toList with
  | none =>
    refine tail_new (mg := X.mg) (c := c) (P := P) (ps := ps) (closure_ok hfree) I.ok.glob (I.mod.glob.keeps I.bk) hcode (TB.code.keeps I.bk) gtP ht hc TB.gP bP fun c' ctv h' tk hx hge hlt hrec htb => ?_
    obtain ⟨c2, oc, vs, t, z0, hoc, hd, hv⟩ := hrec
    cases z0
    have nC : H c' = none := I.hok.fresh hge
    have I1 := inv_table (t' := tk) (more := #[rawInt pos.line, rawInt pos.col, .ref c']) (h' := h') I hP (fun b o hb e => hx b o hb e) htb hge ⟨oc, vs, t, hoc, hd, hv⟩
    have eE : ExtN H (upd (upd H P (.tbl (ps ++ #[rawInt pos.line, rawInt pos.col, .ref c']))) c' (CodeO c' (X.env.qual ++ "<lambda>"))) := fun b o z n => by
      rw [upd_ne (ne_of_none z nC), upd_ne (fun y => n ps (Option.some.inj (z.symm.trans (by rw [y]; exact hP))))]
      exact z
    have eT : Tabs T (upd (upd H P (.tbl (ps ++ #[rawInt pos.line, rawInt pos.col, .ref c']))) c' (CodeO c' (X.env.qual ++ "<lambda>"))) := fun p hp => by
      by_cases hb : p.1 = P
      · rw [hu p hp hb, hb]
        have eL : (ps ++ #[rawInt pos.line, rawInt pos.col, .ref c']).toList = ps.toList ++ [rawInt pos.line, rawInt pos.col, .ref c'] := by simp
        refine ⟨_, by rw [upd_ne (ne_of_none hP nC), upd_same], by rw [eL]; exact PySem.TriplesOk_snoc _ _ _ _ ht, fun p' cv hcv => ?_⟩
        rw [eL] at hcv
        rcases among_app _ ht hcv with z | z
        · obtain ⟨c0, z1, z2⟩ := ha p' cv z
          exact ⟨c0, z1, eE _ _ z2 codeO_ne⟩
        · exact ⟨c', z, upd_same⟩
      · obtain ⟨ps', a1, a2, a3⟩ := hT p hp
        refine ⟨ps', by rw [upd_ne (ne_of_none a1 nC), upd_ne hb]; exact a1, a2, fun p' cv hcv => ?_⟩
        obtain ⟨c0, z1, z2⟩ := a3 p' cv hcv
        exact ⟨c0, z1, eE _ _ z2 codeO_ne⟩
    have nF := I1.hok.fresh (Nat.le_refl _)
    have I2 := inv_lam (F := mkLam X params scope c') (body := body) (dv := dv) (pm := (X.mg "__name__").getD .none) (ctv := ctv) (t' := tk) I1 rfl
    refine h h'.objs.size c' _ _ _ _ I2 (fun b o z n => ?_) (fun b z => upd_none (upd_none (upd_none z))) (eT.ext fun b o z => ?_) (I.hok.fresh (Nat.le_trans hge (Nat.le_of_lt hlt))) upd_same ?_
    · have z1 := eE b o z n
      exact (upd_ne (ne_of_none z1 nF)).trans z1
    · exact (upd_ne (ne_of_none z nF)).trans z
    · exact (upd_ne (Nat.ne_of_lt hlt)).trans upd_same
  | some cv =>
    obtain ⟨c', z0, hco⟩ := ha pos cv hc
    subst z0
    refine tail_hit (mg := X.mg) (c := c) (P := P) (ps := ps) (closure_ok hfree) I.ok.glob (I.mod.glob.keeps I.bk) hcode (TB.code.keeps I.bk) gtP ht hc bP fun ctv h' tk hx hsz => ?_
    have I1 : Inv X pins σ H { s with heap := h', toks := tk } := I.kept hx
    have nF : H h'.objs.size = none := I1.hok.fresh (Nat.le_refl _)
    have I2 := inv_lam (F := mkLam X params scope c') (body := body) (dv := dv) (pm := (X.mg "__name__").getD .none) (ctv := ctv) (t' := tk) I1 rfl
    refine h h'.objs.size c' _ _ _ _ I2 (fun b o z n => ?_) (fun b z => upd_none z) (hT.ext fun b o z => ?_) nF upd_same ?_
    · exact (upd_ne (ne_of_none z nF)).trans z
    · exact (upd_ne (ne_of_none z nF)).trans z
    · exact (upd_ne (ne_of_none hco nF)).trans hco
/-- a lambda, as a value -/
def tLamV (X : Cx) (T : List (Addr × Str)) (params : Arguments) (body : Expr) (scope : Scope) : TE := fun _ H Q => Tabs T H ∧
  ∀ f H1, ExtN H H1 → (∀ b, H1 b = Option.none → H b = Option.none) → Tabs T H1 → H f = none → LamAt H1 f (mkLam X params scope) body [] → Q (.ref f) H1
/-- .. with a default -/
def tLamD (T : List (Addr × Str)) (R : Hp → Addr → V → Prop) (te : TE) : TE := fun σ H Q => te σ H fun v H0 => Tabs T H0 ∧
  ∀ f H1, ExtN H0 H1 → (∀ b, H1 b = Option.none → H0 b = Option.none) → Tabs T H1 → H0 f = none → R H1 f v → Q (.ref f) H1
theorem pe_lamV {T : List (Addr × Str)} {c P : Addr} {params : Arguments} {body : Expr} {scope : Scope} {pos : Pos} (TB : TabB X.base X.mg c P) (hcode : X.env.code = .ref c) (hm : (P, X.env.qual ++ "<lambda>") ∈ T) (hu : ∀ p ∈ T, p.1 = P → p.2 = X.env.qual ++ "<lambda>")
    (hfree : ∀ y ∈ scope.names, y.2 = .free → X.env.scope.names.lookup y.1 = some .cell ∨ X.env.scope.names.lookup y.1 = some .free) (hdef : defaultsOf params X.env = ([], [])) :
    PE X (.Lambda params body scope pos) (tLamV X T params body scope) := by
  refine ⟨fun pins s σ H Q I h => ?_⟩
  obtain ⟨hT, h⟩ := h
  refine PySem.W.kla_eval hdef ?_
  rw [makeFunction_eq]
  simp only [List.zip_nil_right, List.filterMap_nil, List.isEmpty_nil, if_true, pure_bind]
  refine lam_tail I TB hcode hm hu hT (fun y hy e => (hfree y hy e).elim (fun z => I.ok.has _ (.inl z)) fun z => I.ok.has _ (.inr z)) fun f c' pm ctv H1 s' I1 eN nn T1 f0 f1 c1 => ?_
  exact ⟨.ref f, H1, I1, rfl, h f H1 eN nn T1 f0 ⟨c', .none, pm, ctv, f1, c1, .inl ⟨rfl, rfl⟩⟩⟩
theorem pe_lamD {T : List (Addr × Str)} {c P : Addr} {params : Arguments} {body e : Expr} {scope : Scope} {pos : Pos} {te : TE} (TB : TabB X.base X.mg c P) (hcode : X.env.code = .ref c) (hm : (P, X.env.qual ++ "<lambda>") ∈ T) (hu : ∀ p ∈ T, p.1 = P → p.2 = X.env.qual ++ "<lambda>")
    (hfree : ∀ y ∈ scope.names, y.2 = .free → X.env.scope.names.lookup y.1 = some .cell ∨ X.env.scope.names.lookup y.1 = some .free) (hdef : defaultsOf params X.env = ([eval e X.env], [])) (he : PE X e te)
    {R : Hp → Addr → V → Prop} (hR : ∀ (v : V) (f : Addr) (H1 : Hp), LamAt H1 f (mkLam X params scope) body [v] → R H1 f v) :
    PE X (.Lambda params body scope pos) (tLamD T R te) := by
  refine ⟨fun pins s σ H Q I h => ?_⟩
  rw [arm_eval_Lambda, hdef]
  show wpAny _ _ (do let dv ← evalAll [eval e X.env]; let kdv ← holding dv (evalAllOpt []); makeFunction "<lambda>" (X.env.qual ++ "<lambda>") params (.expr body) scope X.env dv kdv [] pos pos.line) _ _ _
  unfold evalAll
  refine wpAny_bind (wpAny_bind (thn (he.run pins s σ H _ I h) fun u s1 ⟨v, H0, I0, r, hT, h⟩ => wpAny_bind (wpAny_holding ?_)))
  unfold evalAll
  refine wpAny_pure (wpAny_pure (wpAny_bind (wpAny_holding ?_)))
  unfold evalAllOpt
  refine wpAny_pure ?_
  rw [makeFunction_eq]
  simp only [List.zip_nil_right, List.filterMap_nil, List.isEmpty_nil, List.isEmpty_cons, if_true, Bool.false_eq_true, if_false, pure_bind]
  refine wpAny_bind (wpAny_newTextTuple ?_)
  have nD : H0 s1.heap.objs.size = none := I0.hok.fresh (Nat.le_refl _)
  have I1 : Inv X pins σ (upd H0 s1.heap.objs.size (.tup [v])) { s1 with heap := s1.heap.push { cls := .type "tuple", data := .seq [u].toArray } } := I0.laid (t' := s1.toks) (fun b o z => Heap.get?_push_of_some _ z) (Nat.le_refl _)
    ⟨by show 1 ≤ sizeLine; rw [sizeLine_eq]; decide, [u], .cons r .nil, ⟨_, Heap.get?_push_size _ rfl, rfl, _, rfl⟩⟩
  have T1 : Tabs T (upd H0 s1.heap.objs.size (.tup [v])) := hT.ext fun b o z => (upd_ne (ne_of_none z nD)).trans z
  refine lam_tail I1 TB hcode hm hu T1 (fun y hy e => (hfree y hy e).elim (fun z => I.ok.has _ (.inl z)) fun z => I.ok.has _ (.inr z)) fun f c' pm ctv H1 s' I2 eN nn T2 f0 f1 c1 => ?_
  refine ⟨.ref f, H1, I2, rfl, h f H1 (fun b o z n => eN b o ((upd_ne (ne_of_none z nD)).trans z) n) (fun b z => upd_none (nn b z)) T2 (upd_none f0) (hR _ _ _ ⟨c', _, pm, ctv, f1, c1, .inr ⟨s1.heap.objs.size, v, rfl, rfl, eN _ _ upd_same fun q z => by cases z⟩⟩)⟩
end
end TH

set_option Elab.async false
set_option maxRecDepth 100000
set_option maxHeartbeats 4000000
namespace TH
open PySem PySem.Spec PyProof.Rows L2 LamX NdefX
/-! ### the running frame's cells -/
/-- cs: the cells of X's frame, as they stand -/
def Opened (X : Cx) (σ : L2.St) (H : Hp) (cs : List (Addr × Obj)) : Prop := ∃ (pins : List (Addr × Obj)) (s : Shared), Inv X pins σ H s ∧ ∀ b o, cs.lookup b = some o ↔ ((∃ x, X.env.cells.lookup x = some b) ∧ s.heap.get? b = some o)
theorem lookup_mem {l : List (Addr × Obj)} {b : Addr} {o : Obj} (h : l.lookup b = some o) : (b, o) ∈ l := by
  induction l with
  | nil => cases h
  | cons p r ih =>
    obtain ⟨k, v⟩ := p
    rw [List.lookup_cons] at h
    cases e : b == k with
    | true =>
      rw [e] at h
      have e2 : b = k := by simpa using e
      rw [e2, ← Option.some.inj h]
      exact List.mem_cons_self
    | false =>
      rw [e] at h
      exact List.mem_cons_of_mem _ (ih h)
theorem lookup_has {l : List (Addr × Obj)} {b : Addr} {o : Obj} (h : (b, o) ∈ l) : ∃ o', l.lookup b = some o' := by
  induction l with
  | nil => cases h
  | cons p r ih =>
    obtain ⟨k, v⟩ := p
    rw [List.lookup_cons]
    cases e : b == k with
    | true => exact ⟨v, rfl⟩
    | false =>
      rcases List.mem_cons.mp h with z | z
      · injection z with z1 z2
        rw [z1, beq_self_eq_true] at e
        cases e
      · exact ih z
def cellsOf (cells : List (Str × Addr)) (h : Heap) : List (Addr × Obj) := cells.filterMap fun p => if cells.lookup p.1 = some p.2 then (h.get? p.2).map fun o => (p.2, o) else none
theorem cellsOf_iff {cells : List (Str × Addr)} {h : Heap} (b : Addr) (o : Obj) : (cellsOf cells h).lookup b = some o ↔ ((∃ x, cells.lookup x = some b) ∧ h.get? b = some o) := by
  have m1 : ∀ {b o}, (b, o) ∈ cellsOf cells h → (∃ x, cells.lookup x = some b) ∧ h.get? b = some o := fun {b o} hm => by
    obtain ⟨p, hp, hq⟩ := List.mem_filterMap.mp hm
    by_cases e : cells.lookup p.1 = some p.2
    · rw [if_pos e] at hq
      cases e2 : h.get? p.2 with
      | none => rw [e2] at hq; cases hq
      | some o' =>
        rw [e2] at hq
        injection (Option.some.inj hq) with z1 z2
        subst z1 z2
        exact ⟨⟨p.1, e⟩, e2⟩
    · rw [if_neg e] at hq
      cases hq
  refine ⟨fun e => m1 (lookup_mem e), fun ⟨⟨x, e⟩, g⟩ => ?_⟩
  have hm : (b, o) ∈ cellsOf cells h := List.mem_filterMap.mpr ⟨(x, b), PySem.mem_of_lookup e, by rw [if_pos e, g]; rfl⟩
  obtain ⟨o', e'⟩ := lookup_has hm
  have g' := (m1 (lookup_mem e')).2
  rw [g] at g'
  cases g'
  exact e'
section
variable {X : Cx} {pins : List (Addr × Obj)} {σ : L2.St} {H : Hp} {s : Shared} {cs : List (Addr × Obj)}
theorem csAt_cells (I : Inv X pins σ H s) (e : ∀ b o, cs.lookup b = some o ↔ ((∃ x, X.env.cells.lookup x = some b) ∧ s.heap.get? b = some o)) : CsAt cs H s.heap := fun b o q => by
  obtain ⟨⟨x, hx⟩, g⟩ := (e b o).mp q
  exact ⟨g, I.freeC x b hx⟩
theorem Opened.at (O : Opened X σ H cs) {b : Addr} {u : HO} (e : H b = some u) : addC cs H b = some u := by
  obtain ⟨pins, s, I, h⟩ := O
  rw [addC_out (out_some (csAt_cells I h) e)]
  exact e
theorem Opened.keepC (O : Opened X σ H cs) : KeepC H (addC cs H) := .of fun _ _ e _ => O.at e
/-- the cells are above all that stood at the frame's entry -/
theorem cells_above (I : Inv X pins σ H s) (hfn : ∀ x, X.fn x = true) {x : Str} {c : Addr} (e : X.env.cells.lookup x = some c) : X.s_0.heap.objs.size ≤ c := I.ok.cab x c (hfn x) e
theorem cells_nostk (I : Inv X pins σ H s) (hfn : ∀ x, X.fn x = true) {x : Str} {c : Addr} (e : X.env.cells.lookup x = some c) : c ∉ frs X.stack := fun hm => by
  rcases List.mem_cons.mp (I.stkSub c hm) with z | z
  · exact I.cne x c e z
  · obtain ⟨_, o, ho, _⟩ := I.ok.funs.mem z
    exact absurd (Nat.lt_of_lt_of_le (Heap.lt_size ho) (cells_above I hfn e)) (Nat.lt_irrefl _)
theorem env0_add (I : Inv X pins σ H s) (hfn : ∀ x, X.fn x = true) (e : ∀ b o, cs.lookup b = some o ↔ ((∃ x, X.env.cells.lookup x = some b) ∧ s.heap.get? b = some o)) : Env0 X.prog X.w X.K X.mg X.base X.A X.stack s (addC cs H) := by
  have E := I.env0
  have ca := csAt_cells I e
  refine ⟨E.frames, E.mod, fun b o hb => ⟨(E.bs b o hb).1, ?_⟩, E.bsz, E.funs, fun b hb => ?_, hok_add E.hok ca, E.bare⟩
  · cases q : cs.lookup b with
    | none => rw [addC_out q]; exact (E.bs b o hb).2
    | some o' =>
      obtain ⟨⟨x, hx⟩, _⟩ := (e b o').mp q
      have h1 := cells_above I hfn hx
      have h2 := Heap.lt_size hb
      have h3 := I.ok.bsz
      exact absurd (Nat.lt_of_lt_of_le h2 (Nat.le_trans h3 h1)) (Nat.lt_irrefl _)
  · cases q : cs.lookup b with
    | none => rw [addC_out q]; exact E.frf b hb
    | some o' =>
      obtain ⟨⟨x, hx⟩, _⟩ := (e b o').mp q
      exact absurd hb (cells_nostk I hfn hx)
theorem opened_of (I : Inv X pins σ H s) : Opened X σ H (cellsOf X.env.cells s.heap) := ⟨pins, s, I, cellsOf_iff⟩
/-- g(..), g told of the frame's cells -/
def tCallC (X : Cx) (sp : Sp) (dvs : List V) (E : XK) (t : TA) : TE := fun σ H Q => t σ H fun vs H1 => ∀ cs, Opened X σ H1 cs → sp (vs ++ dvs) (addC cs H1) (fun v H2 => CsIn cs H2 → Q v (subC cs H2)) E
theorem pe_callC {k : Nat} {f : Addr} {fd : FuncData} {ps : List Str} {sp : Sp} {dvs : List V} {ds : List Value} {E : XK} {x : Str} {p pos : Pos} {e : Expr} {es : List Expr} {t : TA} (F : FnOk X.prog X.w X.K X.mg X.base C8.CX0 k f fd ps sp) (hr : Room k X.A) (hg : Gl X x) (hm : X.mg x = some (.ref f)) (hk : PySem.W.keepIn X.K (.ref f) = true)
    (hb : Binds X.K fd ps ds) (hd : Vals dvs ds) (hfn : ∀ x, X.fn x = true) (ha : PA X (e :: es) t) (hdb : (x == ("__debug__" : Str)) = false := by decide)
    (he : starEach (e :: es) X.env = (false, eval e X.env) :: starEach es X.env := by rfl) (hpl : (backTo pos (starEach es X.env)).any (·.1) = false := by rfl) :
    PE X (.Call (.Name x p) (e :: es) [] pos) (tCallC X sp dvs E t) := by
  refine ⟨fun pins s σ H Q I h => ?_⟩
  refine wpAny_Call_Name_kw (ld_glob I hg hm ?_ hdb)
  refine PySem.W.callWith_K (h₀ := X.base) I.ok.mod.kin hk (thn (ha.run pos pins s σ H _ I h) fun us s1 ⟨vs, H1, I1, r, q⟩ => ⟨I1.kIn, ?_⟩) he hpl
  have r2 : Vals (vs ++ dvs) (us ++ ds) := r.append hd
  have q := q _ (opened_of I1)
  have hl : (us ++ ds).length = ps.length := by rw [← r2.length]; exact F.len _ _ _ _ q
  show wpAny _ _ (call (.ref f) us) _ _ _
  refine wpAny_call (codeAny_mono (F.run X.A X.stack s1 _ ⟨us, []⟩ (us ++ ds) (vs ++ dvs) _ E hr (env0_add I1 hfn cellsOf_iff) (hb s1 us I1.kIn hl) r2 q) fun r s' hq => ?_)
  cases r with
  | error e => exact False.elim hq
  | ok fl =>
    cases fl with
    | ret u =>
      obtain ⟨v, H', os, bare, un, hok, rv, q⟩ := hq
      have ci := csIn_of un
      exact I1.after ⟨v, _, os, bare, un_add un (csAt_cells I1 cellsOf_iff) hok, hok_sub hok ci, rv, q ci⟩
    | next => exact False.elim hq
    | brk => exact False.elim hq
    | cont => exact False.elim hq
end
/-! ### a lambda of the frame X, its body read -/
structure Lamb (X : Cx) (k : Nat) (H : Hp) (f : Addr) (N : List Str) (js : List Nat) (ds : List V) (tb : XK → TE) : Prop where
  ex : ∃ (params : Arguments) (scope : Scope) (body : Expr) (ps fr : List Str), LamAt H f (mkLam X params scope) body ds ∧ NScope N ps fr scope ∧ ds.length = ps.length ∧
    (X.Ok → Caps X (cloFrom X.env.cells scope.names []) fr js) ∧
    (∀ (c' : Addr) (dv pm ctv : Value) (s : Shared) (us : List Value), us.length = ps.length → ((ps = [] ∧ dv = .none) ∨ (ps ≠ [] ∧ ∃ d o n, dv = .ref d ∧ s.heap.get? d = some o ∧ o.data = .seq us.toArray n)) →
      BindsTo s (lamFd (mkLam X params scope c') body dv pm ctv) ⟨[], []⟩ (ps.zip us)) ∧
    ∀ (c' : Addr) (A : Around) (outer : List Env) (s : Shared) (H : Hp) (E : XK), Room k (A.deeper (envF (mkLam X params scope c') f s.heap.objs.size)) → PE (ncx (L2.CX X.prog X.w) X.prog X.w X.K X.mg X.base N (mkLam X params scope c') f A outer s H E) body (tb E)
theorem Lamb.keep {X : Cx} {k : Nat} {H H' : Hp} {f : Addr} {N : List Str} {js : List Nat} {ds : List V} {tb : XK → TE} (l : Lamb X k H f N js ds tb) (kc : KeepC H H') : Lamb X k H' f N js ds tb := by
  obtain ⟨params, scope, body, ps, fr, h1, h2⟩ := l.ex
  exact ⟨params, scope, body, ps, fr, h1.keep kc, h2⟩
def CsNone (cs : List (Addr × Obj)) (H : Hp) : Prop := ∀ b o, cs.lookup b = some o → H b = none
/-- what it does, called from wherever -/
theorem Lamb.thunk {X : Cx} {k : Nat} {H : Hp} {f : Addr} {N : List Str} {js : List Nat} {ds : List V} {tb : XK → TE} {σ : L2.St} {cs : List (Addr × Obj)} (l : Lamb X k H f N js ds tb) (O : Opened X σ H cs) :
    Thunk X.prog X.w X.K X.mg X.base (k + 1) (addC cs H) f (fun H1 Q E => CsIn cs H1 → tb (fun cls d H2 => CsNone cs H2 → E cls d (addC cs H2)) (startF N ds (js.map (slotAt σ))) (subC cs H1) (fun v H2 => CsNone cs H2 → Q v (addC cs H2))) := by
  obtain ⟨params, scope, body, ps, fr, L, S, hds, cp, hb, hbody⟩ := l.ex
  have OK := O.keepC
  obtain ⟨pins, s0, I, hcs⟩ := id O
  have C := cells_of I (cp I.ok)
  have L2 := L.keep OK
  obtain ⟨c', dv, pm, ctv, h1, h2, h3⟩ := L2
  have hc0 : CsIn cs (addC cs H) := csIn_add cs H
  refine ⟨⟨_, h1⟩, fun A outer s H1 Q E hr e0 kc q => ?_⟩
  have ci : CsIn cs H1 := fun b o e => kc.1 _ _ _ (hc0 b o e)
  have q := q ci
  have fo := (e0.hok f _ (kc.1 _ _ _ h1)).1
  have hcode : s.heap.CodeRec (.ref c') (mkLam X params scope c').qual := codeO_at e0.hok (by unfold CodeO at h2 ⊢; exact kc.2.2 _ _ h2)
  have lim : s.heap.NoLimit := e0.mod.nolimit.keeps fun b o e => (e0.bs b o e).1
  have ca : CsAt cs (subC cs H1) s.heap := csAt_sub e0.hok ci
  have nf : ∀ b o, cs.lookup b = some o → b ∉ frs outer := fun b o e hm => by
    have z := e0.frf b hm
    rw [ci b o e] at z
    cases z
  have e1 : Env0 X.prog X.w X.K X.mg X.base A outer s (subC cs H1) := by
    refine ⟨e0.frames, e0.mod, fun b o hb => ⟨(e0.bs b o hb).1, ?_⟩, e0.bsz, e0.funs, fun b hm => ?_, hok_sub e0.hok ci, e0.bare⟩
    · have z := (e0.bs b o hb).2
      rw [subC_out (out_none ci z)]
      exact z
    · have z := e0.frf b hm
      rw [subC_out (out_none ci z)]
      exact z
  have atc : ∀ y c, (cloFrom X.env.cells scope.names []).lookup y = some c → ∀ o, s0.heap.get? c = some o → cs.lookup c = some o := fun y c e o g => (hcs c o).mpr ⟨⟨y, (cp I.ok).sub y c e⟩, g⟩
  have C1 : CellsAt (cloFrom X.env.cells scope.names []) fr (js.map (slotAt σ)) s.heap (subC cs H1) := by
    refine ⟨C.len, fun y c e => ?_, C.inj, fun i y e => ?_⟩
    · obtain ⟨_, v, o, g, d⟩ := C.all y c e
      have z := atc y c e o g
      exact ⟨subC_in z, v, o, (ca c o z).1, d⟩
    · obtain ⟨c, hc, hv⟩ := C.has i y e
      refine ⟨c, hc, fun v ev => ?_⟩
      obtain ⟨u, r, o, g, d⟩ := hv v ev
      exact ⟨u, r, o, (ca c o (atc y c hc o g)).1, d⟩
  obtain ⟨us, ru, hbi⟩ : ∃ us : List Value, Vals ds us ∧ BindsTo s (lamFd (mkLam X params scope c') body dv pm ctv) ⟨[], []⟩ (ps.zip us) := by
    rcases h3 with ⟨z1, z2⟩ | ⟨d, y, z1, z2, z3⟩
    · subst z1
      refine ⟨[], .nil, hb c' dv pm ctv s [] ?_ (.inl ⟨?_, z2⟩)⟩
      · exact hds
      · exact List.length_eq_zero_iff.mp hds.symm
    · subst z1
      obtain ⟨_, its, rv, ob, g, _, n, hd⟩ := e0.hok d _ (kc.2.1 _ _ z3)
      refine ⟨its, rv, hb c' dv pm ctv s its (by rw [← rv.length]; exact hds) (.inr ⟨fun z => ?_, d, ob, n, z2, g, hd⟩)⟩
      rw [z] at hds
      have hds : (1 : Nat) = 0 := hds
      exact absurd hds (by decide)
  refine PySem.W.kla_callFunE hr.depth fo rfl S.co S.gen rfl hcode ?_
  refine hbi _ _ _ _ ?_
  refine wpAny_newFunctionEnv S.nocell (fun ⟨n, _⟩ hy => S.par n (List.of_mem_zip hy).1) (fun h₁ hns hsb => ⟨lim.fresh _ hsb, ?_⟩) S.kind
  show codeAny _ _ (.expr body (envF (mkLam X params scope c') f s.heap.objs.size)) _ _
  have kp : ∀ b o, s.heap.get? b = some o → h₁.get? b = some o := fun b o e => hsb.extBut b o (Nat.ne_of_lt (Heap.lt_size e)) (Heap.get?_push_of_some _ e)
  have J : Inv (ncx (L2.CX X.prog X.w) X.prog X.w X.K X.mg X.base N (mkLam X params scope c') f A outer s (subC cs H1) (fun cls d H2 => CsNone cs H2 → E cls d (addC cs H2))) [] (startF N ds (js.map (slotAt σ))) (subC cs H1) { s with heap := h₁, toks := s.toks + (ps.zip us).length } :=
    inv_startN S hr.hd e1 hds ru C1 hns kp
  have fin : ∀ e s', L2.CX X.prog X.w outer (subC cs H1) s (fun cls d H2 => CsNone cs H2 → E cls d (addC cs H2)) e s' → L2.CX X.prog X.w outer H1 s E e s' := fun e s' ⟨a, B, H', cls, d, z, fl, hok, ub, na, os, ag, hE⟩ => by
    have cb := csAt_ub ub ca nf
    refine ⟨a, B, addC cs H', cls, d, z, fl, hok_add hok cb, ub_sub ub ci, ?_, os, ag, hE fun b o e => (cb b o e).2⟩
    cases y : cs.lookup a with
    | none => rw [addC_out y]; exact na
    | some o =>
      have z1 := (cb a o y).1
      rw [fl.2.1] at z1
      cases z1
  refine PySem.W.kla_codeExpr (wpAny_mono ((hbody c' A outer s (subC cs H1) _ (hr.deeper _)).run [] _ _ (subC cs H1) _ J q) (fun v s' hq => ?_) fun e s' hq => ?_)
  · obtain ⟨w', H', J', rv, q⟩ := hq
    exact ⟨w', _, J'.os, J'.bare, un_sub J'.base ci, hok_add J'.hok (csAt_of J'.base ca nf), rv, q fun b o e => (csAt_of J'.base ca nf b o e).2⟩
  · exact wpAny_mono hq (fun _ s'' z => fin _ _ z) fun e' s'' z => fin _ _ z
end TH

set_option Elab.async false
set_option maxRecDepth 100000
set_option maxHeartbeats 4000000
namespace TH
open PySem PySem.Spec PyProof.Rows L2 LamX NdefX
section
variable {X : Cx}
/-- lambda: body, no parameters -/
def tLam0 (X : Cx) (k : Nat) (T : List (Addr × Str)) (N : List Str) (js : List Nat) (tb : XK → TE) : TE := fun _ H Q => Tabs T H ∧
  ∀ f H1, ExtN H H1 → (∀ b, H1 b = Option.none → H b = Option.none) → Tabs T H1 → H f = none → Lamb X k H1 f N js [] tb → Q (.ref f) H1
/-- lambda a=e: body -/
def tLam1 (X : Cx) (k : Nat) (T : List (Addr × Str)) (N : List Str) (js : List Nat) (te : TE) (tb : XK → TE) : TE := fun σ H Q => te σ H fun v H0 => Tabs T H0 ∧
  ∀ f H1, ExtN H0 H1 → (∀ b, H1 b = Option.none → H0 b = Option.none) → Tabs T H1 → H0 f = none → Lamb X k H1 f N js [v] tb → Q (.ref f) H1
theorem pe_lam0 {T : List (Addr × Str)} {c P : Addr} {k : Nat} {N : List Str} {js : List Nat} {tb : XK → TE} {params : Arguments} {body : Expr} {scope : Scope} {pos : Pos} (TB : TabB X.base X.mg c P) (hcode : X.env.code = .ref c) (hm : (P, X.env.qual ++ "<lambda>") ∈ T)
    (hu : ∀ p ∈ T, p.1 = P → p.2 = X.env.qual ++ "<lambda>") (S : NScope N [] N scope) (hfree : ndefB X.env.scope scope N = true) (hjs : js.map (fun j => X.N[j]?) = N.map some) (hdef : defaultsOf params X.env = ([], []))
    (hbind : ∀ (c' : Addr) (pm ctv : Value), bindArgs (lamFd (mkLam X params scope c') body .none pm ctv) ⟨[], []⟩ = pure [])
    (hbody : ∀ (f c' : Addr) (A : Around) (outer : List Env) (s : Shared) (H : Hp) (E : XK), Room k (A.deeper (envF (mkLam X params scope c') f s.heap.objs.size)) → PE (ncx (L2.CX X.prog X.w) X.prog X.w X.K X.mg X.base N (mkLam X params scope c') f A outer s H E) body (tb E)) :
    PE X (.Lambda params body scope pos) (tLam0 X k T N js tb) := by
  refine ⟨fun pins s σ H Q I h => (pe_lamV TB hcode hm hu (ndef_free hfree) hdef).run pins s σ H Q I ⟨h.1, fun f H1 eN nn T1 f0 L => h.2 f H1 eN nn T1 f0 ⟨params, scope, body, [], N, L, S, rfl, fun ok => Caps.made ok (ndef_free hfree) (ndef_fr hfree) hjs, ?_, hbody f⟩⟩⟩
  intro c' dv pm ctv s us hl z
  obtain rfl : us = [] := List.length_eq_zero_iff.mp hl
  rcases z with ⟨_, rfl⟩ | ⟨z, _⟩
  · exact .of_eq (hbind c' pm ctv)
  · exact absurd rfl z
theorem pe_lam1 {T : List (Addr × Str)} {c P : Addr} {k : Nat} {p : Str} {N fr : List Str} {js : List Nat} {te : TE} {tb : XK → TE} {params : Arguments} {body e : Expr} {scope : Scope} {pos : Pos} (TB : TabB X.base X.mg c P) (hcode : X.env.code = .ref c) (hm : (P, X.env.qual ++ "<lambda>") ∈ T)
    (hu : ∀ p ∈ T, p.1 = P → p.2 = X.env.qual ++ "<lambda>") (S : NScope N [p] fr scope) (hfree : ndefB X.env.scope scope fr = true) (hjs : js.map (fun j => X.N[j]?) = fr.map some) (hdef : defaultsOf params X.env = ([eval e X.env], []))
    (hbind : ∀ (c' d : Addr) (pm ctv : Value), ∃ k, bindArgs (lamFd (mkLam X params scope c') body (.ref d) pm ctv) ⟨[], []⟩ = seqItems? (.ref d) >>= k ∧ ∀ u, k (some #[u]) = pure [(p, u)]) (he : PE X e te)
    (hbody : ∀ (f c' : Addr) (A : Around) (outer : List Env) (s : Shared) (H : Hp) (E : XK), Room k (A.deeper (envF (mkLam X params scope c') f s.heap.objs.size)) → PE (ncx (L2.CX X.prog X.w) X.prog X.w X.K X.mg X.base N (mkLam X params scope c') f A outer s H E) body (tb E)) :
    PE X (.Lambda params body scope pos) (tLam1 X k T N js te tb) := by
  refine ⟨fun pins s σ H Q I h => (pe_lamD TB hcode hm hu (ndef_free hfree) hdef he (R := fun H1 f v => Lamb X k H1 f N js [v] tb) fun v f H1 L => ⟨params, scope, body, [p], fr, L, S, rfl, fun ok => Caps.made ok (ndef_free hfree) (ndef_fr hfree) hjs, ?_, hbody f⟩).run pins s σ H Q I h⟩
  intro c' dv pm ctv s us hl z
  rcases z with ⟨z, _⟩ | ⟨_, d, o, n, rfl, g, hd⟩
  · cases z
  · obtain ⟨k, e1, e2⟩ := hbind c' d pm ctv
    match us, hl with
    | [u], _ => exact BindsTo.of_defaults rfl g hd e1 (e2 u)
end
/-- a(), its reading in plain letters -/
def tThunk (P : Program) (w : World) (K : PySem.W.Frag) (mg : Str → Option Value) (base : Heap) (k i : Nat) (W : WX) : TE := fun σ H Q => ∃ f T Eb, σ[i]? = some (some (.ref f)) ∧ Thunk P w K mg base k H f T ∧ T H Q Eb ∧ ∀ cls d H', Eb cls d H' → W cls d σ H'
theorem pe_thunkE {X : Cx} {W : WX} {P : Program} {w : World} {K : PySem.W.Frag} {mg : Str → Option Value} {base : Heap} {i k : Nat} {a : Str} {p1 p2 : Pos} (tk : Takes X W) (hr : Room k X.A) (hN : X.N[i]? = some a) (hv : Vis X.env.scope a) (hd : (a == ("__debug__" : Str)) = false := by decide) (hcd : (a == ("__classdict__" : Str)) = false := by decide)
    (h1 : X.prog = P := by rfl) (h2 : X.w = w := by rfl) (h3 : X.K = K := by rfl) (h4 : X.mg = mg := by rfl) (h5 : X.base = base := by rfl) : PE X (.Call (.Name a p1) [] [] p2) (tThunk P w K mg base k i W) := by
  subst h1 h2 h3 h4 h5
  exact pe_thunk tk hr hN hv hd hcd
end TH

set_option Elab.async false
set_option linter.all false
set_option maxRecDepth 100000
set_option maxHeartbeats 4000000
/-! an own exception over ValueError (its bases may be own classes) whose __init__ says super().__init__(e, ..) first -/
namespace SIX
open PySem PySem.W PySem.Calls PyProof.Rows L2 NdefX ClX
structure SupT (P : Program) (K : PySem.W.Frag) (D cc cda : Addr) : Prop where
  cell : ∃ cl cld csl, K.lookup cc = some ⟨cl, cld, .cell (some (.ref D)), csl⟩
  code : ∃ ccl cdd vs ccs file tf, K.lookup cda = some ⟨ccl, cdd, .fields vs, ccs⟩ ∧ vs[2]? = some (.str file tf) ∧ ((P.main.file : Str) == file) = true
  st : nsIn K cStatics "thirdparty.any" = some none
  mro : ∃ cd, clsIn K D = some cd ∧ alongIn K "__init__" ((cd.mro.dropWhile (· != .ref D)).drop 1) = some (some (.builtin "ValueError.__init__"))
  self : mroIn K D (.ref D) = some true
  ve : subIn K (.ref D) (.type "ValueError") = some true
  oex : OexC K D
theorem cells_one {cc D : Addr} {h : Heap} {H : Hp} (hn : H cc = none) (hc : h.IsCell cc (some (.ref D))) : CellsAt [("__class__", cc)] ["__class__"] [some (V.ref D)] h H := by
  have one : ∀ {y : Str} {c : Addr}, ([("__class__", cc)] : List (Str × Addr)).lookup y = some c → y = "__class__" ∧ c = cc := fun {y c} e => by
    have := PySem.mem_of_lookup e
    have := List.mem_singleton.mp this
    injection this with a b
    exact ⟨a, b⟩
  refine ⟨rfl, fun y c e => ?_, fun x y c e1 e2 => (one e1).1.trans (one e2).1.symm, fun i y e => ?_⟩
  · rw [(one e).2]; exact ⟨hn, _, hc⟩
  · cases i with
    | zero =>
      obtain rfl := Option.some.inj e
      refine ⟨cc, by simp [List.lookup], fun v hv => ?_⟩
      obtain rfl := Option.some.inj (Option.some.inj hv)
      exact ⟨.ref D, rfl, hc⟩
    | succ i => cases e
/-- the wrapper of ValueError.__init__ at u, bound to the exception at a, is called: the exception's arguments are laid anew -/
theorem run_mw {P : Program} {w : World} {A : Around} {E : Value → Shared → Prop} {Q : Value → Shared → Prop} {a u t0 D N : Addr} {ws : List Value} {nm qn : Str} {bs bm sub : List Value} {sn : List Str} {ab : Bool} {col : Option Bool} {dd : Option Addr} {c0 c1 c2 c3 c5 : Option Value} {s : Shared}
    (hu : s.heap.get? u = some (kxs_mw "ValueError.__init__" a)) (hD : s.heap.get? D = some (excClassObj nm qn D N bs bm true sn sub ab col dd c0 c1 c2 c3 c5 "ValueError.__new__")) (hx : s.heap.get? a = some (excRec (.ref D) t0 none .none .none (.bool false))) (hz : ws.length ≤ sizeLine)
    (q : ∀ h' t1, (∀ b o, b ≠ a → s.heap.get? b = some o → h'.get? b = some o) → h'.get? a = some (excRec (.ref D) t1 none .none .none (.bool false)) → Q .none { s with heap := h' }) : wpAny (model P w) A (call (.ref u) ws) Q E s := by
  obtain ⟨h, g, d, t, os⟩ := s
  have VE := PySem.F.excBase_ValueError
  apply wpAny_call
  apply codeAny_of_tree
  change wpAny _ _ (callAny (.ref u) { pos := ws }) _ _ _
  unfold callAny
  apply wpAny_bind
  apply wpAny_load hu
  dsimp only [kxs_mw]
  rw [if_pos (by decide)]
  refine wpAny_bind (check_bound_init VE.toExcCallFacts hD hx rfl (wpAny_bind (wpAny_pure (wpAny_pure ⟨plainId_quiet VE.init.plain _, codeAny_builtin VE.initEntry ?_⟩))))
  exact exc_init_tree (cls := .ref D) (t0 := t0) (dv := none) (c2 := .none) (c3 := .none) (b4 := .bool false) hx hz fun h' k e _ => q h' _ k e
theorem upd_id {H : Hp} {a : Addr} {o : HO} (h : H a = some o) : upd H a o = H := funext fun b => if e : b = a then by rw [e, upd_same, h] else upd_ne e
theorem ok_sup {CX : CXT} {P : Program} {w : World} {K : Frag} {mg : Str → Option Value} {base : Heap} {k : Nat} {f cc D : Addr} {F : NF} {dV kV doc pm ct oc : Value} {an od : Option Addr} {osl : Array (Option Value)} {N ps : List Str} {sp : Sp} {ar : Arg} {p0 p1 p2 p3 p4 : Pos} {e : Expr} {es : List Expr} {rest : List Stmt}
    (lk : K.lookup f = some ⟨oc, od, .func (fnX F.name F.qual F.params F.body F.scope F.cl dV kV doc pm an (.ref F.c) ct), osl⟩) (hcd : codeIn K (.ref F.c) F.qual = true) (hcl : F.cl = [(("__class__" : Str), cc)]) (T : SupT P K D cc F.c) (hm : mg "super" = none)
    (S : NScope N ps ["__class__"] F.scope) (hks : F.scope.names.lookup ("super" : Str) = some .globalImplicit) (htop : (P.main.scope.names.lookup ("super" : Str)).isSome = false) (hp : (F.params.posonlyargs ++ F.params.args).head? = some ar) (har : ps[0]? = some ar.arg)
    (hbody : F.body = .Expr (.Call (.Attribute (.Call (.Name "super" p0) [] [] p1) "__init__" p2) (e :: es) [] p3) p4 :: rest)
    {pl : Env → Sem Bool} (hev : ∀ env : Env, eval (.Call (.Attribute (.Call (.Name "super" p0) [] [] p1) "__init__" p2) (e :: es) [] p3) env = (do
      let ov ← attributeBase (.Call (.Name "super" p0) [] [] p1) "__init__" env (eval (.Call (.Name "super" p0) [] [] p1) env)
      standAt p2.atName
      let (f, first) ← holding [ov] (getMethod ov "__init__" (pl env))
      callWith p3 f first (backTo p3 (starEach (e :: es) env)) []))
    (he : ∀ env : Env, starEach (e :: es) env = (false, eval e env) :: starEach es env) (hpl : ∀ env : Env, (backTo p3 (starEach es env)).any (·.1) = false)
    (len : ∀ vs H Q E, sp vs H Q E → vs.length = ps.length) (hrun : ∀ (A : Around) (outer : List Env) (s : Shared) (H : Hp) (vs : List V) (Q : VK) (E : XK), Room k (A.deeper (envF F f s.heap.objs.size)) → sp vs H Q E → ∃ a vs', vs = .ref a :: vs' ∧ H a = some (exo a D none) ∧ ∃ ta t, PA (ncx CX P w K mg base N F f A outer s H E) (e :: es) ta ∧ PSs (ncx CX P w K mg base N F f A outer s H E) rest t ∧
      ta (startF N vs [some (.ref D)]) H fun ws H1 => ws.length ≤ 1000 ∧ H1 a = some (exo a D none) ∧ t { nx := fun _ H' => Q .non H', rt := Q } (startF N vs [some (.ref D)]) H1) :
    FnOk P w K mg base CX (k + 1) f (fnX F.name F.qual F.params F.body F.scope F.cl dV kV doc pm an (.ref F.c) ct) ps sp := by
  refine FnOk.mk len fun A outer s H args us vs Q E hr e0 hb r hsp => ?_
  have hl : vs.length = ps.length := len vs H Q E hsp
  obtain ⟨a, vs', rfl, ea, ta, t, ha, ht, hq⟩ := hrun A outer s H vs Q E (hr.deeper _) hsp
  have old : ∀ b o, base.get? b = some o → s.heap.get? b = some o := fun b o y => (e0.bs b o y).1
  have KX := e0.mod.kin.keeps old
  have lim := e0.mod.nolimit.keeps old
  obtain ⟨cl, cld, csl, hcell⟩ := T.cell
  have C : CellsAt F.cl ["__class__"] [some (V.ref D)] s.heap H := by
    rw [hcl]
    exact cells_one (e0.bs _ _ (e0.mod.kin _ _ hcell)).2 ⟨_, KX _ _ hcell, rfl⟩
  refine ks_codeAny_call_defAt (fd := fnX F.name F.qual F.params F.body F.scope F.cl dV kV doc pm an (.ref F.c) ct) (body := F.body) (binds := ps.zip us) hr.depth (KX _ _ lk) rfl lim (codeRec_of KX hcd) rfl hb S.nocell (fun ⟨n, _⟩ hy => S.par n (List.of_mem_zip hy).1) (fun h₁ hns kp => ?_) S.co S.gen S.kind
  have I : Inv (ncx CX P w K mg base N F f A outer s H E) [] (startF N (.ref a :: vs') [some (.ref D)]) H { s with heap := h₁, toks := s.toks + (ps.zip us).length } := inv_startN S hr.hd e0 hl r C hns kp
  show PySem.wpAt (model P w) (A.deeper (envF F f s.heap.objs.size)) (.func F.body (envF F f s.heap.objs.size)) (execs F.body (envF F f s.heap.objs.size)) _ _ _
  rw [hbody]
  have KX1 : K.In h₁ := I.kIn
  obtain ⟨ccl, cdd, cvs, ccs, file, tf, hcode, hvs, hfile⟩ := T.code
  obtain ⟨cd, hcls, halong⟩ := T.mro
  have hkc : F.scope.names.lookup ("__class__" : Str) = some .free := S.frk _ (List.mem_singleton.mpr rfl)
  obtain ⟨mb, mb1, mb2⟩ := I.mod.blt
  have hs0 : us[0]? = some (.ref a) := by
    cases r with
    | cons ra rv =>
      obtain rfl : _ = Value.ref a := ra
      rfl
  have ndP : ps.Nodup := by
    have q := S.nd.sublist (List.take_sublist (ps.length + 1) N)
    rw [show ps.length + 1 = ps.length + [("__class__" : Str)].length from rfl, S.pre] at q
    exact (List.nodup_append.mp q).left
  have hself : (ps.zip us).reverse.lookup ar.arg = some (.ref a) := zip_look ndP har hs0
  have hka : F.scope.names.lookup ar.arg = some .local := S.par _ (List.mem_of_getElem? har)
  obtain ⟨t0, hx⟩ := exo_at I.hok ea
  obtain ⟨nm, qn, N', bs, bm, sn, sub, ab, col, dd, c0, c1, c2, c3, c5, hDK, hbm⟩ := T.oex.cls
  have hD := KX1 _ _ hDK
  refine ks_wpAt_execs_cons (ks_wpAt_Expr_any (hi := by show interactive _ = false; unfold interactive; rw [show (envF F f s.heap.objs.size).scope.kind = .function from S.kind]; rfl) (ks_wpAt_MethodCall (ks_wpAt_super_base (f := f) (cc := F.c) (env := envF F f s.heap.objs.size) hks hkc (by decide) rfl (KX1 _ _ lk) rfl hp rfl (KX1 _ _ hcode) rfl hvs hfile htop ?_) (hev _)))
  refine ks_loadName_global S.kind hks (Calls.loadGlobal_builtin (I.mod.glob.keeps I.bk) hm (mb1.keeps I.bk) ((mb2 _ (by decide)).trans (by first | rfl | kernel_rfl)) ⟨rfl, ?_⟩)
  refine wpAny_loadName_free (c := cc) S.kind hkc (by show F.cl.lookup _ = _; rw [hcl]; simp [List.lookup]) ⟨_, KX1 _ _ hcell, rfl⟩ ?_
  refine wpAny_loadName_local S.kind hka hns hself ?_
  refine ks_wpAny_isType_cls hD rfl ⟨rfl, ?_⟩
  refine ks_wpAny_call_super hD rfl hx rfl (fun c e => by cases e) (looks_mroIn KX1 T.self) (fun h2 e2 k2 => ?_)
  have I2 := pin_new (t' := s.toks + (ps.zip us).length) I k2 (Nat.le_refl _) e2 (fun v z => nomatch z)
  have KX2 : K.In h2 := I2.kIn
  have hx2 := k2 _ _ hx
  have J2 : InstAt h2 a _ D none := ⟨hx2, rfl, rfl, trivial⟩
  have hI : Looks (model P w) h2 (isInstance (.ref a) (.type "ValueError")) true := J2.type.andThen (looks_subIn KX2 T.ve)
  have hxD : a ≠ D := ks_ne KX2 J2 hcls
  refine kxs_getMethod kxs_ValueError e2 (looks_opaque KX2 T.st) (l₀ := cd.mro) (fun A Q E s k q => wpAny_bind ((looks_clsIn KX2 hcls) A _ E s k (wpAny_pure q))) rfl KX2 halong hI hxD rfl ?_
  have I3 := pin_new (t' := s.toks + (ps.zip us).length + 1) I2 (h' := h2.push (kxs_mw "ValueError.__init__" a)) (fun _ _ z => Heap.get?_push_of_some _ z) (Nat.le_refl _) (Heap.get?_push_size h2 rfl) (fun v z => nomatch z)
  show wpAny _ _ (callWith p3 _ [] (backTo p3 (starEach (e :: es) (envF F f s.heap.objs.size))) []) _ _ _
  have ha' := ha.run p3 _ _ (startF N (.ref a :: vs') [some (.ref D)]) H _ I3 hq
  have he' := he (envF F f s.heap.objs.size)
  have ha' : wpAny _ _ (spliced (backTo p3 (starEach (e :: es) (envF F f s.heap.objs.size)))) _ _ _ := ha'
  rw [he'] at ha' ⊢
  have hpl' := hpl (envF F f s.heap.objs.size)
  refine kxs_callWith (i := "ValueError.__init__") (x := a) (by show (false || (backTo p3 (starEach es (envF F f s.heap.objs.size))).any (·.1)) = false; rw [hpl']; rfl) (evalArgs_plain (thn ha' fun us' s4 q4 => ?_))
  obtain ⟨ws, H4, I4, r4, l4, ea4, q4⟩ := q4
  refine ⟨pin_at I4, ?_⟩
  obtain ⟨t4, hx4⟩ := exo_at I4.hok ea4
  have hz : us'.length ≤ sizeLine := by have := r4.length; rw [sizeLine_eq]; omega
  refine run_mw (pin_at I4) (I4.kIn _ _ hDK) hx4 hz fun h' t1 k' e' => ?_
  have J := I4.write (t' := s4.toks) (x := a) (e := a) (o := exo a D none) (by rw [ea4]; exact True.intro) (.inl rfl) k' ⟨_, e'⟩ (exo_ok e')
  rw [upd_id ea4] at J
  refine PySem.wpAt_of_wpAny (wpAny_mono (ht.run _ _ (startF N (.ref a :: vs') [some (.ref D)]) H4 _ J q4) (fun fl s' z => ?_) fun _ _ z => z)
  match fl, z with
  | .ret _, ⟨v, _, H', J', rv, q⟩ => exact ⟨v, H', J'.os, J'.bare, J'.base, J'.hok, rv, q⟩
  | .next, ⟨_, H', J', q⟩ => exact ⟨.non, H', J'.os, J'.bare, J'.base, J'.hok, rfl, q⟩
  | .brk, ⟨_, _, _, q⟩ => exact q.elim
  | .cont, ⟨_, _, _, q⟩ => exact q.elim
end SIX

set_option Elab.async false
set_option linter.all false
set_option maxRecDepth 100000
set_option maxHeartbeats 2000000
/-! such an exception made with words alone: C(k = v) -/
namespace SIX
open PySem PySem.HandSPX
section
variable {M : Model} {prog : Program} {w : World} {A : Around} {E : Value → Shared → Prop} {R : Result → Shared → Prop} {h : Heap} {g : Array GenState} {d : Drawn} {t : Nat} {os : OsState}
variable {nm q : Str} {C N : Addr} {bs bm bmB : List Value} {hdct : Bool} {sn : List Str} {sub : List Value} {ab : Bool} {col : Option Bool} {dd : Option Addr} {k0 k1 k2 k3 k5 : Option Value} {kn : Str} {v : Value}
theorem words_new (hT : ∀ X : String, bm.contains (.type X) = bmB.contains (.type X)) (F : ExcBaseFacts "ValueError" "ValueError.__new__" "ValueError.__init__" bmB)
    (hC : h.get? C = some (excClassObj nm q C N bs bm hdct sn sub ab col dd k0 k1 k2 k3 k5 "ValueError.__new__")) {Q : Unit → Shared → Prop} (ok : Q () ⟨h, g, d, t, os⟩) : wpAny M A (checkBuiltinCall "ValueError.__new__" ⟨[.ref C], [(kn, v)]⟩) Q E ⟨h, g, d, t, os⟩ := by
  have isB : (Value.ref C :: bm).contains (.type "ValueError") = true := by rw [List.contains_cons, hT, F.hasB, Bool.or_true]
  have st := F.noStar
  simp only [F.newRow, F.newSplit, F.newKind, checkBuiltinCall]
  repeat (first
    | refine wpAny_loadPart_at hC ?_
    | (refine wpAny_isSubtype_exc hC ?_; rw [isB])
    | refine wpAny_staticBase_exc hC ?_
    | refine wpAny_madeBy_exc hC ?_
    | simp only [bne_self_eq_false, Bool.false_eq_true, if_false]
    | wp_step)
  exact ok
theorem words_made (hT : ∀ X : String, bm.contains (.type X) = bmB.contains (.type X)) (F : ExcBaseFacts "ValueError" "ValueError.__new__" "ValueError.__init__" bmB)
    (hC : h.get? C = some (excClassObj nm q C N bs bm hdct sn sub ab col dd k0 k1 k2 k3 k5 "ValueError.__new__")) (ok : R (.ok (.ret (.ref (h.objs.size + 1)))) ⟨(h.push (W.kdv_tup [])).push (excO C h.objs.size), g, d, t, os⟩) :
    codeAny (model prog w) A (.builtin "ValueError.__new__" ⟨[.ref C], [(kn, v)]⟩) R ⟨h, g, d, t, os⟩ := by
  have en := F.ends
  have mro : ∀ X : String, (Value.ref C :: bm).contains (.type X) = bmB.contains (.type X) := fun X => by rw [List.contains_cons, hT]; rfl
  have isB : (Value.ref C :: bm).contains (.type "ValueError") = true := (mro _).trans F.hasB
  have noA : (Value.ref C :: bm).contains (.type "AttributeError") = false := (mro _).trans F.noAttr
  have noN : (Value.ref C :: bm).contains (.type "NameError") = false := (mro _).trans F.noName
  refine codeAny_builtinAt (b := Builtin.«BaseException.__new__») F.entry ?_
  unfold Builtin.«BaseException.__new__»; apply wpAt_bind
  change PySem.wpAt _ _ _ (stack >>= _) _ _ _
  refine wpAt_bind (wpAt_stack fun top below => wpAt_of_wpAny ?_)
  wp_walk
  refine wpAt_of_wpAny ?_
  rw [F.owner]
  repeat (first
    | with_reducible refine wpAny_madeHere_exc F.canon hC ?_
    | with_reducible refine wpAny_loadPart_at hC ?_
    | (with_reducible refine wpAny_isSubtype_exc hC ?_
       first | rw [isB] | rw [noA] | rw [noN])
    | wp_step)
  change R _ _
  rw [Heap.size_push]
  exact ok
theorem words_type (hT : ∀ X : String, bm.contains (.type X) = bmB.contains (.type X)) (F : ExcBaseFacts "ValueError" "ValueError.__new__" "ValueError.__init__" bmB) {fI : Addr} {Q : Fin → Shared → Prop}
    (hC : h.get? C = some (excClassObj nm q C N bs bm hdct sn sub ab col dd k0 k1 k2 k3 k5 "ValueError.__new__")) (hi : W.Looks (model prog w) h (typeLookup (.ref C) "__init__") (some (.ref fI))) (hb : ∀ self, W.Looks (model prog w) h (bindSpecial (.ref fI) self) (.ref fI, [self]))
    (go : codeAny (model prog w) A (.call (.ref fI) ⟨[.ref (h.objs.size + 1)], [(kn, v)]⟩) (fun r s' => match r with | .ok (.ret u) => u = .none ∧ Q (.done (.ret (.ref (h.objs.size + 1)))) s' | .ok _ => False | .error x => E x s') ⟨(h.push (W.kdv_tup [])).push (excO C h.objs.size), g, d, t, os⟩) :
    wpAny (model prog w) A (Builtin.«type.__call__» ⟨[.ref C], [(kn, v)]⟩) Q E ⟨h, g, d, t, os⟩ := by
  repeat (first
    | with_reducible refine wpAny_loadPart_at hC ?_
    | with_reducible refine wpAny_madeBy_exc hC ?_
    | wp_step)
  refine codeAny_call_builtin_code (Code.quiet_builtin _ F.quiet) (words_new hT F hC (words_made hT F hC ?_))
  show wpAny _ _ _ _ _ _
  have up : ∀ b o, h.get? b = some o → ((h.push (W.kdv_tup [])).push (excO C h.objs.size)).get? b = some o := fun b o e => Heap.get?_push_of_some _ (Heap.get?_push_of_some _ e)
  have atE : ((h.push (W.kdv_tup [])).push (excO C h.objs.size)).get? (h.objs.size + 1) = some (excO C h.objs.size) := by heap_get
  have own : (Value.ref C :: bm).contains (.ref C) = true := by simp
  have hC' := up _ _ hC
  unfold isInstance
  repeat (first
    | with_reducible refine wpAny_loadPart_at atE ?_
    | (with_reducible refine wpAny_isSubtype_exc hC' ?_
       rw [own])
    | wp_step)
  change wpAny _ _ (typeLookup (.ref C) _) _ _ _
  refine (hi.keeps up).at (wpAny_holding (wpAny_bind (((hb (.ref (h.objs.size + 1))).keeps up).at ?_)))
  refine wpAny_bind (wpAny_call (codeAny_mono go fun r s' z => ?_))
  match r, z with
  | .error _, z => exact z
  | .ok (.ret _), ⟨rfl, z⟩ => first | exact wpAny_pure (wpAny_pure z) | (wp_walk; exact z)
  | .ok .next, z => exact z.elim
  | .ok .brk, z => exact z.elim
  | .ok .cont, z => exact z.elim
theorem words_call (hT : ∀ X : String, bm.contains (.type X) = bmB.contains (.type X)) (F : ExcBaseFacts "ValueError" "ValueError.__new__" "ValueError.__init__" bmB) {fI : Addr}
    (hC : h.get? C = some (excClassObj nm q C N bs bm hdct sn sub ab col dd k0 k1 k2 k3 k5 "ValueError.__new__")) (hi : W.Looks (model prog w) h (typeLookup (.ref C) "__init__") (some (.ref fI))) (hb : ∀ self, W.Looks (model prog w) h (bindSpecial (.ref fI) self) (.ref fI, [self]))
    (go : codeAny (model prog w) (A.under (.builtin "type.__call__" ⟨[.ref C], [(kn, v)]⟩)) (.call (.ref fI) ⟨[.ref (h.objs.size + 1)], [(kn, v)]⟩) (W.InitBack (h.objs.size + 1) R) ⟨(h.push (W.kdv_tup [])).push (excO C h.objs.size), g, d, t, os⟩) :
    codeAny (model prog w) A (.call (.ref C) ⟨[.ref C].tail, [(kn, v)]⟩) R ⟨h, g, d, t, os⟩ := by
  have l1 := tc_lookup
  have l2 := tc_bind (.ref C)
  have ty : (⟨h, g, d, t, os⟩ : Shared).TypeIs (.ref C) "type" := ⟨_, hC, rfl⟩
  refine codeAny_of_tree ?_
  change wpAny _ _ (callAny (.ref C) _) _ _ _
  repeat (any_goals (first
    | assumption
    | with_reducible refine wpAny_loadPart_at hC ?_
    | wp_step))
  refine ⟨rfl, codeAny_call_builtin_at (Code.quiet_builtin _ (by decide +kernel)) entry_typeCall (wpAny_check_type_call_sub hC (words_type hT F hC hi hb (codeAny_mono go fun r s' z => ?_)))⟩
  match r, z with
  | .error _, z => exact z
  | .ok (.ret _), z => exact z
  | .ok .next, z => exact z
  | .ok .brk, z => exact z
  | .ok .cont, z => exact z
end
end SIX

set_option Elab.async false
set_option linter.all false
set_option maxRecDepth 100000
set_option maxHeartbeats 2000000
/-! `raise C(k = e)` where C is an own exception over ValueError whose own __init__ keeps sp -/
namespace SIX
open PySem PySem.Spec PyProof.Rows L2
/-- C(k = e): what of the exception is known behind it: its class, its dict -/
def tMkW (C : Addr) (sp : Sp) (gV : List V → List V → List V) (tk : TA) : L2.St → Hp → XK → Prop := tMkO C (fun vs H Q E => vs.length = 2 ∧ sp (gV (vs.take 1) (vs.drop 1)) H Q E) [] tk
theorem pmk_words {X : Cx} {CX : CXT} {x kn : Str} {C fI : Addr} {k : Nat} {fd : FuncData} {ps : List Str} {sp : Sp} {g : List Value → List Value → List Value} {gV : List V → List V → List V} {kws : List Keyword} {tk : TA} {p pos : Pos} (T : OexC X.K C) (iC : PySem.W.findIn X.K (.ref C) "__init__" = some (some (.ref fI))) (tI : PySem.W.typeIn X.K (.ref fI) = some (.type "function"))
    (F1 : FnOk X.prog X.w X.K X.mg X.base CX k fI fd ps sp) (hr : Room (k + 1) X.A) (hb : KBn X.K fd ps 1 [kn] g gV) (hx : Passes CX X (fun _ _ _ => False)) (hg : Gl X x) (hm : X.mg x = some (.ref C)) (hkw : PK X kws tk)
    (hall : (backToKw pos (keywordEach kws X.env)).all (·.1.isSome) = true := by rfl) (hks : (backToKw pos (keywordEach kws X.env)).filterMap (·.1) = [kn] := by rfl) (hdb : (x == ("__debug__" : Str)) = false := by decide)
    (hpl : ((backTo pos (starEach [] X.env)).any (·.1) ||
      (backToKw pos (keywordEach kws X.env)).any (·.1.isNone)) = false := by rfl) :
    PMk X (.Call (.Name x p) [] kws pos) (tMkW C sp gV tk) := by
  intro pins s σ H Q I q
  obtain ⟨nm, qn, N, bs, bm, sn, sub, ab, col, dd, c0, c1, c2, c3, c5, hC, hbm⟩ := T.cls
  refine wpAny_Call_Name_kw (ld_glob I hg hm (PySem.W.callWith_KW0 (h₀ := X.base) I.ok.mod.kin T.kC hall ?_ hpl) hdb)
  refine thn (hkw.run pos pins s σ H _ I q) fun ws s2 z => ?_
  obtain ⟨zs, H2, I2, rz, _, q1⟩ := z
  have l1 : zs.length = 1 := by
    obtain ⟨l, _⟩ := q1 _ (I2.hok.fresh (Nat.le_refl _))
    rw [List.append_nil, List.length_cons] at l
    omega
  have q2 : ∀ a, H2 a = none → sp (gV [.ref a] zs) _ _ _ := fun a n => by have := (q1 a n).2; rw [List.append_nil] at this; exact this
  refine ⟨I2.kIn, ?_⟩
  rw [hks]
  obtain ⟨w1, rfl⟩ : ∃ w1, ws = [w1] := List.length_eq_one_iff.mp (rz.length.symm.trans l1)
  obtain ⟨hp, gs, dr, tk, os⟩ := s2
  have new : H2 (hp.objs.size + 1) = none := I2.hok.fresh (Nat.le_succ hp.objs.size)
  have q3 := q2 (hp.objs.size + 1) new
  have up : ∀ b o, hp.get? b = some o → ((hp.push (PySem.W.kdv_tup [])).push (PySem.HandSPX.excO C hp.objs.size)).get? b = some o := fun b o y => Heap.get?_push_of_some _ (Heap.get?_push_of_some _ y)
  have atE : ((hp.push (PySem.W.kdv_tup [])).push (PySem.HandSPX.excO C hp.objs.size)).get? (hp.objs.size + 1) = some (PySem.HandSPX.excO C hp.objs.size) := by heap_get
  have I3 := I2.laid (t' := tk) (a := hp.objs.size + 1) (o := exo (hp.objs.size + 1) C none) up (Nat.le_succ hp.objs.size) (exo_ok atE)
  have r1 : Vals [V.ref (hp.objs.size + 1)] [Value.ref (hp.objs.size + 1)] := .cons rfl .nil
  have bt := hb.to ⟨(hp.push (PySem.W.kdv_tup [])).push (PySem.HandSPX.excO C hp.objs.size), gs, dr, tk, os⟩ [Value.ref (hp.objs.size + 1)] [w1] I3.kIn rfl rfl
  have kin := I2.kIn
  change wpAny _ _ (call (.ref C) [] [(kn, w1)]) _ _ _
  refine wpAny_call (words_call (fun Y => PySem.HandSPX.refsVE_contains Y bm hbm) PySem.F.excBase_ValueError (kin _ _ hC) (PySem.W.looks_findIn kin iC) (fun self => PySem.W.bind_fn kin self tI)
    (codeAny_mono (F1.run _ X.stack _ _ ⟨[Value.ref (hp.objs.size + 1)], [(kn, w1)]⟩ _ _ _ (fun _ _ _ => False) (hr.make C [] [(kn, w1)]) (I3.env0.make C [] [(kn, w1)]) bt (hb.rel r1 rz) q3) fun r s' z => ?_))
  match r, z with
  | .error er, z => exact hx pins σ _ _ er s' I3 z
  | .ok (.ret u), ⟨v, H4, os2, bare2, un2, hok2, rv, ev, d, fs, ea, ed, hd1, q4⟩ =>
    subst ev
    obtain ⟨hq, gq, dq, tq, oq⟩ := s'
    exact ⟨rv, mk_end (raises_own T.exC T.tyC) I2 (Nat.le_succ hp.objs.size) up un2 hok2 os2 bare2 ea ed hd1 q4⟩
  | .ok .next, z => exact False.elim z
  | .ok .brk, z => exact False.elim z
  | .ok .cont, z => exact False.elim z
end SIX

set_option linter.all false
set_option maxHeartbeats 2000000
namespace GS
open PySem L2 HX NdefX SIX
def spBt (K : PySem.W.Frag) (C : Addr) : Sp := fun vs H Q _ => ∃ (a : Addr) (n : Nat), vs = [.ref a, .int n] ∧ n < 10 ^ 12 ∧ H a = some (exo a C none) ∧ PySem.W.findIn K (.ref C) "place" = some none ∧ ∀ dx, H dx = none → dx ≠ a → Q .non (upd (upd H dx (exd dx [("place", .int n)])) a (exo a C (some dx)))
theorem txt_le {n : Nat} (h : n < 10 ^ 12) : (Str.ofString (toString (n : Int))).length ≤ 13 := by
  have := int_text_length_le10 (a := (n : Int)) (k := 12) (by decide) (by simpa using h)
  rw [ofString_length]
  exact this
section
variable {P : Program} {w : World} {K : PySem.W.Frag} {mg : Str → Option Value} {base : Heap} {C cc cda : Addr}
def nfBt (cc cda : Addr) : NF := ⟨"__init__", "BadText.__init__", defArgs s_BadText___init__, defBody s_BadText___init__, defScope s_BadText___init__, [("__class__", cc)], cda⟩
theorem scBt : NScope ["self", "place", "__class__"] ["self", "place"] ["__class__"] (defScope s_BadText___init__) := nscope_by (by decide +kernel)
theorem ok_bt {f : Addr} {dV kV doc pm ct oc : Value} {an od : Option Addr} {osl : Array (Option Value)} (lk : K.lookup f = some ⟨oc, od, .func (PySem.W.fnX "__init__" "BadText.__init__" (defArgs s_BadText___init__) (defBody s_BadText___init__) (defScope s_BadText___init__) [("__class__", cc)] dV kV doc pm an (.ref cda) ct), osl⟩) (hcd : PySem.W.codeIn K (.ref cda) "BadText.__init__" = true)
    (T : SupT P K C cc cda) (hm : mg "super" = none) (htop : (P.main.scope.names.lookup ("super" : Str)).isSome = false) :
    FnOk P w K mg base CX0 1 f (PySem.W.fnX "__init__" "BadText.__init__" (defArgs s_BadText___init__) (defBody s_BadText___init__) (defScope s_BadText___init__) [("__class__", cc)] dV kV doc pm an (.ref cda) ct) ["self", "place"] (spBt K C) := by
  refine ok_sup (F := nfBt cc cda) (k := 0) (N := ["self", "place", "__class__"]) lk hcd rfl T hm scBt (show List.lookup _ (defScope s_BadText___init__).names = _ by decide +kernel) htop (by rfl) (by rfl) (by rfl) (fun env => by rfl) (fun env => by rfl) (fun env => by rfl) (fun vs H Q E h => ?_) (fun A outer s H vs Q E hr h => ?_)
  · obtain ⟨a, n, rfl, _⟩ := h
    rfl
  · obtain ⟨a, n, rfl, hn, ea, hno, kk⟩ := h
    refine ⟨a, _, rfl, ea, _, _, pa_cons (pe_joined (.cons pe_str (.cons (pe_fmt (pe_var (i := 1) rfl (.inl rfl))) (.cons pe_str .nil)))) pa_nil, pss_one (ps_ost (pe_var (i := 0) rfl (.inl rfl)) (pe_var (i := 1) rfl (.inl rfl))), ?_⟩
    have ln := txt_le hn
    have lg : ((n : Int).natAbs.log2) < 1920 := by
      rw [Int.natAbs_natCast]
      by_cases n0 : n = 0
      · rw [n0]; decide
      · exact (Nat.log2_lt n0).mpr (Nat.lt_of_lt_of_le hn (by decide +kernel))
    have big : (100 : Nat) < sizeLine := by decide
    have l1 : (Str.empty ++ Str.ofString "what stands at place ").length = 21 := by decide +kernel
    have l3 : (Str.ofString " can't stand there, or more must come").length = 37 := by decide +kernel
    have l2 : (Str.empty ++ Str.ofString "what stands at place " ++ Str.ofString (toString (n : Int))).length ≤ 34 := by rw [Str.length_append, l1]; omega
    refine ⟨_, rfl, by rw [l1]; omega, _, rfl, .inr ⟨n, rfl, lg, _, rfl, by omega, _, rfl, by rw [Str.length_append, l3]; omega, by show 1 ≤ 1000; decide, ea, ?_⟩⟩
    exact ⟨_, rfl, _, rfl, a, C, rfl, T.oex, hno, .inl ⟨ea, fun dx h1 h2 => kk dx h1 h2⟩⟩
end
end GS

set_option linter.all false
set_option maxHeartbeats 2000000
namespace GS
open PySem L2 HX
def figs : Str := "0123456789"
def isNum (z : Str) : Bool := !decide (V.str z = V.str "") && !decide ((z.length : Int) > 3) && z.cps.toList.all (fun c => decide (c ∈ figs.cps.toList)) && (decide (V.str z = V.str "0") || !decide (z.cps[0]? = some 48))
def spNum : Sp := fun vs H Q _ => ∃ z : Str, vs = [.str z] ∧ z.length ≤ sizeLine ∧ ∀ H', Same H H' → Q (.bl (isNum z)) H'
section
variable {P : Program} {w : World} {K : PySem.W.Frag} {mg : Str → Option Value} {base : Heap}
theorem scNum : FnScope ["word", "figure"] ["word"] (defScope s_is_number) := ⟨rfl, rfl, rfl, by decide +kernel, rfl, by decide +kernel, by decide +kernel⟩
theorem ok_num {f : Addr} {fd : FuncData} {tk1 tk2 : Tok} (F : Fun K "is_number" "is_number" s_is_number f fd) (T : Txt mg) (hall : mg "all" = none) (hLN : mg "LONGEST_NUMBER" = some (.int 3 tk1)) (hFG : mg "FIGURES" = some (.str figs tk2)) : FnOk P w K mg base CX0 1 f fd ["word"] spNum := by
  refine F.ok scNum (fun vs H Q E h => ?_) (fun cdv A outer s H vs Q E hr h => ?_)
  · obtain ⟨z, rfl, _⟩ := h
    rfl
  · obtain ⟨z, rfl, lz, kk⟩ := h
    refine ⟨_, (pss_cons (ps_if (PW.pt (pw_or (pt_cmpR op_eq (pv 0) pe_str (nomark _)) (pw_or (pt_cmpR op_gt (pe_callB call_len_str (by rfl) T.len PySem.boot_len (pa_cons (pv 0) pa_nil)) (pe_glob rfl hLN (v := .int 3) ⟨_, rfl⟩) (nomark _)) (pw_or1 (pt_not (pt_val (pe_callB (RK.allQ (K := K) rfl) (by rfl) hall (by decide +kernel) (pa_cons (pe_lc (own := [("figure", 1)]) rfl scNum.nd (pi_str (pv 0)) (blkOk_by (N := ["word", "figure"]) (sc := defScope s_is_number) (by decide +kernel)) (fun _ _ _ _ _ => (pg_name (i := 1) scNum.nd rfl (Or.inl rfl))) (fun _ _ _ _ _ => pts_nil) (fun _ _ _ _ _ => (pe_cmpR op_in_sign (pv 1) (pe_glob rfl hFG (v := .str figs) ⟨_, rfl⟩) (by rfl)))) pa_nil)))))))) (pss_one (ps_ret pe_bl)) pss_nil)
      (pss_one (ps_ret (pe_or (pe_cmpR op_eq (pv 0) pe_str (nomark _)) (pe_one (pe_cmpR op_ne (pe_ix (RK.ixQ (K := K)) (pv 0) pe_int (fun _ _ => rfl)) pe_str (nomark _))))))), ?_⟩
    have fin : ∀ {b : Bool} {H'}, Same H H' → b = isNum z → Q (.bl b) H' := fun {b H'} s e => by rw [e]; exact kk H' s
    refine sif ⟨_, rfl, rfl, _, rfl, ?_⟩
    cases e1 : decide (V.str z = V.str "") with
    | true =>
      refine iteT ?_
      exact fin (Same.refl _) (by unfold isNum; rw [e1]; rfl)
    | false =>
      refine iteF ?_
      refine ⟨_, rfl, z, rfl, lz, z.length, 3, rfl, rfl, ?_⟩
      cases e2 : decide ((z.length : Int) > 3) with
      | true =>
        refine ⟨_, rfl, ?_⟩
        have e2' : decide ((3 : Int) < z.length) = true := e2
        rw [e2']
        refine iteT ?_
        exact fin (Same.refl _) (by unfold isNum; rw [e1, e2]; rfl)
      | false =>
        have e2' : decide ((3 : Int) < z.length) = false := e2
        refine ⟨_, rfl, ?_⟩
        rw [e2']
        refine iteF ?_
        refine ⟨_, rfl, z, rfl, fun D hD => ?_⟩
        refine lc_it walk_str (fun i H' => (∀ b o, b ≠ D → H b = some o → H' b = some o) ∧ H' D = some (.lst (((z.cps.toList.take i).map fun c => decide (c ∈ figs.cps.toList)).map V.bl)))
          ⟨fun b o n e => by rw [upd_ne n]; exact e, upd_same⟩ (fun i H' _ q => trivial) ?_ ?_
        · rintro i y H0 H' hi ⟨kp, hd⟩ ⟨rfl, c, ec, rfl⟩
          have eL : z.cps.toList[i]? = some c := by rw [Array.getElem?_toList]; exact ec
          have tk : z.cps.toList.take (i + 1) = z.cps.toList.take i ++ [c] := by rw [List.take_add_one, eL] <;> rfl
          have li : i < z.cps.size := hi
          have lz' : z.cps.size ≤ sizeLine := lz
          refine ⟨rfl, _, rfl, c, figs, rfl, rfl, _, hd, by rw [List.length_map, List.length_map, List.length_take]; omega, fun b o n e => by rw [upd_ne n]; exact kp b o n e, ?_⟩
          rw [upd_same, tk, List.map_append, List.map_append]; rfl
        rintro H1 ⟨kp, hd⟩
        have s1 : Same H H1 := fun b o e => kp b o (ne_of_none e hD) e
        have tl : z.cps.toList.take z.cps.size = z.cps.toList := List.take_of_length_le (by rw [Array.length_toList]; exact Nat.le_refl _)
        rw [tl] at hd
        have al : ((z.cps.toList.map fun c => decide (c ∈ figs.cps.toList)).all id) = z.cps.toList.all fun c => decide (c ∈ figs.cps.toList) := by rw [List.all_map]; rfl
        refine ⟨D, _, rfl, SqL.of hd, _, rfl, ?_⟩
        rw [al]
        cases e3 : z.cps.toList.all fun c => decide (c ∈ figs.cps.toList) with
        | false =>
          refine iteT ?_
          exact fin s1 (by unfold isNum; rw [e1, e2, e3]; rfl)
        | true =>
          refine iteF ?_
          dsimp only [tNext]
          have is : isNum z = (decide (V.str z = V.str "0") || !decide (z.cps[0]? = some 48)) := by unfold isNum; rw [e1, e2, e3]; rfl
          refine ⟨_, rfl, rfl, _, rfl, ?_⟩
          cases e4 : decide (V.str z = V.str "0") with
          | true => exact fin s1 (by rw [is, e4]; rfl)
          | false =>
            rw [if_neg Bool.false_ne_true]
            obtain ⟨c, ec⟩ : ∃ c, z.cps[0]? = some c := by
              by_cases h0 : 0 < z.cps.size
              · exact ⟨_, Array.getElem?_eq_getElem h0⟩
              · have : z = "" := by
                  cases z with
                  | mk cs =>
                    have h0 : ¬ 0 < cs.size := h0
                    have : cs = #[] := Array.eq_empty_of_size_eq_zero (by omega)
                    rw [this]; rfl
                rw [this] at e1
                exact absurd e1 (by decide)
            have a0 : atI z.cps.toList 0 = some c := atI_nat (j := 0) (by rw [Array.getElem?_toList]; exact ec)
            refine ⟨_, rfl, .inr (.inr ⟨z, 0, c, rfl, rfl, lz, a0, rfl, ?_⟩)⟩
            refine fin s1 ?_
            rw [is, e4, ec, Bool.false_or]
            congr 1
            by_cases hc : c = 48
            · rw [hc]; decide
            · rw [decide_eq_false (show ¬ some c = some 48 from fun h => hc (Option.some.inj h)), decide_eq_false]
              intro h
              injection h with h
              have h : (⟨#[c]⟩ : Str) = ⟨#[48]⟩ := h
              injection h with h
              exact hc (by simpa using h)
end
end GS

set_option linter.all false
set_option maxHeartbeats 2000000
namespace GS
open PySem L2 HX
/-- a deed of a day -/
structure De where
  w : Str
  ns : List Nat
  t : Str
def numS (n : Nat) : Str := Str.ofString (toString (n : Int))
def De.parts (d : De) : List Str := [d.w] ++ d.ns.map numS ++ (if d.w = "ask" then [d.t] else [])
def De.row (d : De) : Str := Txt.join " " d.parts
structure De.Ok (d : De) : Prop where
  w : d.w.length ≤ 100
  n : d.ns.length ≤ 10
  lt : ∀ n ∈ d.ns, n < 10 ^ 12
  t : d.t.length ≤ 100
def DeV (K : PySem.W.Frag) (H : Hp) (d : De) (v : V) : Prop := ∃ p q, v = .ref p ∧ SqT K H p [.str d.w, .ref q, .str d.t] ∧ SqT K H q (d.ns.map fun n : Nat => V.int (n : Int))
def spDt (K : PySem.W.Frag) : Sp := fun vs H Q _ => ∃ (d : De) (v : V), vs = [v] ∧ DeV K H d v ∧ d.Ok ∧ ∀ H', Same H H' → Q (.str d.row) H'
theorem sqt_ne {K : PySem.W.Frag} {H H' : Hp} {p : Addr} {xs : List V} (k : ∀ o, H p = some o → H' p = some o) (h : SqT K H p xs) : SqT K H' p xs := h.imp (fun z => z.elim (fun z => .inl (k _ z)) fun ⟨o, z⟩ => .inr ⟨o, k _ z⟩) id
theorem sqt_at {K : PySem.W.Frag} {H H' : Hp} {p D : Addr} {xs : List V} (hD : H D = none) (k : ∀ b o, b ≠ D → H b = some o → H' b = some o) (h : SqT K H p xs) : SqT K H' p xs := sqt_ne (fun o e => k p o (ne_of_none e hD) e) h
theorem at_stD {t : TS} {D : Ends} {σ σ' : L2.St} {H : Hp} (e : σ = σ') (h : t D σ' H) : t D σ H := e ▸ h
theorem txt_log {n : Nat} (h : n < 10 ^ 12) : ((n : Int).natAbs.log2) < 1920 := by
  rw [Int.natAbs_natCast]
  by_cases n0 : n = 0
  · rw [n0]; decide
  · exact (Nat.log2_lt n0).mpr (Nat.lt_of_lt_of_le h (by decide +kernel))
theorem De.Ok.len {d : De} (h : d.Ok) : d.parts.length ≤ 12 ∧ (d.parts.map (·.length)).sum ≤ 340 := by
  have ln : ∀ ns : List Nat, (∀ n ∈ ns, n < 10 ^ 12) → ((ns.map numS).map (·.length)).sum ≤ 13 * ns.length := fun ns => by
    induction ns with
    | nil => intro _; exact Nat.le_refl 0
    | cons n ns ih =>
      intro hn
      have a := txt_le (hn n (List.mem_cons_self ..))
      have b := ih fun m hm => hn m (List.mem_cons_of_mem _ hm)
      rw [List.map_cons, List.map_cons, List.sum_cons, List.length_cons]
      have a : (numS n).length ≤ 13 := a
      omega
  have l1 := ln d.ns h.lt
  have l2 := h.n
  have l3 := h.w
  have l4 := h.t
  unfold De.parts
  constructor
  · rw [List.length_append, List.length_append, List.length_map]
    split
    · show 1 + d.ns.length + 1 ≤ 12; omega
    · show 1 + d.ns.length + 0 ≤ 12; omega
  · rw [List.map_append, List.map_append, List.sum_append, List.sum_append]
    split
    · show (d.w.length + 0) + _ + (d.t.length + 0) ≤ 340; omega
    · show (d.w.length + 0) + _ + 0 ≤ 340; omega
section
variable {P : Program} {w : World} {K : PySem.W.Frag} {mg : Str → Option Value} {base : Heap}
theorem scDt : FnScope ["deed", "word", "numbers", "text", "parts", "number"] ["deed"] (defScope s_deed_text) := ⟨rfl, rfl, rfl, by decide +kernel, rfl, by decide +kernel, by decide +kernel⟩
theorem ok_dt {f : Addr} {fd : FuncData} (F : Fun K "deed_text" "deed_text" s_deed_text f fd) (T : Txt mg) : FnOk P w K mg base CX0 1 f fd ["deed"] (spDt K) := by
  refine F.ok scDt (fun vs H Q E h => ?_) (fun cdv A outer s H vs Q E hr h => ?_)
  · obtain ⟨d, v, rfl, _⟩ := h
    rfl
  · obtain ⟨d, v, rfl, ⟨p, q, rfl, hp, hq⟩, ok, kk⟩ := h
    refine ⟨_, (pss_cons (ps_asg (pv 0) (RK.pgTup (K := K) (n := 3) rfl (pgs_cons (pg_name (i := 1) scDt.nd rfl (Or.inl rfl)) (pgs_cons (pg_name (i := 2) scDt.nd rfl (Or.inl rfl)) (pgs_cons (pg_name (i := 3) scDt.nd rfl (Or.inl rfl)) pgs_nil)))))
      (pss_cons (ps_set (i := 4) scDt.nd rfl (Or.inl rfl) (pe_op op_cat (pe_lst (pa_cons (pv 1) pa_nil)) (pe_lc (own := [("number", 5)]) rfl scDt.nd (RK.piT (K := K) (pv 2)) (blkOk_by (N := ["deed", "word", "numbers", "text", "parts", "number"]) (sc := defScope s_deed_text) (by decide +kernel)) (fun _ _ _ _ _ => (pg_name (i := 5) scDt.nd rfl (Or.inl rfl))) (fun _ _ _ _ _ => pts_nil) (fun _ _ _ _ _ => (pe_callTy call_str_int (by rfl) T.str (by decide +kernel) (pa_cons (pv 5) pa_nil))))))
      (pss_cons (ps_if (pt_cmpR op_eq (pv 1) pe_str (nomark _)) (pss_one (ps_expr (RK.bm (K := K) PySem.F.plainAttrs_list PySem.F.slot_list_append PySem.F.type_list_append mt_append (pv 4) (pa_cons (pv 3) pa_nil)))) pss_nil)
      (pss_one (ps_ret (pe_join pe_str (pv 4))))))), ?_⟩
    obtain ⟨ln, sm⟩ := ok.len
    have okn := ok.n
    refine sa1 ⟨_, rfl, p, _, rfl, hp, rfl, _, _, rfl, gn ⟨_, _, rfl, gn ⟨_, _, rfl, gn ⟨rfl, ?_⟩⟩⟩⟩
    refine at_stD (σ' := [some (.ref p), some (.str d.w), some (.ref q), some (.str d.t), none, none]) rfl ?_
    refine sa1 ⟨_, rfl, by show 1 ≤ sizeLine; decide, fun l1 hl1 => ?_⟩
    have s1 := same_new (o := .lst [.str d.w]) hl1
    have e1 : (upd H l1 (.lst [.str d.w])) l1 = some (.lst [.str d.w]) := upd_same
    generalize upd H l1 (.lst [.str d.w]) = H1 at s1 e1 ⊢
    have hq1 := sqt_ne (s1 q) hq
    refine ⟨_, rfl, q, rfl, ⟨_, hq1⟩, fun D hD => ?_⟩
    refine lc_it (walk_tup (xs := d.ns.map fun n : Nat => V.int (n : Int))) (fun i H' => (∀ b o, b ≠ D → H1 b = some o → H' b = some o) ∧ H' D = some (.lst ((d.ns.take i).map fun n => V.str (numS n))))
      ⟨fun b o n e => by rw [upd_ne n]; exact e, upd_same⟩ (fun i H' _ z => sqt_at hD z.1 hq1) ?_ ?_
    · rintro i y H0 H' hi ⟨kp, hd⟩ ⟨rfl, ey⟩
      rw [List.getElem?_map] at ey
      obtain ⟨n, en, rfl⟩ : ∃ n : Nat, d.ns[i]? = some n ∧ y = V.int (n : Int) := by
        cases e : d.ns[i]? with
        | none => rw [e] at ey; cases ey
        | some n => rw [e] at ey; exact ⟨n, rfl, (Option.some.inj ey).symm⟩
      have tk : d.ns.take (i + 1) = d.ns.take i ++ [n] := by rw [List.take_add_one, en] <;> rfl
      have hn := ok.lt n (List.mem_of_getElem? en)
      refine ⟨rfl, _, rfl, n, rfl, txt_log hn, _, hd, by rw [List.length_map, List.length_take]; exact Nat.lt_of_le_of_lt (show _ ≤ 10 by omega) (by decide), fun b o n e => by rw [upd_ne n]; exact kp b o n e, ?_⟩
      rw [upd_same, tk, List.map_append]; rfl
    rintro H2 ⟨kp, hd⟩
    rw [List.length_map, List.take_length] at hd
    have s2 : Same H1 H2 := fun b o e => kp b o (ne_of_none e hD) e
    refine ⟨l1, D, _, _, rfl, rfl, s2 _ _ e1, hd, by rw [List.length_map]; exact Nat.le_trans (show _ ≤ 11 by show 1 + d.ns.length ≤ 11; omega) (by decide), fun l2 hl2 => gn ?_⟩
    have s3 := same_new (o := .lst ([.str d.w] ++ d.ns.map fun n => V.str (numS n))) hl2
    have e3 : (upd H2 l2 (.lst ([.str d.w] ++ d.ns.map fun n => V.str (numS n)))) l2 = some (.lst (([d.w] ++ d.ns.map numS).map V.str)) := by rw [upd_same, List.map_append, List.map_map]; rfl
    generalize upd H2 l2 (.lst ([.str d.w] ++ d.ns.map fun n => V.str (numS n))) = H3 at s3 e3 ⊢
    refine at_stD (σ' := [some (.ref p), some (.str d.w), some (.ref q), some (.str d.t), some (.ref l2), none]) rfl ?_
    have s13 := s1.trans (s2.trans s3)
    have nl2 : H l2 = none := none_of_same (s1.trans s2) hl2
    refine sif ⟨_, rfl, rfl, _, rfl, ?_⟩
    cases ea : decide (V.str d.w = V.str "ask") with
    | true =>
      have dw : d.w = "ask" := by have := of_decide_eq_true ea; injection this
      refine iteT ?_
      have ep : d.parts = [d.w] ++ d.ns.map numS ++ [d.t] := by unfold De.parts; rw [if_pos dw]
      have ll : ([d.w] ++ d.ns.map numS).length ≤ 11 := by rw [List.length_append, List.length_map]; show 1 + d.ns.length ≤ 11; omega
      refine ⟨_, rfl, .inl ⟨rfl, _, SqL.of e3⟩, _, rfl, l2, _, .str d.t, rfl, rfl, e3, by rw [List.length_map]; exact Nat.lt_of_le_of_lt ll (by decide), ?_⟩
      have e4 : (upd H3 l2 (.lst (([d.w] ++ d.ns.map numS).map V.str ++ [.str d.t]))) l2 = some (.lst (d.parts.map V.str)) := by rw [upd_same, ep, List.map_append (l₂ := [d.t])]; rfl
      have s14 : Same H (upd H3 l2 (.lst (([d.w] ++ d.ns.map numS).map V.str ++ [.str d.t]))) := fun b o e => by rw [upd_ne (ne_of_none e nl2)]; exact s13 _ _ e
      generalize upd H3 l2 (.lst (([d.w] ++ d.ns.map numS).map V.str ++ [.str d.t])) = H4 at e4 s14 ⊢
      refine ⟨⟨_, rfl⟩, _, rfl, _, l2, d.parts, rfl, rfl, .inl (SqL.of e4), ?_, kk H4 s14⟩
      have : d.parts.length * Str.length " " ≤ 12 * 1 := Nat.mul_le_mul ln (by decide)
      omega
    | false =>
      have dw : d.w ≠ "ask" := fun h => by rw [h] at ea; exact absurd ea (by decide)
      have ep : d.parts = [d.w] ++ d.ns.map numS := by unfold De.parts; rw [if_neg dw, List.append_nil]
      refine iteF ?_
      dsimp only [tNext]
      refine ⟨⟨_, rfl⟩, _, rfl, _, l2, d.parts, rfl, rfl, .inl (by rw [ep]; exact SqL.of e3), ?_, kk H3 s13⟩
      have : d.parts.length * Str.length " " ≤ 12 * 1 := Nat.mul_le_mul ln (by decide)
      omega
end
theorem joinL_len (S : List Nat) : ∀ ls : List (List Nat), (TL.joinL S ls).length ≤ (ls.map List.length).sum + ls.length * S.length
  | [] => Nat.zero_le _
  | [l] => by show l.length ≤ l.length + 0 + _; omega
  | l :: m :: ls => by
    have ih := joinL_len S (m :: ls)
    show (l ++ (S ++ TL.joinL S (m :: ls))).length ≤ _
    rw [List.length_append, List.length_append, List.map_cons, List.sum_cons, List.length_cons (a := l), Nat.add_mul]
    omega
theorem De.Ok.row {d : De} (h : d.Ok) : d.row.length ≤ 352 := by
  obtain ⟨a, b⟩ := h.len
  have := joinL_len (TL.tl " ") (d.parts.map TL.tl)
  unfold De.row
  rw [TL.join_eq, TL.len_tl, TL.tl_join]
  have e : (d.parts.map TL.tl).map List.length = d.parts.map (·.length) := by rw [List.map_map]; exact List.map_congr_left fun x _ => (TL.len_tl x).symm
  rw [e, List.length_map] at this
  have s1 : (TL.tl " ").length = 1 := by decide
  rw [s1] at this
  omega
def spDy (K : PySem.W.Frag) : Sp := fun vs H Q _ => ∃ (l : Addr) (ds : List De) (us : List V), vs = [.ref l] ∧ SqL K H l us ∧ Paired (DeV K H) ds us ∧ (∀ d ∈ ds, d.Ok) ∧ ds.length ≤ 100 ∧ ∀ H', Same H H' → Q (.str (Txt.join "\n" (ds.map De.row))) H'
section
variable {P : Program} {w : World} {K : PySem.W.Frag} {mg : Str → Option Value} {base : Heap}
theorem DeV.same {H H' : Hp} {d : De} {v : V} (s : Same H H') : DeV K H d v → DeV K H' d v := fun ⟨p, q, e, a, b⟩ => ⟨p, q, e, sqt_ne (s p) a, sqt_ne (s q) b⟩
theorem scDy : FnScope ["deeds", "deed"] ["deeds"] (defScope s_day_text) := ⟨rfl, rfl, rfl, by decide +kernel, rfl, by decide +kernel, by decide +kernel⟩
theorem ok_dy {f fd0 : Addr} {fd fdd : FuncData} (F : Fun K "day_text" "day_text" s_day_text f fd) (Cd : Cal P w K mg base 1 "deed_text" ["deed"] (spDt K) fd0 fdd) : FnOk P w K mg base CX0 2 f fd ["deeds"] (spDy K) := by
  refine F.ok scDy (fun vs H Q E h => ?_) (fun cdv A outer s H vs Q E hr h => ?_)
  · obtain ⟨l, ds, us, rfl, _⟩ := h
    rfl
  · obtain ⟨l, ds, us, rfl, hl, hp, ok, few, kk⟩ := h
    have hr1 : Room 1 _ := hr
    refine ⟨_, (pss_one (ps_ret (pe_join pe_str (pe_lc (own := [("deed", 1)]) rfl scDy.nd (RK.piL (K := K) (pv 0)) (blkOk_by (N := ["deeds", "deed"]) (sc := defScope s_day_text) (by decide +kernel)) (fun _ _ _ _ _ => (pg_name (i := 1) scDy.nd rfl (Or.inl rfl))) (fun _ _ _ _ _ => pts_nil) (fun _ _ _ _ _ => (pe_call Cd.G hr1 (by rfl) Cd.g Cd.kp Cd.b .nil pass0 (pa_cons (pv 1) pa_nil))))))), ?_⟩
    refine ⟨⟨_, rfl⟩, _, rfl, l, rfl, ⟨_, hl⟩, fun D hD => ?_⟩
    refine lc_it (walk_list (xs := us)) (fun i H' => (∀ b o, b ≠ D → H b = some o → H' b = some o) ∧ H' D = some (.lst ((ds.take i).map fun d => V.str d.row)))
      ⟨fun b o n e => by rw [upd_ne n]; exact e, upd_same⟩ (fun i H' _ z => (show Same H H' from fun b o e => z.1 b o (ne_of_none e hD) e).seq hl) ?_ ?_
    · rintro i y H0 H' hi ⟨kp, hd⟩ ⟨rfl, ey⟩
      obtain ⟨d, ed, hv⟩ := pw_get hp ey
      have tk : ds.take (i + 1) = ds.take i ++ [d] := by rw [List.take_add_one, ed] <;> rfl
      have s1 : Same H H' := fun b o e => kp b o (ne_of_none e hD) e
      refine ⟨rfl, _, rfl, d, y, rfl, hv.same s1, ok d (List.mem_of_getElem? ed), fun H2 s2 => ⟨_, s2 _ _ hd, by rw [List.length_map, List.length_take]; exact Nat.lt_of_le_of_lt (show _ ≤ 100 by omega) (by decide), fun b o n e => by rw [upd_ne n]; exact s2 _ _ (kp b o n e), ?_⟩⟩
      rw [upd_same, tk, List.map_append]; rfl
    rintro H1 ⟨kp, hd⟩
    rw [← pw_len hp, List.take_length] at hd
    have s1 : Same H H1 := fun b o e => kp b o (ne_of_none e hD) e
    refine ⟨_, D, ds.map De.row, rfl, rfl, .inl (SqL.of (by rw [hd, List.map_map]; rfl)), ?_, kk H1 s1⟩
    have sm : ∀ ds : List De, (∀ d ∈ ds, d.Ok) → ((ds.map De.row).map (·.length)).sum ≤ 352 * ds.length := fun ds => by
      induction ds with
      | nil => intro _; exact Nat.le_refl 0
      | cons d ds ih =>
        intro h
        have a := (h d (List.mem_cons_self ..)).row
        have b := ih fun x m => h x (List.mem_cons_of_mem _ m)
        rw [List.map_cons, List.map_cons, List.sum_cons, List.length_cons]
        omega
    have a := sm ds ok
    have b : (ds.map De.row).length * Str.length "\n" ≤ 100 * 1 := Nat.mul_le_mul (by rw [List.length_map]; exact few) (by decide)
    omega
end
end GS

set_option linter.all false
set_option maxHeartbeats 2000000
namespace GS
open PySem L2 HX
theorem filter_one (p : Nat → Bool) (c : Nat) : [c].filter p = if p c = true then [c] else [] := by cases h : p c <;> simp [h]
theorem v_int {a b : Int} : decide (V.int a = V.int b) = decide (a = b) := by
  by_cases h : a = b
  · rw [h, decide_eq_true rfl, decide_eq_true rfl]
  · rw [decide_eq_false h, decide_eq_false]
    intro e
    injection e with e
    exact h e
theorem one_is {c : Nat} : (!decide (V.str ⟨#[c]⟩ = V.str "0")) = !decide (some c = some 48) := by
  congr 1
  by_cases hc : c = 48
  · rw [hc]; decide
  · rw [decide_eq_false (show ¬ some c = some 48 from fun h => hc (Option.some.inj h)), decide_eq_false]
    intro h
    injection h with h
    have h : (⟨#[c]⟩ : Str) = ⟨#[48]⟩ := h
    injection h with h
    exact hc (by simpa using h)
theorem lo_c (c : Nat) : (!decide ((⟨#[c]⟩ : Str).cps.toList < (Str.ofString "0").cps.toList)) = decide (48 ≤ c) := by
  have e : (Str.ofString "0").cps.toList = [48] := by decide +kernel
  rw [e]
  show (!decide ([c] < [48])) = _
  by_cases h : 48 ≤ c
  · rw [decide_eq_true h, decide_eq_false]; · rfl
    intro z
    simp [List.cons_lt_cons_iff] at z
    omega
  · rw [decide_eq_false h, decide_eq_true]; · rfl
    simp [List.cons_lt_cons_iff]
    omega
theorem hi_c (c : Nat) : (!decide ((Str.ofString "9").cps.toList < (⟨#[c]⟩ : Str).cps.toList)) = decide (c ≤ 57) := by
  have e : (Str.ofString "9").cps.toList = [57] := by decide +kernel
  rw [e]
  show (!decide ([57] < [c])) = _
  by_cases h : c ≤ 57
  · rw [decide_eq_true h, decide_eq_false]; · rfl
    intro z
    simp [List.cons_lt_cons_iff] at z
    omega
  · rw [decide_eq_false h, decide_eq_true]; · rfl
    simp [List.cons_lt_cons_iff]
    omega
theorem fig_c (c : Nat) : decide (c ∈ figs.cps.toList) = (decide (48 ≤ c) && decide (c ≤ 57)) := by
  have e : figs.cps.toList = [48, 49, 50, 51, 52, 53, 54, 55, 56, 57] := by decide +kernel
  rw [e]
  by_cases h1 : 48 ≤ c
  · by_cases h2 : c ≤ 57
    · rw [decide_eq_true h1, decide_eq_true h2, decide_eq_true]; · rfl
      have : c = 48 ∨ c = 49 ∨ c = 50 ∨ c = 51 ∨ c = 52 ∨ c = 53 ∨ c = 54 ∨ c = 55 ∨ c = 56 ∨ c = 57 := by omega
      simpa using this
    · rw [decide_eq_true h1, decide_eq_false h2, decide_eq_false]; · rfl
      simp; omega
  · rw [decide_eq_false h1, decide_eq_false]; · rfl
    simp; omega
section
variable {P : Program} {w : World} {K : PySem.W.Frag} {mg : Str → Option Value} {base : Heap}
theorem scLn : FnScope ["_law_word", "_law_good", "_law_sign"] ["_law_word"] (defScope s_l_is_number) := ⟨rfl, rfl, rfl, by decide +kernel, rfl, by decide +kernel, by decide +kernel⟩
theorem ok_ln {f : Addr} {fd : FuncData} (F : Fun K "_law_is_number" "_law_is_number" s_l_is_number f fd) (T : Txt mg) : FnOk P w K mg base CX0 1 f fd ["_law_word"] spNum := by
  refine F.ok scLn (fun vs H Q E h => ?_) (fun cdv A outer s H vs Q E hr h => ?_)
  · obtain ⟨z, rfl, _⟩ := h
    rfl
  · obtain ⟨z, rfl, lz, kk⟩ := h
    refine ⟨_, (pss_cons (ps_setLc (i := 1) (own := [("_law_sign", 2)]) rfl scLn.nd rfl rfl (sw_true rfl rfl rfl (by decide +kernel)) (pi_str (pv 0)) (blkOk_by (N := ["_law_word", "_law_good", "_law_sign"]) (sc := defScope s_l_is_number) (by decide +kernel)) (fun _ _ _ _ _ => (pg_name (i := 2) scLn.nd rfl (Or.inl rfl))) (fun _ _ _ _ _ => (pts_one (pt_chain op_le_str op_le_str pe_str (pv 2) pe_str))) (fun _ _ _ _ _ => (pv 2)))
      (pss_one (ps_ret (pe_and (pe_chain op_le op_le pe_int (pe_callB call_len_str (by rfl) T.len PySem.boot_len (pa_cons (pv 0) pa_nil)) pe_int) (pe_and (pe_cmpR op_eq (pe_callB call_len_seq (by rfl) T.len PySem.boot_len (pa_cons (pv 1) pa_nil)) (pe_callB call_len_str (by rfl) T.len PySem.boot_len (pa_cons (pv 0) pa_nil)) (nomark _)) (pe_one (pe_or (pe_cmpR op_eq (pv 0) pe_str (nomark _)) (pe_one (pe_cmpR op_ne (pe_ix (RK.ixQ (K := K)) (pv 0) pe_int (fun _ _ => rfl)) pe_str (nomark _)))))))))), ?_⟩
    refine sa1 ⟨_, rfl, z, rfl, fun D hD => ?_⟩
    refine lc_it walk_str (fun i H' => (∀ b o, b ≠ D → H b = some o → H' b = some o) ∧ H' D = some (.lst (((z.cps.toList.take i).filter fun c => decide (c ∈ figs.cps.toList)).map fun c => V.str ⟨#[c]⟩)))
      ⟨fun b o n e => by rw [upd_ne n]; exact e, upd_same⟩ (fun i H' _ q => trivial) ?_ ?_
    · rintro i y H0 H' hi ⟨kp, hd⟩ ⟨rfl, c, ec, rfl⟩
      have eL : z.cps.toList[i]? = some c := by rw [Array.getElem?_toList]; exact ec
      have tk : z.cps.toList.take (i + 1) = z.cps.toList.take i ++ [c] := by rw [List.take_add_one, eL] <;> rfl
      refine ⟨rfl, ?_⟩
      have lz' : z.cps.size ≤ sizeLine := lz
      have li : i < z.cps.size := hi
      have few : ((z.cps.toList.take i).filter fun c => decide (c ∈ figs.cps.toList)).length ≤ i := Nat.le_trans (List.length_filter_le _ _) (by rw [List.length_take]; omega)
      have nx : ((z.cps.toList.take (i + 1)).filter fun c => decide (c ∈ figs.cps.toList)) = ((z.cps.toList.take i).filter fun c => decide (c ∈ figs.cps.toList)) ++ if decide (c ∈ figs.cps.toList) = true then [c] else [] := by
        rw [tk, List.filter_append, filter_one]
      have fc := fig_c c
      refine ⟨_, rfl, _, _, rfl, rfl, _, rfl, ?_⟩
      rw [lo_c]
      cases e1 : decide (48 ≤ c) with
      | false =>
        rw [e1] at fc
        have fc : decide (c ∈ figs.cps.toList) = false := fc
        rw [fc, if_neg Bool.false_ne_true, List.append_nil] at nx
        rw [if_neg Bool.false_ne_true]
        refine ⟨_, rfl, ?_⟩
        dsimp only
        rw [if_neg Bool.false_ne_true, nx]
        exact ⟨kp, hd⟩
      | true =>
        rw [if_pos rfl]
        refine ⟨_, _, rfl, rfl, _, rfl, ?_⟩
        rw [hi_c]
        cases e2 : decide (c ≤ 57) with
        | false =>
          rw [e1, e2] at fc
          have fc : decide (c ∈ figs.cps.toList) = false := fc
          rw [fc, if_neg Bool.false_ne_true, List.append_nil] at nx
          rw [if_neg Bool.false_ne_true, nx]
          exact ⟨kp, hd⟩
        | true =>
          rw [e1, e2] at fc
          have fc : decide (c ∈ figs.cps.toList) = true := fc
          rw [fc, if_pos rfl] at nx
          rw [if_pos rfl]
          refine ⟨_, rfl, _, hd, by rw [List.length_map]; omega, fun b o n e => by rw [upd_ne n]; exact kp b o n e, ?_⟩
          rw [upd_same, nx, List.map_append]; rfl
    rintro H1 ⟨kp, hd⟩
    have s1 : Same H H1 := fun b o e => kp b o (ne_of_none e hD) e
    have tl : z.cps.toList.take z.cps.size = z.cps.toList := List.take_of_length_le (by rw [Array.length_toList]; exact Nat.le_refl _)
    rw [tl] at hd
    have eall : (z.cps.toList.all fun c => decide (c ∈ figs.cps.toList)) = decide ((((z.cps.toList.filter fun c => decide (c ∈ figs.cps.toList)).map fun c => V.str ⟨#[c]⟩).length : Int) = (z.length : Int)) := by
      rw [List.length_map]
      have zl : z.length = z.cps.toList.length := by rw [Array.length_toList]; rfl
      rw [zl]
      by_cases h : (z.cps.toList.filter fun c => decide (c ∈ figs.cps.toList)).length = z.cps.toList.length
      · rw [decide_eq_true (by omega)]
        exact List.all_eq_true.mpr (List.length_filter_eq_length_iff.mp h)
      · rw [decide_eq_false (by omega)]
        cases e : z.cps.toList.all fun c => decide (c ∈ figs.cps.toList) with
        | false => rfl
        | true => exact absurd (List.length_filter_eq_length_iff.mpr (List.all_eq_true.mp e)) h
    have ene : (!decide (V.str z = V.str "")) = decide ((1 : Int) ≤ z.length) := by
      by_cases h : z.cps.size = 0
      · have : z = "" := by
          cases z with
          | mk cs => rw [show cs = #[] from Array.eq_empty_of_size_eq_zero h]; rfl
        rw [this]; decide
      · rw [decide_eq_true (show (1 : Int) ≤ z.length by show (1 : Int) ≤ (z.cps.size : Int); omega), decide_eq_false]; · rfl
        intro e
        injection e with e
        rw [e] at h
        exact h rfl
    have egt : (!decide ((z.length : Int) > 3)) = decide ((z.length : Int) ≤ 3) := by
      by_cases h : (z.length : Int) ≤ 3
      · rw [decide_eq_true h, decide_eq_false (by omega)]; rfl
      · rw [decide_eq_false h, decide_eq_true (by omega)]; rfl
    have is : isNum z = (decide ((1 : Int) ≤ z.length) && decide ((z.length : Int) ≤ 3) && decide ((((z.cps.toList.filter fun c => decide (c ∈ figs.cps.toList)).map fun c => V.str ⟨#[c]⟩).length : Int) = (z.length : Int)) && (decide (V.str z = V.str "0") || !decide (z.cps[0]? = some 48))) := by
      unfold isNum
      rw [ene, egt, eall]
    have fin : ∀ {b : Bool}, b = isNum z → Q (.bl b) H1 := fun {b} e => by rw [e]; exact kk H1 s1
    refine gn ?_
    refine ⟨_, rfl, z, rfl, lz, 1, z.length, rfl, rfl, _, rfl, ?_⟩
    cases c1 : decide ((1 : Int) ≤ z.length) with
    | false =>
      rw [if_neg Bool.false_ne_true]
      refine ⟨_, rfl, ?_⟩
      rw [if_neg Bool.false_ne_true]
      exact fin (by rw [is, c1]; rfl)
    | true =>
      rw [if_pos rfl]
      refine ⟨z.length, 3, rfl, rfl, _, rfl, ?_⟩
      cases c2 : decide ((z.length : Int) ≤ 3) with
      | false =>
        rw [if_neg Bool.false_ne_true]
        exact fin (by rw [is, c1, c2]; rfl)
      | true =>
        rw [if_pos rfl]
        refine ⟨_, rfl, D, _, rfl, .inl (SqL.of hd), _, rfl, z, rfl, lz, rfl, ?_⟩
        refine ⟨_, rfl, ?_⟩
        rw [v_int]
        cases c3 : decide ((((z.cps.toList.filter fun c => decide (c ∈ figs.cps.toList)).map fun c => V.str ⟨#[c]⟩).length : Int) = (z.length : Int)) with
        | false =>
          rw [if_neg Bool.false_ne_true]
          exact fin (by rw [is, c1, c2, c3]; rfl)
        | true =>
          rw [if_pos rfl]
          have is : isNum z = (decide (V.str z = V.str "0") || !decide (z.cps[0]? = some 48)) := by rw [is, c1, c2, c3]; rfl
          refine ⟨_, rfl, rfl, _, rfl, ?_⟩
          cases c4 : decide (V.str z = V.str "0") with
          | true => exact fin (by rw [is, c4]; rfl)
          | false =>
            rw [if_neg Bool.false_ne_true]
            have pos : (1 : Int) ≤ z.length := of_decide_eq_true c1
            obtain ⟨c, ec⟩ : ∃ c, z.cps[0]? = some c := ⟨_, Array.getElem?_eq_getElem (show 0 < z.cps.size by have : (1 : Int) ≤ (z.cps.size : Int) := pos; omega)⟩
            have a0 : atI z.cps.toList 0 = some c := atI_nat (j := 0) (by rw [Array.getElem?_toList]; exact ec)
            refine ⟨_, rfl, .inr (.inr ⟨z, 0, c, rfl, rfl, lz, a0, rfl, ?_⟩)⟩
            refine fin ?_
            rw [is, c4, ec, Bool.false_or, one_is]
end
end GS

set_option linter.all false
set_option maxHeartbeats 2000000
namespace GS
open PySem L2 HX
section
variable {P : Program} {w : World} {K : PySem.W.Frag} {mg : Str → Option Value} {base : Heap}
theorem scRw : FnScope ["_law_deed", "_law_word", "_law_numbers", "_law_text", "_law_number"] ["_law_deed"] (defScope s_l_row) := ⟨rfl, rfl, rfl, by decide +kernel, rfl, by decide +kernel, by decide +kernel⟩
theorem ok_rw {f : Addr} {fd : FuncData} (F : Fun K "_law_row" "_law_row" s_l_row f fd) (T : Txt mg) : FnOk P w K mg base CX0 1 f fd ["_law_deed"] (spDt K) := by
  refine F.ok scRw (fun vs H Q E h => ?_) (fun cdv A outer s H vs Q E hr h => ?_)
  · obtain ⟨d, v, rfl, _⟩ := h
    rfl
  · obtain ⟨d, v, rfl, ⟨p, q, rfl, hp, hq⟩, ok, kk⟩ := h
    refine ⟨_, (pss_cons (ps_asg (pv 0) (RK.pgTup (K := K) (n := 3) rfl (pgs_cons (pg_name (i := 1) scRw.nd rfl (Or.inl rfl)) (pgs_cons (pg_name (i := 2) scRw.nd rfl (Or.inl rfl)) (pgs_cons (pg_name (i := 3) scRw.nd rfl (Or.inl rfl)) pgs_nil)))))
      (pss_one (ps_ret (pe_join pe_str (pe_op op_cat (pe_op op_cat (pe_lst (pa_cons (pv 1) pa_nil)) (pe_lc (own := [("_law_number", 4)]) rfl scRw.nd (RK.piT (K := K) (pv 2)) (blkOk_by (N := ["_law_deed", "_law_word", "_law_numbers", "_law_text", "_law_number"]) (sc := defScope s_l_row) (by decide +kernel)) (fun _ _ _ _ _ => (pg_name (i := 4) scRw.nd rfl (Or.inl rfl))) (fun _ _ _ _ _ => pts_nil) (fun _ _ _ _ _ => (pe_callTy call_str_int (by rfl) T.str (by decide +kernel) (pa_cons (pv 4) pa_nil))))) (pe_op op_rep (pe_lst (pa_cons (pv 3) pa_nil)) (pe_callTy call_int1 (by rfl) T.int (by decide +kernel) (pa_cons (pe_cmpR op_eq (pv 1) pe_str (nomark _)) pa_nil)))))))), ?_⟩
    obtain ⟨ln, sm⟩ := ok.len
    have okn := ok.n
    refine sa1 ⟨_, rfl, p, _, rfl, hp, rfl, _, _, rfl, gn ⟨_, _, rfl, gn ⟨_, _, rfl, gn ⟨rfl, ?_⟩⟩⟩⟩
    refine at_stD (σ' := [some (.ref p), some (.str d.w), some (.ref q), some (.str d.t), none]) rfl ?_
    refine ⟨⟨_, rfl⟩, _, rfl, by show 1 ≤ sizeLine; decide, fun l1 hl1 => ?_⟩
    have s1 := same_new (o := .lst [.str d.w]) hl1
    have e1 : (upd H l1 (.lst [.str d.w])) l1 = some (.lst [.str d.w]) := upd_same
    generalize upd H l1 (.lst [.str d.w]) = H1 at s1 e1 ⊢
    have hq1 := sqt_ne (s1 q) hq
    refine ⟨_, rfl, q, rfl, ⟨_, hq1⟩, fun D hD => ?_⟩
    refine lc_it (walk_tup (xs := d.ns.map fun n : Nat => V.int (n : Int))) (fun i H' => (∀ b o, b ≠ D → H1 b = some o → H' b = some o) ∧ H' D = some (.lst ((d.ns.take i).map fun n => V.str (numS n))))
      ⟨fun b o n e => by rw [upd_ne n]; exact e, upd_same⟩ (fun i H' _ z => sqt_at hD z.1 hq1) ?_ ?_
    · rintro i y H0 H' hi ⟨kp, hd⟩ ⟨rfl, ey⟩
      rw [List.getElem?_map] at ey
      obtain ⟨n, en, rfl⟩ : ∃ n : Nat, d.ns[i]? = some n ∧ y = V.int (n : Int) := by
        cases e : d.ns[i]? with
        | none => rw [e] at ey; cases ey
        | some n => rw [e] at ey; exact ⟨n, rfl, (Option.some.inj ey).symm⟩
      have tk : d.ns.take (i + 1) = d.ns.take i ++ [n] := by rw [List.take_add_one, en] <;> rfl
      have hn := ok.lt n (List.mem_of_getElem? en)
      refine ⟨rfl, _, rfl, n, rfl, txt_log hn, _, hd, by rw [List.length_map, List.length_take]; exact Nat.lt_of_le_of_lt (show _ ≤ 10 by omega) (by decide), fun b o n e => by rw [upd_ne n]; exact kp b o n e, ?_⟩
      rw [upd_same, tk, List.map_append]; rfl
    rintro H2 ⟨kp, hd⟩
    rw [List.length_map, List.take_length] at hd
    have s2 : Same H1 H2 := fun b o e => kp b o (ne_of_none e hD) e
    refine ⟨l1, D, _, _, rfl, rfl, s2 _ _ e1, hd, by rw [List.length_map]; exact Nat.le_trans (show _ ≤ 11 by show 1 + d.ns.length ≤ 11; omega) (by decide), fun l2 hl2 => ?_⟩
    have s3 := same_new (o := .lst ([.str d.w] ++ d.ns.map fun n => V.str (numS n))) hl2
    have e3 : (upd H2 l2 (.lst ([.str d.w] ++ d.ns.map fun n => V.str (numS n)))) l2 = some (.lst (([d.w] ++ d.ns.map numS).map V.str)) := by rw [upd_same, List.map_append, List.map_map]; rfl
    generalize upd H2 l2 (.lst ([.str d.w] ++ d.ns.map fun n => V.str (numS n))) = H3 at s3 e3 ⊢
    refine ⟨_, rfl, by show 1 ≤ sizeLine; decide, fun l3 hl3 => ?_⟩
    have s4 := same_new (o := .lst [.str d.t]) hl3
    have e4 : (upd H3 l3 (.lst [.str d.t])) l3 = some (.lst [.str d.t]) := upd_same
    generalize upd H3 l3 (.lst [.str d.t]) = H4 at s4 e4 ⊢
    refine ⟨_, rfl, rfl, .inr ⟨_, rfl, ?_⟩⟩
    have dv : decide (V.str d.w = V.str (Str.ofString "ask")) = decide (d.w = "ask") := by
      by_cases h : d.w = "ask"
      · rw [decide_eq_true h, h]; exact decide_eq_true rfl
      · rw [decide_eq_false h, decide_eq_false]
        intro e
        injection e with e
        exact h e
    rw [dv]
    have rep : (List.replicate (if decide (d.w = "ask") = true then (1 : Int) else 0).toNat [V.str d.t]).flatten = (if d.w = "ask" then [d.t] else []).map V.str := by
      by_cases h : d.w = "ask"
      · rw [if_pos h, decide_eq_true h]; rfl
      · rw [if_neg h, decide_eq_false h]; rfl
    have bd : [V.str d.t].length * (if decide (d.w = "ask") = true then (1 : Int) else 0).toNat ≤ sizeLine := by
      split
      · show 1 * 1 ≤ sizeLine; decide
      · show 1 * 0 ≤ sizeLine; decide
    refine ⟨l3, _, _, rfl, rfl, e4, by split <;> decide, by split <;> decide, bd, fun l4 hl4 => ?_⟩
    rw [rep]
    have s5 := same_new (o := .lst ((if d.w = "ask" then [d.t] else []).map V.str)) hl4
    have e5 : (upd H4 l4 (.lst ((if d.w = "ask" then [d.t] else []).map V.str))) l4 = some (.lst ((if d.w = "ask" then [d.t] else []).map V.str)) := upd_same
    generalize upd H4 l4 (.lst ((if d.w = "ask" then [d.t] else []).map V.str)) = H5 at s5 e5 ⊢
    have ep : ([d.w] ++ d.ns.map numS).map V.str ++ (if d.w = "ask" then [d.t] else []).map V.str = d.parts.map V.str := by rw [← List.map_append]; rfl
    refine ⟨l2, l4, _, _, rfl, rfl, s5 _ _ (s4 _ _ e3), e5, ?_, fun l5 hl5 => ?_⟩
    · rw [← List.length_append, ep, List.length_map]
      exact Nat.le_trans ln (by decide)
    · rw [ep]
      have s6 := same_new (o := .lst (d.parts.map V.str)) hl5
      refine ⟨_, l5, d.parts, rfl, rfl, .inl (SqL.of upd_same), ?_, kk _ (s1.trans (s2.trans (s3.trans (s4.trans (s5.trans s6)))))⟩
      have : d.parts.length * Str.length " " ≤ 12 * 1 := Nat.mul_le_mul ln (by decide)
      omega
end
end GS

set_option linter.all false
set_option maxHeartbeats 1000000
namespace GS
open PySem L2 HX
/-! ### numbers in a day's text -/
def valN (z : Str) : Nat := NumText.digitsVal z.cps.toList
theorem isNum_iff {z : Str} : isNum z = true ↔ z ≠ "" ∧ z.length ≤ 3 ∧ (∀ c ∈ z.cps.toList, 48 ≤ c ∧ c ≤ 57) ∧ (z = "0" ∨ z.cps[0]? ≠ some 48) := by
  have vs : ∀ y : Str, (V.str z = V.str y) ↔ z = y := fun y => ⟨fun e => by injection e, fun e => by rw [e]⟩
  unfold isNum
  simp only [Bool.and_eq_true, Bool.or_eq_true, Bool.not_eq_true', decide_eq_false_iff_not, decide_eq_true_eq, List.all_eq_true, vs]
  constructor
  · rintro ⟨⟨⟨a, b⟩, c⟩, d⟩
    refine ⟨a, by omega, fun x hx => ?_, d⟩
    have h := fig_c x
    rw [decide_eq_true (c x hx)] at h
    have h := Bool.and_eq_true_iff.mp h.symm
    exact ⟨of_decide_eq_true h.1, of_decide_eq_true h.2⟩
  · rintro ⟨a, b, c, d⟩
    refine ⟨⟨⟨a, by omega⟩, fun x hx => ?_⟩, d⟩
    have h := fig_c x
    rw [decide_eq_true (c x hx).1, decide_eq_true (c x hx).2] at h
    exact of_decide_eq_true h
theorem num_int {z : Str} (h : isNum z = true) : intText? z = some (valN z : Int) := by
  obtain ⟨a, b, c, _⟩ := isNum_iff.mp h
  exact intText_digits (fun x hx => c x hx) (fun e => a (TL.ext_tl e)) (by show z.cps.size ≤ 4300; have : z.cps.size ≤ 3 := b; omega)
theorem first_digit : ∀ n : Fin 1000, n.val = 0 ∨ (TL.numL n.val)[0]? ≠ some 48 := by decide +kernel
theorem num_numS {n : Nat} (h : n < 1000) : isNum (numS n) = true ∧ valN (numS n) = n := by
  have tl : (numS n).cps.toList = TL.numL n := TL.tl_num n
  have ln : (numS n).length ≤ 3 := by rw [TL.len_tl]; show (numS n).cps.toList.length ≤ 3; rw [tl]; exact TL.numL_len (by decide) h
  refine ⟨isNum_iff.mpr ⟨fun e => ?_, ln, fun c hc => ?_, ?_⟩, by unfold valN; rw [tl]; exact TL.numL_val n⟩
  · rw [e] at tl
    exact TL.numL_ne n tl.symm
  · rw [tl] at hc
    exact TL.numL_digits n c hc
  · by_cases h0 : n = 0
    · left; rw [h0]; decide +kernel
    · right
      intro e
      have e : (TL.numL n)[0]? = some 48 := by rw [← tl, Array.getElem?_toList]; exact e
      rcases first_digit ⟨n, h⟩ with z | z
      · exact h0 z
      · exact z e
end GS
namespace GS
open PySem L2 HX
/-! ### the first word and the others -/
theorem spl_par (s : Nat) : ∀ (l acc : List Nat), TL.spl [s] 0 acc l = match TL.par [s] acc l with | none => [acc ++ l] | some (a, b) => a :: TL.spl [s] 0 [] b
  | [], acc => by rw [TL.spl_nil]; show [acc] = [acc ++ []]; rw [List.append_nil]
  | c :: r, acc => by
    by_cases h : c = s
    · have p : TL.pre [s] (c :: r) = true := by rw [h]; show ([s] == [s]) = true; exact beq_self_eq_true _
      rw [TL.spl_hit p, TL.par_hit p]; rfl
    · have p : TL.pre [s] (c :: r) = false := TL.pre_of_head [] r h
      rw [TL.spl_miss p, TL.par_miss p, spl_par s r (acc ++ [c])]
      cases TL.par [s] (acc ++ [c]) r with
      | none => show [acc ++ [c] ++ r] = [acc ++ c :: r]; rw [List.append_assoc]; rfl
      | some x => rfl
end GS

set_option linter.all false
set_option maxHeartbeats 2000000
namespace GS
open PySem L2 HX
/-! ### what scripts are drawn from: a number, the script's cells, a place (the form of 44 laws) -/
def MixAt (H : Hp) (a b : Addr) : Prop := ∃ (m : Int) (cs : List Int) (p : Int), H a = some (.lst [.int m, .ref b, .int p]) ∧ H b = some (.lst (cs.map V.int)) ∧ cs.length ≤ 63
def spMix (K : PySem.W.Frag) : Sp := fun vs H Q _ => ∃ (l : Addr) (ns : List Int) (z : Int), vs = [.ref l, .int z] ∧ SqL K H l (ns.map V.int) ∧ ns.length ≤ 63 ∧
  ∀ (a b : Addr) (H' : Hp), H a = none → H b = none → MixAt H' a b → Same H H' → Q (.ref a) H'
def spNx (_K : PySem.W.Frag) : Sp := fun vs H Q _ => ∃ (a b : Addr) (n : Int), vs = [.ref a, .int n] ∧ 0 < n ∧ n < 1073741824 ∧ MixAt H a b ∧
  ∀ (r : Int) (H' : Hp), 0 ≤ r → r < n → MixAt H' a b → (∀ x o, x ≠ a → x ≠ b → H x = some o → H' x = some o) → Q (.int r) H'
theorem at_stM {t : TS} {D : Ends} {σ σ' : L2.St} {H : Hp} (e : σ = σ') (h : t D σ' H) : t D σ H := e ▸ h
theorem ixN_at {n j : Nat} (h : j < n) : ixN n (j : Int) = some j := by unfold ixN; rw [if_pos (by omega), if_pos (by omega)]; simp
theorem getIM {ns : List Int} {i : Nat} {y : V} (h : (ns.map V.int)[i]? = some y) : ∃ z, y = V.int z := by
  rw [List.getElem?_map] at h
  cases e : ns[i]? with
  | none => rw [e] at h; cases h
  | some u => rw [e] at h; exact ⟨u, (Option.some.inj h).symm⟩
section
variable {P : Program} {w : World} {K : PySem.W.Frag} {mg : Str → Option Value} {base : Heap}
theorem scMix : FnScope ["_law_script", "_law_seed", "_law_mixed", "_law_cell"] ["_law_script", "_law_seed"] (defScope s_l_mix) := ⟨rfl, rfl, rfl, by decide +kernel, rfl, by decide +kernel, by decide +kernel⟩
theorem ok_mix {f : Addr} {fd : FuncData} (F : Fun K "_law_mix" "_law_mix" s_l_mix f fd) (T : Txt mg) : FnOk P w K mg base CX0 1 f fd ["_law_script", "_law_seed"] (spMix K) := by
  refine F.ok scMix (fun vs H Q E h => ?_) (fun cdv A outer s H vs Q E hr h => ?_)
  · obtain ⟨l, ns, z, rfl, _⟩ := h
    rfl
  · obtain ⟨l, ns, z, rfl, hS, hl, kk⟩ := h
    refine ⟨_, (pss_cons (ps_set (i := 2) scMix.nd rfl (Or.inl rfl) (pv 1))
      (pss_cons (ps_for PassesOwn.never rfl (RK.piL (K := K) (pv 0)) (pg_name (i := 3) scMix.nd rfl (Or.inl rfl))
        (pss_one (ps_set (i := 2) scMix.nd rfl (Or.inl rfl) (pe_op op_mod (pe_op op_add (pe_op op_add (pe_op op_mul (pv 2) pe_int) (pe_op op_mod (pv 3) pe_int)) pe_int) pe_int))))
      (pss_one (ps_ret (pe_lst (pa_cons (pv 2) (pa_cons (pe_callTy (RK.listQ (K := K)) (by rfl) T.list (by decide +kernel) (pa_cons (pv 0) pa_nil)) (pa_cons pe_int pa_nil)))))))), ?_⟩
    refine sa1 ⟨_, rfl, gn ?_⟩
    refine ⟨_, rfl, l, rfl, ⟨_, hS⟩, ?_⟩
    refine for_it (walk_list (xs := ns.map V.int)) (fun i σ H' => ∃ (m : Int) (v : Option V), σ = [some (.ref l), some (.int z), some (.int m), v] ∧ H' = H) ⟨z, none, rfl, rfl⟩ (fun i σ H' _ q => by obtain ⟨_, _, _, e⟩ := q; rw [e]; exact hS) ?_ ?_
    · rintro i y σ H0 H' hi ⟨m, v, rfl, rfl⟩ ⟨rfl, ey⟩
      obtain ⟨u, rfl⟩ := getIM ey
      refine gn ?_
      exact ⟨_, rfl, _, _, rfl, rfl, .inr ⟨by decide, by decide⟩, _, rfl, _, _, rfl, rfl, (show (0 : Int) < 2147483629 by decide), _, _, rfl, rfl, _, _, rfl, rfl, _, _, rfl, rfl, (show (0 : Int) < 2147483647 by decide), gn ⟨_, _, rfl, rfl⟩⟩
    · rintro σ H' ⟨m, v, rfl, rfl⟩
      refine ⟨_, rfl, _, rfl, l, _, rfl, .inl hS, fun p hp => ⟨by show 3 ≤ sizeLine; decide, fun q hq => ?_⟩⟩
      have s1 := same_new (o := .lst (ns.map V.int)) hp
      have e1 : (upd H' p (.lst (ns.map V.int))) p = some (.lst (ns.map V.int)) := upd_same
      have s2 := same_new (o := .lst [.int m, .ref p, .int 0]) hq
      exact kk q p _ (none_of_same s1 hq) hp ⟨m, ns, 0, upd_same, s2 _ _ e1, hl⟩ (s1.trans s2)
theorem scNx : FnScope ["_law_h", "_law_many", "_law_cell"] ["_law_h", "_law_many"] (defScope s_l_next) := ⟨rfl, rfl, rfl, by decide +kernel, rfl, by decide +kernel, by decide +kernel⟩
theorem ok_nx {f : Addr} {fd : FuncData} (F : Fun K "_law_next" "_law_next" s_l_next f fd) (T : Txt mg) (hmax : mg "max" = none) : FnOk P w K mg base CX0 1 f fd ["_law_h", "_law_many"] (spNx K) := by
  refine F.ok scNx (fun vs H Q E h => ?_) (fun cdv A outer s H vs Q E hr h => ?_)
  · obtain ⟨a, b, n, rfl, _⟩ := h
    rfl
  · obtain ⟨a, b, n, rfl, n0, n1, ⟨m, cs, p, ha, hb, hl⟩, kk⟩ := h
    refine ⟨_, (pss_cons (ps_set (i := 2) scNx.nd rfl (Or.inl rfl) (pe_ix (RK.ixL (K := K)) (pe_op op_cat (pe_ix (RK.ixL (K := K)) (pv 0) pe_int (fun _ _ => rfl)) (pe_lst (pa_cons pe_int pa_nil))) (pe_op op_mod (pe_ix (RK.ixL (K := K)) (pv 0) pe_int (fun _ _ => rfl)) (pe_callB (call_max2 rfl) (by rfl) hmax (by decide +kernel) (pa_cons pe_int (pa_cons (pe_callB (RK.lenQ (K := K)) (by rfl) T.len PySem.boot_len (pa_cons (pe_ix (RK.ixL (K := K)) (pv 0) pe_int (fun _ _ => rfl)) pa_nil)) pa_nil)))) (fun _ _ => rfl)))
      (pss_cons (ps_if (pt_cmpR op_ge (pv 2) (pe_op op_pow pe_int pe_int) (nomark _)) (pss_cons (ps_asg (pe_op op_fdiv (pv 2) (pv 1)) (pg_sub (pe_ix (RK.ixL (K := K)) (pv 0) pe_int (fun _ _ => rfl)) (pe_op op_mod (pe_ix (RK.ixL (K := K)) (pv 0) pe_int (fun _ _ => rfl)) (pe_callB (RK.lenQ (K := K)) (by rfl) T.len PySem.boot_len (pa_cons (pe_ix (RK.ixL (K := K)) (pv 0) pe_int (fun _ _ => rfl)) pa_nil))) set_list))
        (pss_one (ps_ret (pe_op op_mod (pv 2) (pv 1))))) pss_nil)
      (pss_cons (ps_asg (pe_op op_mod (pe_op op_add (pe_op op_add (pe_op op_mul (pe_ix (RK.ixL (K := K)) (pv 0) pe_int (fun _ _ => rfl)) pe_int) (pe_op op_mul (pv 2) pe_int)) pe_int) pe_int) (pg_sub (pv 0) pe_int set_list))
      (pss_cons (ps_asg (pe_op op_add (pe_ix (RK.ixL (K := K)) (pv 0) pe_int (fun _ _ => rfl)) pe_int) (pg_sub (pv 0) pe_int set_list))
      (pss_one (ps_ret (pe_op op_mod (pe_op op_fdiv (pe_ix (RK.ixL (K := K)) (pv 0) pe_int (fun _ _ => rfl)) pe_int) (pv 1)))))))), ?_⟩
    have nab : a ≠ b := fun e => by
      rw [e, hb] at ha
      injection ha with ha
      injection ha with ha
      cases cs with
      | nil => cases ha
      | cons x xs => cases xs with
        | nil => cases ha
        | cons y ys => cases ha
    obtain ⟨mx, hmx⟩ : ∃ mx : Int, mx = if (cs.length : Int) > 1 then (cs.length : Int) else 1 := ⟨_, rfl⟩
    have mx0 : 0 < mx := by rw [hmx]; split <;> omega
    have mx1 : mx ≤ cs.length + 1 := by rw [hmx]; split <;> omega
    have r0 := Int.emod_nonneg p (by omega : mx ≠ 0)
    have r1 := Int.emod_lt_of_pos p mx0
    obtain ⟨j, ej⟩ : ∃ j : Nat, p % mx = j := ⟨(p % mx).toNat, by omega⟩
    obtain ⟨c, ec⟩ : ∃ c, (cs ++ [0])[j]? = some c := ⟨_, List.getElem?_eq_getElem (by rw [List.length_append]; show j < cs.length + 1; omega)⟩
    have ec' : (cs.map V.int ++ [V.int 0])[j]? = some (V.int c) := by
      have : cs.map V.int ++ [V.int 0] = (cs ++ [0]).map V.int := by rw [List.map_append]; rfl
      rw [this, List.getElem?_map, ec]; rfl
    have sa := SqL.of (K := K) ha
    have sb := SqL.of (K := K) hb
    refine sa1 ⟨_, rfl, a, _, 1, .ref b, rfl, rfl, sa, rfl, by show 1 ≤ sizeLine; decide, fun q hq => ?_⟩
    have s1 := same_new (o := .lst [.int 0]) hq
    have e1 : (upd H q (.lst [.int 0])) q = some (.lst [.int 0]) := upd_same
    generalize upd H q (.lst [.int 0]) = H1 at s1 e1
    refine ⟨b, q, _, _, rfl, rfl, s1 _ _ hb, e1, by rw [List.length_map]; show cs.length + 1 ≤ sizeLine; exact Nat.le_trans (Nat.succ_le_succ hl) (by decide), fun r hr1 => ?_⟩
    have s2 := same_new (o := .lst (cs.map V.int ++ [.int 0])) hr1
    have e2 : (upd H1 r (.lst (cs.map V.int ++ [.int 0]))) r = some (.lst (cs.map V.int ++ [.int 0])) := upd_same
    generalize upd H1 r (.lst (cs.map V.int ++ [.int 0])) = H2 at s2 e2 ⊢
    have s12 := s1.trans s2
    have ha2 := s12 _ _ ha
    have hb2 := s12 _ _ hb
    have sa2 := SqL.of (K := K) ha2
    have sb2 := SqL.of (K := K) hb2
    refine ⟨_, rfl, a, _, 2, .int p, rfl, rfl, sa2, rfl, _, rfl, a, _, 1, .ref b, rfl, rfl, sa2, rfl, b, _, rfl, .inl sb2, 1, _, rfl, ?_⟩
    rw [List.length_map, ← hmx]
    refine ⟨p, mx, rfl, rfl, mx0, r, _, p % mx, .int c, rfl, rfl, SqL.of e2, by rw [ej]; exact atI_nat ec', gn ?_⟩
    refine at_stM (σ' := [some (.ref a), some (.int n), some (.int c)]) rfl ?_
    have kp : ∀ x o, H x = some o → H2 x = some o := fun x o e => s12 _ _ e
    clear sa sb sa2 sb2 e1 e2 s1 s2 hq hr1
    have pw : (10 : Int) ^ (18 : Int).toNat = 1000000000000000000 := by decide
    refine sif ⟨_, rfl, 10, 18, rfl, rfl, ⟨by decide, by decide, by decide⟩, c, _, rfl, rfl, _, rfl, ?_⟩
    rw [pw]
    cases ebig : decide ((1000000000000000000 : Int) ≤ c) with
    | true =>
      have big : (1000000000000000000 : Int) ≤ c := of_decide_eq_true ebig
      have jl : j < cs.length := by
        by_cases h : j < cs.length
        · exact h
        · have : j = cs.length := by omega
          rw [this, List.getElem?_append_right (Nat.le_refl _), Nat.sub_self] at ec
          have : c = 0 := (Option.some.inj ec).symm
          omega
      have p0 := Int.emod_nonneg p (by omega : (cs.length : Int) ≠ 0)
      have p1 := Int.emod_lt_of_pos p (by omega : 0 < (cs.length : Int))
      obtain ⟨j2, ej2⟩ : ∃ j2 : Nat, p % (cs.length : Int) = j2 := ⟨(p % (cs.length : Int)).toNat, by omega⟩
      refine iteT ?_
      refine sa1 ⟨_, rfl, _, rfl, c, n, rfl, rfl, ⟨n0, n1⟩, _, rfl, a, _, 1, .ref b, rfl, rfl, SqL.of ha2, rfl, _, rfl, a, _, 2, .int p, rfl, rfl, SqL.of ha2, rfl, _, rfl, a, _, 1, .ref b, rfl, rfl, SqL.of ha2, rfl, b, _, rfl, .inl (SqL.of hb2), p, _, rfl, rfl, ?_⟩
      rw [List.length_map]
      refine ⟨by show (0 : Int) < cs.length; omega, b, _, p % (cs.length : Int), j2, rfl, rfl, hb2, by rw [ej2, List.length_map]; exact ixN_at (by omega), ?_⟩
      have es : (cs.map V.int).set j2 (.int (c / n)) = (cs.set j2 (c / n)).map V.int := List.map_set.symm
      rw [es]
      refine ⟨_, rfl, _, rfl, c, n, rfl, rfl, n0, kk _ _ (Int.emod_nonneg c (by omega)) (Int.emod_lt_of_pos c n0) ⟨m, cs.set j2 (c / n), p, by rw [upd_ne nab]; exact ha2, upd_same, by rw [List.length_set]; exact hl⟩ fun x o h1 h2 e => ?_⟩
      rw [upd_ne h2]; exact kp x o e
    | false =>
      refine iteF ?_
      dsimp only [tNext]
      refine sa1 ⟨_, rfl, a, _, 0, .int m, rfl, rfl, SqL.of ha2, rfl, m, 48271, rfl, rfl, .inr ⟨by decide, by decide⟩, _, rfl, c, 69621, rfl, rfl, .inr ⟨by decide, by decide⟩, _, _, rfl, rfl, _, 11, rfl, rfl, _, 2147483647, rfl, rfl, (show (0 : Int) < 2147483647 by decide), _, rfl, a, _, 0, 0, rfl, rfl, ha2, rfl, ?_⟩
      dsimp only
      generalize (m * 48271 + c * 69621 + 11) % 2147483647 = m'
      have e3 : (upd H2 a (.lst ([V.int m, .ref b, .int p].set 0 (.int m')))) a = some (.lst [.int m', .ref b, .int p]) := upd_same
      have b3 : (upd H2 a (.lst ([V.int m, .ref b, .int p].set 0 (.int m')))) b = some (.lst (cs.map V.int)) := by rw [upd_ne (Ne.symm nab)]; exact hb2
      have k3 : ∀ x o, x ≠ a → H x = some o → (upd H2 a (.lst ([V.int m, .ref b, .int p].set 0 (.int m')))) x = some o := fun x o h e => by rw [upd_ne h]; exact kp x o e
      generalize upd H2 a (.lst ([V.int m, .ref b, .int p].set 0 (.int m'))) = H3 at e3 b3 k3 ⊢
      refine sa1 ⟨_, rfl, a, _, 2, .int p, rfl, rfl, SqL.of e3, rfl, p, 1, rfl, rfl, _, rfl, a, _, 2, 2, rfl, rfl, e3, rfl, ?_⟩
      dsimp only
      have e4 : (upd H3 a (.lst ([V.int m', .ref b, .int p].set 2 (.int (p + 1))))) a = some (.lst [.int m', .ref b, .int (p + 1)]) := upd_same
      have b4 : (upd H3 a (.lst ([V.int m', .ref b, .int p].set 2 (.int (p + 1))))) b = some (.lst (cs.map V.int)) := by rw [upd_ne (Ne.symm nab)]; exact b3
      have k4 : ∀ x o, x ≠ a → H x = some o → (upd H3 a (.lst ([V.int m', .ref b, .int p].set 2 (.int (p + 1))))) x = some o := fun x o h e => by rw [upd_ne h]; exact k3 x o h e
      generalize upd H3 a (.lst ([V.int m', .ref b, .int p].set 2 (.int (p + 1)))) = H4 at e4 b4 k4 ⊢
      exact ⟨_, rfl, a, _, 0, .int m', rfl, rfl, SqL.of e4, rfl, m', 7, rfl, rfl, ⟨by decide, by decide⟩, _, rfl, _, n, rfl, rfl, n0, kk _ _ (Int.emod_nonneg _ (by omega)) (Int.emod_lt_of_pos _ n0) ⟨m', cs, p + 1, e4, b4, hl⟩ fun x o h1 _ e => k4 x o h1 e⟩
end
end GS

set_option Elab.async false
set_option linter.all false
set_option maxRecDepth 100000
set_option maxHeartbeats 2000000
/-! a list comprehension whose items are calls that may raise: [f(..) for t in it] -/
namespace LCX
open PySem PySem.Spec PyProof.Rows L2
/-! ### the run of a comprehension: its block's names go, then the value, or the error flies on from the same frame -/
def Fin (M : Model) (A : Around) (E : Value → Shared → Prop) (Q : Value → Shared → Prop) (acc : Value) (C : Addr) (F : Option Addr) (r : Result) (s' : Shared) : Prop :=
  (∃ m, s'.heap.Ns C m) ∧ ∀ h', Heap.SameBut C s'.heap h' → match r with
    | .ok _ => Q acc { s' with heap := h' }
    | .error x => ∀ ce : Env, ce.frame = F → wpAny M A (PySem.passOn "comprehension.variables-let-go" x ce : Sem Value) (fun _ _ => False) E { s' with heap := h' }
theorem comp_fin {M : Model} {A : Around} {E : Value → Shared → Prop} {Q : Value → Shared → Prop} {s : Shared} {env : Env} {elt tg iter : Expr} {scope : Scope} {pos pos' : Pos} {first : Sem Value} {cl : List (Str × Addr)}
    (hc : closureFor scope env = pure cl) (hs : ∀ x, foldedSetIterable iter env x = pure x) (hk : scope.kind = .function) (hl : ∀ y ∈ scope.names, y.2 = .local → scope.names.lookup y.1 = some .local)
    (go : wpAny M A first (fun x s1 => wpAny M A (pyIter x) (fun it s2 => wpAny M A (newList []) (fun acc s3 => wpAny M A (newFunctionEnv scope env.globals cl [] env.qual none .none (some env)) (fun ce s4 =>
      codeAny M A (.compStart (.ListComp elt [⟨tg, iter, [], 0⟩] scope pos) 0 it acc { ce with scope := relabel scope env }) (Fin M A E Q acc ce.locals ce.frame) s4) E s3) E s2) E s1) E s) :
    wpAny M A (comprehension (.ListComp elt [⟨tg, iter, [], 0⟩] scope pos) scope env pos' (newList []) false first none) Q E s := by
  have okE : ∀ {α : Type} {t : Sem α} {R R' : α → Shared → Prop} {s : Shared}, wpAny M A t R E s → (∀ a s, R a s → R' a s) → wpAny M A t R' E s := fun h k => wpAny_mono h k fun _ _ z => z
  unfold comprehension
  rw [hc]
  apply wpAny_bind
  refine okE go fun x s1 g1 => ?_
  dsimp only [clausesOf]
  apply wpAny_bind; apply wpAny_standAt
  apply wpAny_bind; refine wpAny_of_eq (hs x) ?_
  apply wpAny_bind; apply wpAny_holding
  refine okE g1 fun it s2 g2 => ?_
  apply wpAny_standIf
  apply wpAny_bind
  refine okE g2 fun acc s3 g3 => ?_
  apply wpAny_bind; apply wpAny_pure
  apply wpAny_bind
  refine okE g3 fun ce s4 g4 => ?_
  have gone : ∀ {co : List (Str × NameKind) → List Value} (s' : Shared) (m : Str → Option Value) (R : Unit → Shared → Prop), s'.heap.Ns ce.locals m → (∀ h', Heap.SameBut ce.locals s'.heap h' → R () { s' with heap := h' }) →
      wpAny M A (comprehension.letGo { ce with scope := relabel scope env } co (scope.names.filter fun x => (x.2 == .local || x.2 == .cell) && x.1 != (".0" : Str)).reverse) R E s' := fun {co} s' m R hn k =>
    wpAny_comp_letGo (cenv := { ce with scope := relabel scope env }) hk _ s' m (fun y hy e => lookup_relabel_local (hl y (List.mem_filter.mp (List.mem_reverse.mp hy)).1 e)) hn fun h' _ _ sb => k h' sb
  apply wpAny_holding
  apply wpAny_bind; apply wpAny_attempt; apply wpAny_holding
  refine wpAny_run (codeAny_mono g4 fun r s' fin => ?_)
  obtain ⟨⟨m, hn⟩, fin⟩ := fin
  cases r with
  | ok _ =>
    apply wpAny_bind; apply wpAny_holding
    exact gone s' m _ hn fun h' sb => wpAny_pure (fin h' sb)
  | error x =>
    apply wpAny_bind; apply wpAny_holding
    exact gone s' m _ hn fun h' sb => wpAny_mono (fin h' sb _ rfl) (fun _ _ z => z.elim) fun _ _ z => z
theorem note_frame {x : Value} {e e' : Env} (h : e.frame = e'.frame) : noteFrame x e = noteFrame x e' := by
  unfold noteFrame PySem.frameOf
  rw [h]
/-- what is held at this frame is passed on from it -/
theorem held_on {M : Model} {A : Around} {E : Value → Shared → Prop} {s : Shared} {B : Heap} {l : List Env} {a L : Addr} {Z : Obj → Prop} {ce : Env} (hh : HandSPX.HeldZ B l a Z L s.heap) (hf : ce.frame = some L)
    (hE : ∀ h', HandSPX.HeldZ B l a Z L h' → s.heap.UpToSlots h' → E (.ref a) { s with heap := h' }) : wpAny M A (PySem.passOn "comprehension.variables-let-go" (.ref a) ce : Sem Value) (fun _ _ => False) E s := by
  obtain ⟨_, _, _, oe, vs, T, oT, ts, he, hz, hd, h1, h2⟩ := id hh
  unfold PySem.passOn
  refine wpAny_bind (wpAny_field he hd h1 ?_)
  rw [if_neg (show ¬ ((Value.ref T == Value.none) = true) from by simp), hf]
  first
    | exact wpAny_bind (HandSPX.setFlight_onZ hh fun h' hh' up => wpAny_throw (hE h' hh' up))
    | exact wpAny_bind (wpAny_pure (wpAny_bind (HandSPX.setFlight_onZ hh fun h' hh' up => wpAny_throw (hE h' hh' up))))
/-- X within the comprehension: errors go to xe -/
abbrev inn (X : Cx) (s : Shared) (H : Hp) (scope : Scope) (ce : Env) (fp : List Addr) (xe : Value → Shared → Prop) : Cx := { X.blk s H scope ce fp with xe := xe }
theorem inn_of {X : Cx} {s : Shared} {H : Hp} {scope : Scope} {ce : Env} {fp : List Addr} {pins : List (Addr × Obj)} {σ : L2.St} {H' : Hp} {s' : Shared} (I : Inv (X.blk s H scope ce fp) pins σ H' s') (xe : Value → Shared → Prop) : Inv (inn X s H scope ce fp xe) pins σ H' s' := by
  obtain ⟨⟨o1, o2, o3, o4, o5, o6, o7, o8, o9, o10, o11, o12, o13, o14, o15, o16, o17, o18⟩, i1, i2, i3, i4, i5, i6, i7, i8, i9, i10⟩ := I
  exact ⟨⟨o1, o2, o3, o4, o5, o6, o7, o8, o9, o10, o11, o12, o13, o14, o15, o16, o17, o18⟩, i1, i2, i3, i4, i5, i6, i7, i8, i9, i10⟩
/-- a held exception over a smaller ground -/
theorem held_less {B B' : Heap} {l : List Env} {a L C : Addr} {Z : Obj → Prop} {h h' : Heap} (hh : HandSPX.HeldZ B l a Z L h) (k : ∀ b o, B'.get? b = some o → B.get? b = some o ∧ b ≠ C) (sb : Heap.SameBut C h h') (nC : ∃ o, B.get? C = some o ∧ ∀ vs, o.data ≠ .fields vs) (hl : ∀ b ∈ frs l, b ≠ C) : HandSPX.HeldZ B' l a Z L h' ∧ B'.StaysIn h' := by
  obtain ⟨f1, f2, f3, oe, vs, T, oT, ts, he, hz, hd, h1, hnT, hTe, hT, hdT, h3⟩ := hh
  obtain ⟨oC, eC, dC⟩ := nC
  have nB : ∀ {b}, B.get? b = none → B'.get? b = none := fun {b} n => by
    cases q : B'.get? b with
    | none => rfl
    | some o => rw [(k b o q).1] at n; cases n
  have st : B'.StaysIn h' := fun b o e => by
    obtain ⟨e1, e2⟩ := k b o e
    rw [sb.2 b e2]
    exact f1 b o e1
  have aC : a ≠ C := fun z => by rw [z, eC] at f2; cases f2
  have tC : T ≠ C := fun z => by rw [z, eC] at hnT; cases hnT
  refine ⟨⟨st, nB f2, ?_, oe, vs, T, oT, ts, (sb.2 a aC).trans he, hz, hd, h1, nB hnT, hTe, (sb.2 T tC).trans hT, hdT, h3⟩, st⟩
  clear st
  revert f3 hl
  intro hl f3
  induction l with
  | nil => trivial
  | cons env rest ih =>
    obtain ⟨hk, ⟨L', o, hf, hn, ho, hd'⟩, hr⟩ := f3
    have m : L' ∈ frs (env :: rest) := by unfold frs; rw [List.filterMap_cons, hf]; exact List.mem_cons_self ..
    refine ⟨hk, ⟨L', o, hf, nB hn, (sb.2 L' (hl L' m)).trans ho, hd'⟩, ih (fun b hb => hl b ?_) hr⟩
    unfold frs; rw [List.filterMap_cons, hf]; exact List.mem_cons_of_mem _ hb
/-- the exception leaves the block: it is in X's air -/
theorem left {X : Cx} {W : WX} {E : XK} {pins : List (Addr × Obj)} {σ σ' : L2.St} {H3 H9 : Hp} {s3 s9 s' s'' : Shared} {scope : Scope} {ce : Env} {fp : List Addr} {pins9 : List (Addr × Obj)} {xe : Value → Shared → Prop}
    (I3 : Inv X pins σ H3 s3) (I9 : Inv (inn X s3 H3 scope ce fp xe) pins9 σ' H9 s9) (hW : ∀ cls d H, E cls d H → W cls d σ H)
    (f3 : ∀ b ∈ fp, (b ∈ X.ex ∨ X.s_0.heap.objs.size ≤ b) ∧ b ≠ X.env.locals ∧ (∀ x c, X.env.cells.lookup x = some c → c ≠ b) ∧ ∀ p ∈ X.pn ++ pins, p.1 ≠ b) (hC : s3.heap.objs.size ≤ ce.locals)
    {a : Addr} {B : Heap} {H' : Hp} {cls : Value} {d : Option Addr} (hok : HOk X.prog X.w H' B) (ub : UB (frs X.stack) H9 H' s9.heap B s'.heap) (na : H' a = none) (os : s'.os = s9.os) (ag : AllBare s''.gens) (hE : E cls d H') (ho : s''.os = s'.os)
    (up : ∀ b o, s'.heap.get? b = some o → (∀ vs, o.data ≠ .fields vs) → b ≠ ce.locals → ∃ sl, s''.heap.get? b = some { o with slots := sl })
    (fl : ∀ B' : Heap, (∀ b o, B'.get? b = some o → B.get? b = some o ∧ b ≠ ce.locals) → B'.StaysIn s''.heap ∧ Sky B' X.stack a (Zc cls d) X.env.locals s''.heap) : XE X W (.ref a) s'' := by
  have nfC : ∀ b ∈ frs X.stack, b ≠ ce.locals := fun b hb z => by
    obtain ⟨_, o, e, _⟩ := I3.stack.mem hb
    rw [z] at e
    exact absurd (Nat.lt_of_lt_of_le (Heap.lt_size e) hC) (Nat.lt_irrefl _)
  have cnone : H' ce.locals = none := by
    obtain ⟨m, ⟨o, _, _, ho, _⟩, _⟩ := I9.loc
    exact ub.free ce.locals o ho I9.free
  obtain ⟨B', b1, b2⟩ := restrict B fun b => decide (b ≠ ce.locals)
  have kB : ∀ b o, B'.get? b = some o → B.get? b = some o ∧ b ≠ ce.locals := fun b o e => by
    by_cases hb : b = ce.locals
    · rw [b2 b (by simp [hb])] at e; cases e
    · rw [b1 b (by simp [hb])] at e
      exact ⟨e, hb⟩
  have toB : ∀ b o, B.get? b = some o → b ≠ ce.locals → B'.get? b = some o := fun b o e hb => by rw [b1 b (by simp [hb])]; exact e
  obtain ⟨st, sky⟩ := fl B' kB
  have hok' : HOk X.prog X.w H' B' := fun b o hq => (hok b o hq).stay (fun c u hc r => toB c u r fun z => by
      subst z
      rcases hc with hc | hc
      · rw [hc, hq] at cnone; cases cnone
      · rw [hc] at cnone; cases cnone) (fun _ r => r) fun _ _ r => r
  obtain ⟨Gd, inG, offG⟩ := restrict s''.heap fun b => (B'.get? b).isSome || decide (b ∈ frs X.stack)
  have ofB : ∀ b o, B'.get? b = some o → Gd.get? b = some o := fun b o e => by
    rw [inG b (by simp [e])]
    exact st b o e
  have ofF : ∀ b, b ∈ frs X.stack → Gd.get? b = s''.heap.get? b := fun b hb => inG b (by simp [hb])
  have backG : ∀ b o, Gd.get? b = some o → s''.heap.get? b = some o ∧ ((B'.get? b).isSome = true ∨ b ∈ frs X.stack) := fun b o e => by
    cases hq : ((B'.get? b).isSome || decide (b ∈ frs X.stack)) with
    | false => rw [offG b hq] at e; cases e
    | true =>
      rw [inG b hq] at e
      exact ⟨e, by simpa [Bool.or_eq_true] using hq⟩
  have lt3 : ∀ b o, s3.heap.get? b = some o → b ≠ ce.locals := fun b o e z => by
    rw [z] at e
    exact absurd (Nat.lt_of_lt_of_le (Heap.lt_size e) hC) (Nat.lt_irrefl _)
  have base : Un (frs X.stack) fp H3 H9 s3.heap s9.heap := I9.base
  have nst : ∀ b o, s9.heap.get? b = some o → b ∈ frs X.stack → ∀ vs, o.data ≠ .fields vs := fun b o e hb vs z => by
    obtain ⟨_, o', e', hd⟩ := (show s9.heap.FunFrames X.base (frs X.stack |> fun _ => X.stack) from I9.stack).mem hb
    rw [e] at e'; cases e'
    exact hd vs z
  have slots : ∀ b o, s9.heap.get? b = some o → b ∈ frs X.stack → ∃ sl, s''.heap.get? b = some { o with slots := sl } := fun b o e hb => by
    obtain ⟨sl, hq⟩ := ub.slot b o e hb
    obtain ⟨sl2, q2⟩ := up b _ hq (nst b o e hb) (nfC b hb)
    exact ⟨sl2, q2⟩
  refine ⟨a, B', { s3 with heap := Gd, gens := s''.gens, drawn := s''.drawn, toks := s''.toks }, pins, σ, H', cls, d, rfl, ?_, fun b o e hb => ?_, Heap.UpToSlots.of_keeps fun b o e => (backG b o e).1, sky, na, ?_, ag, hW _ _ _ hE⟩
  · refine I3.call (ch := fp) ⟨fun b o e n hb hx => ?_, fun b o e n hb hx => ?_, fun b o e n hx => ?_, fun b o e hx => ?_, fun b xs e => ub.tups b xs (base.tups b xs e), fun b o xs e => ub.frzs b o xs (base.frzs b o xs e), fun b ps e => ?_⟩ (hok'.kept ofB) ag f3
    · exact ofB b o (toB b o (ub.keep b o (base.keep b o e n hb hx) (base.free b o e n hx) hb) (lt3 b o e))
    · obtain ⟨sl, hq⟩ := base.slot b o e n hb hx
      obtain ⟨sl2, q2⟩ := slots b _ hq hb
      exact ⟨sl2, by rw [ofF b hb]; exact q2⟩
    · obtain ⟨o', e'⟩ := base.there b o e hx
      exact ub.free b o' e' (base.free b o e n hx)
    · obtain ⟨o', e'⟩ := base.there b o e hx
      by_cases hb : b ∈ frs X.stack
      · obtain ⟨sl, hq⟩ := slots b o' e' hb
        exact ⟨_, by rw [ofF b hb]; exact hq⟩
      · obtain ⟨o2, hq⟩ := ub.there b o' e' hb
        exact ⟨o2, ofB b o2 (toB b o2 hq (lt3 b o e))⟩
    · obtain ⟨x1, e1⟩ := base.tbls b ps e
      obtain ⟨x2, e2⟩ := ub.tbls b _ e1
      exact ⟨x1 ++ x2, by rw [e2, Array.append_assoc]⟩
  · obtain ⟨e', h⟩ := backG b o e
    rcases h with h | h
    · obtain ⟨o', hq⟩ := Option.isSome_iff_exists.mp h
      have z := st b o' hq
      rw [e'] at z; cases z
      exact hq
    · exact absurd h hb
  · exact ho.trans (os.trans I9.os)
section
variable {X : Cx} {pins : List (Addr × Obj)} {σ σ0 : L2.St} {H3 : Hp} {s3 : Shared} {scope : Scope} {ce : Env} {fp : List Addr} {xe : Value → Shared → Prop} {tg elt : Expr} {J : It} {it D : Addr} {tn : Nat → Heap → Prop} {E : XK} {W0 : WX}
/-- what the block needs of the frame: its objects may turn, its names stand behind all -/
structure Base (X : Cx) (pins : List (Addr × Obj)) (σ : L2.St) (H3 : Hp) (s3 : Shared) (ce : Env) (fp : List Addr) : Prop where
  inv : Inv X pins σ H3 s3
  fp : ∀ b ∈ fp, FpOk X pins H3 b
  loc : ce.locals = s3.heap.objs.size
  fr : ce.frame = X.env.frame
  stk : X.stack = X.env :: X.outer
  own : X.env.frame = some X.env.locals
theorem Base.turns (b : Base X pins σ H3 s3 ce fp) : ∀ x ∈ fp, (x ∈ X.ex ∨ X.s_0.heap.objs.size ≤ x) ∧ x ≠ X.env.locals ∧ (∀ y c, X.env.cells.lookup y = some c → c ≠ x) ∧ ∀ p ∈ X.pn ++ pins, p.1 ≠ x := fun x hx => by
  obtain ⟨_, f1, _, f3, f4, f5⟩ := b.fp x hx
  exact ⟨f3, f1, f4, f5⟩
theorem Base.frames (b : Base X pins σ H3 s3 ce fp) : ∀ x ∈ frs X.stack, x ≠ ce.locals := fun x hx z => by
  obtain ⟨_, o, e, _⟩ := b.inv.stack.mem hx
  rw [z, b.loc] at e
  exact Nat.lt_irrefl _ (Heap.lt_size e)
/-- the block's end: we are in the frame again -/
theorem Base.back (b : Base X pins σ H3 s3 ce fp) {H' : Hp} {s' : Shared} (I : Inv (inn X s3 H3 scope ce fp xe) [] σ0 H' s') : Inv X pins σ H' s' ∧ (∃ m, s'.heap.Ns s3.heap.objs.size m) ∧ FpOk X pins H' s3.heap.objs.size := by
  have un : Un (frs X.stack) fp H3 H' s3.heap s'.heap := I.base
  have gone : H' ce.locals = none := I.free
  have ns : ∃ m, s'.heap.Ns ce.locals m := I.loc.imp fun _ z => z.1
  rw [b.loc] at gone ns
  exact ⟨b.inv.call' I.os un I.hok I.bare b.turns, ns, b.inv.fpOk (Nat.le_refl _) gone⟩
/-- a call in the block raises: the error is the frame's -/
theorem Base.raises (b : Base X pins σ H3 s3 ce fp) (tk : Takes X W0) (hW : ∀ cls d H, E cls d H → W0 cls d σ H) {Q : Value → Shared → Prop} {acc : Value} {pins9 : List (Addr × Obj)} {σ9 : L2.St} {H9 : Hp} {s9 s' : Shared} {e : Value}
    (I : Inv (inn X s3 H3 scope ce fp xe) pins9 σ9 H9 s9) (cx : L2.CX X.prog X.w X.stack H9 s9 E e s') :
    notedBy (model X.prog X.w) X.A ce (fun e s' => Fin (model X.prog X.w) X.A X.xe Q acc s3.heap.objs.size X.env.frame (.error e) s') e s' := by
  obtain ⟨a, B, H', cls, d, rfl, fl, hok, ub, na, os, ag, hE⟩ := cx
  unfold notedBy
  rw [note_frame b.fr]
  rw [b.stk] at fl
  obtain ⟨m, ⟨oC, es, ep, hoC, rC⟩, _⟩ := I.loc
  have bC : B.get? ce.locals = some oC := ub.keep _ _ hoC I.free fun hb => b.frames _ hb rfl
  have dC : ∀ vs, oC.data ≠ .fields vs := fun vs z => by rw [rC.1] at z; cases z
  refine HandSPX.looks_onZ Zc.steady (by rw [← b.stk]; exact b.inv.ok.frames) b.own fl fun h1 hh up1 => ?_
  refine ⟨⟨m, oC, es, ep, by rw [← b.loc]; exact hh.1 _ _ bC, rC⟩, fun h' sb ce' fr' => ?_⟩
  rw [← b.loc] at sb
  obtain ⟨B0, b1, b2⟩ := restrict B fun x => decide (x ≠ ce.locals)
  have kB : ∀ x o, B0.get? x = some o → B.get? x = some o ∧ x ≠ ce.locals := fun x o q => by
    by_cases hx : x = ce.locals
    · rw [b2 x (by simp [hx])] at q; cases q
    · rw [b1 x (by simp [hx])] at q; exact ⟨q, hx⟩
  have held := (held_less hh kB sb ⟨oC, bC, dC⟩ (by rw [← b.stk]; exact b.frames)).1
  refine held_on (s := { s' with heap := h' }) held (fr'.trans b.own) fun h2 hh2 up2 => ?_
  refine tk _ _ (left (s' := s') (s'' := { s' with heap := h2 }) b.inv I (fun cls d H h => hW cls d H h) b.turns (Nat.le_of_eq b.loc.symm) hok ub na os ag hE rfl (fun x o q hnf hx => ?_) fun B' kB' => ?_)
  · obtain ⟨sl, q1⟩ := up1 x o q hnf
    obtain ⟨sl2, q2⟩ := up2 x _ (show h'.get? x = _ from (sb.2 x hx).trans q1) hnf
    exact ⟨sl2, q2⟩
  · have sub : ∀ x o, B'.get? x = some o → B0.get? x = some o := fun x o q => by
      obtain ⟨q1, q2⟩ := kB' x o q
      rw [b1 x (by simp [q2])]; exact q1
    obtain ⟨g1, g2, g3, g4⟩ := hh2
    have no : ∀ {x}, B0.get? x = none → B'.get? x = none := fun {x} n => by
      cases q : B'.get? x with
      | none => rfl
      | some o => rw [sub x o q] at n; cases n
    have stays : B'.StaysIn h2 := fun x o q => g1 x o (sub x o q)
    refine ⟨stays, .inr (.inr ?_)⟩
    rw [b.stk]
    obtain ⟨oe, vs, T', oT, ts, t1, t2, t3, t4, t5, t6, t7, t8, t9⟩ := g4
    refine ⟨stays, no g2, ?_, oe, vs, T', oT, ts, t1, t2, t3, t4, no t5, t6, t7, t8, t9⟩
    have all : ∀ l : List Env, h2.FunFrames B0 l → h2.FunFrames B' l := fun l => by
      induction l with
      | nil => exact fun _ => trivial
      | cons v r ih => exact fun ⟨y1, ⟨L', o, y2, y3, y4, y5⟩, y6⟩ => ⟨y1, ⟨L', o, y2, no y3, y4, y5⟩, ih y6⟩
    exact all _ g3
/-- the block between two turns -/
def Mid (X : Cx) (s3 : Shared) (H3 : Hp) (scope : Scope) (ce : Env) (fp : List Addr) (xe : Value → Shared → Prop) (σ0 : L2.St) (tn : Nat → Heap → Prop) (i : Nat) (H : Hp) (s : Shared) : Prop :=
  Inv (inn X s3 H3 scope ce fp xe) [] σ0 H s ∧ tn i s.heap ∧ ∀ b ∈ fp, H b = none
theorem Mid.ok {i : Nat} {H : Hp} {s : Shared} (m : Mid X s3 H3 scope ce fp xe σ0 tn i H s) : ∀ b ∈ fp, FpOk (inn X s3 H3 scope ce fp xe) [] H b := fun b hb => by
  obtain ⟨I, _, n⟩ := m
  obtain ⟨x1, x2⟩ := I.ok.exf b hb
  exact ⟨n b hb, x1, I.ok.exfs b hb, .inl hb, x2, fun p hp => by cases hp⟩
/-- one turn: the next item, its item of the new list -/
theorem Mid.turn {i : Nat} {H : Hp} {s : Shared} {vs : List Nat} {g : TG} {te : TE} {Nx : Hp → Prop} (m : Mid X s3 H3 scope ce fp xe (wipe σ vs) tn i H s) (T : Turn X.prog X.w X.K tg J fp it tn) (hc : X.calm = true) (go : J.go i H)
    (pg : PG (inn X s3 H3 scope ce fp xe) tg g) (pe : PE (inn X s3 H3 scope ce fp xe) elt te)
    (step : ∀ x H', J.yld i H x H' → g x (wipe σ vs) H' fun σ2 H2 => wipe σ2 vs = wipe σ vs ∧ te σ2 H2 fun y H4 => ∃ acc, H4 D = some (.lst acc) ∧ acc.length < sizeLine ∧ Nx (upd H4 D (.lst (acc ++ [y])))) :
    wpAny (model X.prog X.w) X.A (pyNext (.ref it)) (fun r s1 => ∃ v, r = some v ∧ wpAny (model X.prog X.w) X.A (letOwnedTupleGo tg (.ref it) v) (fun _ s2 => wpAny (model X.prog X.w) X.A (assign tg ce v) (fun _ s3' =>
      wpAny (model X.prog X.w) X.A (eval elt ce) (fun z s4 => wpAny (model X.prog X.w) X.A (call (.builtin "list.append") [.ref D, z]) (fun _ s5 => ∃ H', Nx H' ∧ Mid X s3 H3 scope ce fp xe (wipe σ vs) tn (i + 1) H' s5) xe s4) xe s3') xe s2) xe s1) xe s := by
  refine thn (T.item (inn X s3 H3 scope ce fp xe) rfl rfl rfl hc i [] s (wipe σ vs) H xe m.1 m.ok m.2.1 go) fun r s1 ⟨v, er, h1⟩ => ⟨v, er, ?_⟩
  refine thn h1 fun _ s2 ⟨x, H1, I1, rv, yl, t1, n1⟩ => ?_
  have m1 : Mid X s3 H3 scope ce fp xe (wipe σ vs) tn (i + 1) H1 s2 := ⟨I1, t1, n1⟩
  have P1 := I1.pinned m1.ok (T.obj _ _ t1)
  refine thn (pg.run _ s2 _ H1 x v _ P1 rv (step x H1 yl)) fun _ s4 ⟨σ2, H2, I2, w2, q2⟩ => ?_
  refine thn (pe.run _ s4 σ2 H2 _ I2 q2) fun z s5 ⟨y, H4, I4, ry, acc, a1, a2, nx⟩ => ?_
  refine app_ok (X := inn X s3 H3 scope ce fp xe) I4 a1 a2 ry fun s6 I6 => ⟨_, nx, ?_, ?_, ?_⟩
  · refine (I6.unpinned (pins := [])).weak (by rw [← w2, wipe_length]) fun j u e => ?_
    rw [← w2] at e
    exact (wipe_some e).1
  · refine T.keep _ _ _ t1 fun b hb o e => ?_
    exact (I6.pin (b, o) (List.mem_append_right _ (List.mem_append_right _ (mem_pinsAt hb e)))).1
  · intro b hb
    obtain ⟨o, e, _⟩ := T.obj _ _ t1 b hb
    exact (I6.pin (b, o) (List.mem_append_right _ (List.mem_append_right _ (mem_pinsAt hb e)))).2.1
end
section
variable {X : Cx}
/-- [f(..) for t in it] as a value -/
theorem pe_lcX {E : XK} {W0 : WX} {elt tg iter : Expr} {scope : Scope} {own : List (Str × Nat)} {pos : Pos} {wi : TI} {g : TG} {te : TE}
    (tk : Takes X W0) (hW : ∀ cls d σ H, E cls d H → W0 cls d σ H) (hst : X.stack = X.env :: X.outer) (hfr : X.env.frame = some X.env.locals)
    (hc : X.calm = true) (hN : X.N.Nodup) (hi : PI X tg iter wi) (ok : BlkOk X.N X.env.scope scope own)
    (hg : ∀ (s : Shared) (H : Hp) (C : Addr) (cl : List (Str × Addr)) (fp : List Addr) (xe : Value → Shared → Prop), PG (inn X s H scope (compEnvC scope cl C X.env) fp xe) tg g)
    (he : ∀ (s : Shared) (H : Hp) (C : Addr) (cl : List (Str × Addr)) (fp : List Addr) (xe : Value → Shared → Prop), Passes (L2.CX X.prog X.w) (inn X s H scope (compEnvC scope cl C X.env) fp xe) E → PE (inn X s H scope (compEnvC scope cl C X.env) fp xe) elt te)
    (hs : ∀ x, foldedSetIterable iter X.env x = pure x := by intro _; rfl) :
    PE X (.ListComp elt [⟨tg, iter, [], 0⟩] scope pos) (tLc wi g tYes te (own.map (·.2))) := by
  refine ⟨fun pins s σ H Q I h => ?_⟩
  rw [eval_ListComp]
  have cells : ∀ y ∈ scope.names, y.2 = .free → ∃ c, X.env.cells.lookup y.1 = some c := fun y hy e => I.ok.has _ ((ok.free y hy e).symm.elim .inr .inl)
  refine comp_fin (closure_ok cells) hs ok.kind (fun y hy e => by rw [ok.uniq y hy, e]) (thn (hi.run pins s σ H _ I h) fun xv s1 hx => thn hx fun itv s2 h2 => ?_)
  obtain ⟨it, fp, tn, J, H2, rfl, I2, T, t2, f2, q⟩ := h2
  refine wpAny_newObj_type (newEnv_comp ?_) (by show 0 ≤ sizeLine; decide)
  have hD : H2 s2.heap.objs.size = none := I2.hok.fresh (Nat.le_refl _)
  obtain ⟨W, ⟨m0, w0⟩, turn⟩ := q _ hD
  generalize eD : s2.heap.objs.size = D at *
  have lay : ∀ b o, s2.heap.get? b = some o → (s2.heap.push { cls := .type "list", data := .seq ([] : List Value).toArray }).get? b = some o := fun b o e => Heap.get?_push_of_some _ e
  have I3 : Inv X pins σ (upd H2 D (.lst [])) { s2 with heap := s2.heap.push { cls := .type "list", data := .seq ([] : List Value).toArray } } := by
    refine I2.laid (t' := s2.toks) lay (Nat.le_of_eq eD) ⟨Nat.zero_le _, [], 0, .nil, ?_⟩
    rw [← eD]; exact Heap.get?_push_size _ rfl
  have sz : (s2.heap.push { cls := .type "list", data := .seq ([] : List Value).toArray }).objs.size = s2.heap.objs.size + 1 := Heap.size_push ..
  have f3 : ∀ b ∈ fp, FpOk X pins (upd H2 D (.lst [])) b ∧ b < (s2.heap.push { cls := .type "list", data := .seq ([] : List Value).toArray }).objs.size := fun b hb => by
    obtain ⟨o, e, _⟩ := T.obj _ _ t2 b hb
    have lt := Heap.lt_size e
    exact ⟨⟨by rw [upd_ne (Nat.ne_of_lt (eD ▸ lt))]; exact (f2 b hb).1, (f2 b hb).2⟩, by rw [sz]; exact Nat.lt_succ_of_lt (eD ▸ lt)⟩
  have t3 := T.keep _ _ _ t2 fun b _ o e => lay b o e
  generalize es3 : ({ s2 with heap := s2.heap.push { cls := .type "list", data := .seq ([] : List Value).toArray } } : Shared) = s3 at *
  have h3 : s2.heap.push { cls := .type "list", data := .seq ([] : List Value).toArray } = s3.heap := by rw [← es3]
  rw [h3] at f3 t3
  have I4 := block_start I3 ok hN (hfp := f3)
  have tgt := hg s3 (upd H2 D (.lst [])) s3.heap.objs.size (cellsFrom (s3.heap.objs.size + 1) scope.names (cloFrom X.env.cells scope.names [])) fp
  have itm := he s3 (upd H2 D (.lst [])) s3.heap.objs.size (cellsFrom (s3.heap.objs.size + 1) scope.names (cloFrom X.env.cells scope.names [])) fp
  generalize ec : compEnvC scope (cellsFrom (s3.heap.objs.size + 1) scope.names (cloFrom X.env.cells scope.names [])) s3.heap.objs.size X.env = ce at I4 tgt itm
  have b : Base X pins σ (upd H2 D (.lst [])) s3 ce fp := ⟨I3, fun x hx => (f3 x hx).1, by rw [← ec]; rfl, by rw [← ec]; rfl, hst, hfr⟩
  show codeAny _ _ (.compStart (.ListComp elt [⟨tg, iter, [], 0⟩] scope pos) 0 (.ref it) (.ref D) (compEnvC scope (cellsFrom (s3.heap.objs.size + 1) scope.names (cloFrom X.env.cells scope.names [])) s3.heap.objs.size X.env)) (Fin (model X.prog X.w) X.A X.xe (EP X pins σ Q) (.ref D) s3.heap.objs.size X.env.frame) _
  rw [ec]
  have tgt := tgt (notedBy (model X.prog X.w) X.A ce fun e s' => Fin (model X.prog X.w) X.A X.xe (EP X pins σ Q) (.ref D) s3.heap.objs.size X.env.frame (.error e) s')
  have itm := itm (notedBy (model X.prog X.w) X.A ce fun e s' => Fin (model X.prog X.w) X.A X.xe (EP X pins σ Q) (.ref D) s3.heap.objs.size X.env.frame (.error e) s') fun _ _ _ _ _ _ I cx => b.raises tk (fun cls d H h => hW cls d σ H h) I cx
  have mid0 : Mid X s3 (upd H2 D (.lst [])) scope ce fp (notedBy (model X.prog X.w) X.A ce fun e s' => Fin (model X.prog X.w) X.A X.xe (EP X pins σ Q) (.ref D) s3.heap.objs.size X.env.frame (.error e) s') (wipe σ (own.map (·.2))) tn 0 (upd H2 D (.lst [])) { s3 with heap := pushCells (s3.heap.push { cls := .type "dict", data := .dict #[] }) scope.names } := by
    exact ⟨inn_of I4 _, T.keep _ _ _ t3 fun b _ o e => pushCells_keeps _ _ _ _ (Heap.get?_push_of_some _ e), fun x hx => (f3 x hx).1.1⟩
  generalize ex : (notedBy (model X.prog X.w) X.A ce fun e s' => Fin (model X.prog X.w) X.A X.xe (EP X pins σ Q) (.ref D) s3.heap.objs.size X.env.frame (.error e) s') = xb at tgt itm mid0
  generalize ({ s3 with heap := pushCells (s3.heap.push { cls := .type "dict", data := .dict #[] }) scope.names } : Shared) = s4 at mid0 ⊢
  have loop : codeAny (model X.prog X.w) X.A (.compLoop (.ListComp elt [⟨tg, iter, [], 0⟩] scope pos) 0 (.ref it) (.ref D) ce) (Fin (model X.prog X.w) X.A X.xe (EP X pins σ Q) (.ref D) s3.heap.objs.size X.env.frame) s4 := by
    refine compLoop_any (fun n s' => ∃ i H', Mid X s3 (upd H2 D (.lst [])) scope ce fp xb (wipe σ (own.map (·.2))) tn i H' s' ∧ W i n H') ?_ m0 ⟨0, _, mid0, w0⟩
    rw [ex]
    rintro n s' ⟨i, H', m, w⟩
    rcases turn i n H' w with ⟨stop, fine⟩ | ⟨go, Nx, lower, step⟩
    · refine thn (T.done (inn X s3 _ scope ce fp xb) rfl rfl rfl hc i [] s' _ H' xb m.1 m.ok m.2.1 stop) fun r s5 ⟨er, I5⟩ => ?_
      subst er
      obtain ⟨I6, ns, fpo⟩ := b.back I5
      obtain ⟨f0, f1, f2', f3', f4, f5⟩ := fpo
      exact ⟨ns, fun h'' sb => ⟨.ref D, H', I6.turned (t' := s5.toks) (fun x o hx e => (sb.2 x hx).trans e) f0 f1 f3' f4 f5, rfl, fine⟩⟩
    · refine thn (m.turn (D := D) (Nx := Nx) T hc go tgt itm fun x H1 yl => ?_) fun r s5 ⟨v, er, h5⟩ => ?_
      · have st := step x H1 yl
        exact st
      · subst er
        refine thn h5 fun _ s6 h6 => thn h6 fun _ s7 h7 => wpAny_tests_nil ?_
        rw [if_pos rfl]
        refine thn h7 fun z s8 h8 => thn h8 fun _ s9 ⟨H9, nx, m9⟩ => ?_
        obtain ⟨n', lt, w'⟩ := lower H9 nx
        exact ⟨n', lt, i + 1, H9, m9, w'⟩
  exact codeAny_compStart_list loop (T.self X.A 0 _ _ _ mid0.2.1 loop)
end
end LCX

set_option linter.all false
set_option maxHeartbeats 2000000
namespace GS
open PySem L2 HX
/-! ### a day's text by rows -/
theorem spl_few (s : Nat) : ∀ (l acc : List Nat), (TL.spl [s] 0 acc l).length ≤ l.length + 1
  | [], acc => by rw [TL.spl_nil]; exact Nat.le_refl 1
  | c :: r, acc => by
    by_cases h : c = s
    · have p : TL.pre [s] (c :: r) = true := by rw [h]; show ([s] == [s]) = true; exact beq_self_eq_true _
      rw [TL.spl_hit p, List.length_cons, List.length_cons]
      exact Nat.succ_le_succ (spl_few s r [])
    · rw [TL.spl_miss (TL.pre_of_head [] r h), List.length_cons]
      exact Nat.le_succ_of_le (spl_few s r _)
theorem spl_short (s : Nat) : ∀ (l acc : List Nat), ∀ x ∈ TL.spl [s] 0 acc l, x.length ≤ acc.length + l.length
  | [], acc => by rw [TL.spl_nil]; intro x hx; rw [List.mem_singleton.mp hx]; exact Nat.le_refl _
  | c :: r, acc => by
    intro x hx
    by_cases h : c = s
    · have p : TL.pre [s] (c :: r) = true := by rw [h]; show ([s] == [s]) = true; exact beq_self_eq_true _
      rw [TL.spl_hit p] at hx
      rcases List.mem_cons.mp hx with e | hx
      · rw [e]; exact Nat.le_add_right ..
      · have := spl_short s r [] x hx
        rw [List.length_cons]
        have e0 : ([] : List Nat).length = 0 := rfl
        omega
    · rw [TL.spl_miss (TL.pre_of_head [] r h)] at hx
      have := spl_short s r _ x hx
      rw [List.length_append] at this
      rw [List.length_cons]
      have e1 : [c].length = 1 := rfl
      omega
theorem spl_ne (s : Nat) (l acc : List Nat) : TL.spl [s] 0 acc l ≠ [] := by
  rw [spl_par]
  cases TL.par [s] acc l with
  | none => exact fun z => by cases z
  | some p => obtain ⟨a, b⟩ := p; exact fun z => by cases z
theorem par_short (s : Nat) : ∀ (l acc : List Nat) {a b : List Nat}, TL.par [s] acc l = some (a, b) → a.length ≤ acc.length + l.length ∧ b.length ≤ l.length
  | [], acc, a, b, h => by cases h
  | c :: r, acc, a, b, h => by
    by_cases hc : c = s
    · have p : TL.pre [s] (c :: r) = true := by rw [hc]; show ([s] == [s]) = true; exact beq_self_eq_true _
      rw [TL.par_hit p] at h
      obtain ⟨rfl, rfl⟩ := Prod.mk.inj (Option.some.inj h)
      exact ⟨Nat.le_add_right .., by rw [List.length_drop]; omega⟩
    · rw [TL.par_miss (TL.pre_of_head [] r hc)] at h
      obtain ⟨h1, h2⟩ := par_short s r _ h
      rw [List.length_append] at h1
      rw [List.length_cons]
      have e1 : [c].length = 1 := rfl
      exact ⟨by omega, by omega⟩
/-- a separator of one plain sign -/
structure Sep1 (y : Str) (s : Nat) : Prop where
  e : TL.tl y = [s]
  k : y.cps.all (· < 256) = true
theorem sep_sp : Sep1 " " 32 := ⟨by decide +kernel, by decide +kernel⟩
theorem sep_nl : Sep1 "\n" 10 := ⟨by decide +kernel, by decide +kernel⟩
theorem Sep1.ne {y : Str} {s : Nat} (h : Sep1 y s) : TL.tl y ≠ [] := by rw [h.e]; exact fun z => by cases z
theorem Sep1.split {y : Str} {s : Nat} (h : Sep1 y s) (x : Str) : (Txt.split x y).map TL.tl = TL.spl [s] 0 [] (TL.tl x) := by rw [TL.split_spl x y h.ne (TL.kind_ok h.k), h.e]
theorem Sep1.few {y : Str} {s : Nat} (h : Sep1 y s) (x : Str) : (Txt.split x y).length ≤ x.length + 1 := by
  have := spl_few s (TL.tl x) []
  rw [← h.split, List.length_map] at this
  rw [TL.len_tl]; exact this
theorem Sep1.short {y : Str} {s : Nat} (h : Sep1 y s) {x z : Str} (m : z ∈ Txt.split x y) : z.length ≤ x.length := by
  have := spl_short s (TL.tl x) [] (TL.tl z) (by rw [← h.split]; exact List.mem_map.mpr ⟨z, m, rfl⟩)
  rw [TL.len_tl, TL.len_tl]
  have e0 : ([] : List Nat).length = 0 := rfl
  omega
theorem Sep1.nonil {y : Str} {s : Nat} (h : Sep1 y s) (x : Str) : Txt.split x y ≠ [] := fun e => by
  have := h.split x
  rw [e] at this
  exact spl_ne s _ _ this.symm
theorem str_len_mk (l : List Nat) : (⟨l.toArray⟩ : Str).length = l.length := by simp [Str.length]
theorem Sep1.part {y : Str} {s : Nat} (h : Sep1 y s) (x : Str) : (Txt.partition x y).1.length ≤ x.length ∧ (Txt.partition x y).2.2.length ≤ x.length := by
  have e := TL.partition_par x y h.ne
  rw [h.e] at e
  cases q : TL.par [s] [] (TL.tl x) with
  | none =>
    rw [q] at e
    rw [e]
    exact ⟨Nat.le_refl _, Nat.zero_le _⟩
  | some p =>
    obtain ⟨a, b⟩ := p
    rw [q] at e
    rw [e]
    obtain ⟨h1, h2⟩ := par_short s _ _ q
    have e0 : ([] : List Nat).length = 0 := rfl
    exact ⟨by show (⟨a.toArray⟩ : Str).length ≤ _; rw [str_len_mk, TL.len_tl]; omega, by show (⟨b.toArray⟩ : Str).length ≤ _; rw [str_len_mk, TL.len_tl]; omega⟩
/-- the first word by partition is the first part of split -/
theorem Sep1.first {y : Str} {s : Nat} (h : Sep1 y s) (x : Str) : (Txt.split x y).head? = some (Txt.partition x y).1 := by
  have e := TL.partition_par x y h.ne
  have e2 := h.split x
  rw [spl_par] at e2
  rw [h.e] at e
  cases q : TL.par [s] [] (TL.tl x) with
  | none =>
    rw [q] at e e2
    have e2 : (Txt.split x y).map TL.tl = [[] ++ TL.tl x] := e2
    rw [e]
    cases z : Txt.split x y with
    | nil => rw [z] at e2; cases e2
    | cons a r =>
      rw [z] at e2
      have e3 : TL.tl a = [] ++ TL.tl x := (List.cons.inj e2).1
      rw [List.nil_append] at e3
      show some a = some x
      rw [TL.ext_tl e3]
  | some p =>
    obtain ⟨a, b⟩ := p
    rw [q] at e e2
    have e2 : (Txt.split x y).map TL.tl = a :: TL.spl [s] 0 [] b := e2
    rw [e]
    cases z : Txt.split x y with
    | nil => rw [z] at e2; cases e2
    | cons u r =>
      rw [z] at e2
      have e3 : TL.tl u = a := (List.cons.inj e2).1
      show some u = some (⟨a.toArray⟩ : Str)
      congr 1
      exact TL.ext_tl (by rw [e3])
def ones : List Str := ["come", "lose", "takeover", "beat", "checkpoint", "fall", "found", "known", "log", "dealings", "shown"]
def twos : List Str := ["rise", "arm", "turn"]
def noes : List Str := ["letters", "leaders"]
/-- how many numbers a word has -/
def numW (z : Str) : Option Nat := if z ∈ ones then some 1 else if z ∈ twos then some 2 else if z ∈ noes then some 0 else none
def parts1 (row : Str) : List Str := (Txt.split row " ").drop 1
def readDeed (row : Str) : Option De :=
  if (Txt.partition row " ").1 = "ask" then
    (if isNum (Txt.partition (Txt.partition row " ").2.2 " ").1 = true ∧ (Txt.partition (Txt.partition row " ").2.2 " ").2.2 ≠ "" then some ⟨"ask", [valN (Txt.partition (Txt.partition row " ").2.2 " ").1], (Txt.partition (Txt.partition row " ").2.2 " ").2.2⟩ else none)
  else match numW (Txt.partition row " ").1 with
    | none => none
    | some n => if (parts1 row).length = n ∧ (parts1 row).all isNum = true then some ⟨(Txt.partition row " ").1, (parts1 row).map valN, ""⟩ else none
theorem v_str {a b : Str} : decide (V.str a = V.str b) = decide (a = b) := by
  by_cases h : a = b
  · rw [h, decide_eq_true rfl, decide_eq_true rfl]
  · rw [decide_eq_false h, decide_eq_false]
    intro e
    injection e with e
    exact h e
theorem valN_lt {z : Str} (h : isNum z = true) : valN z < 10 ^ 12 := by
  obtain ⟨a, b, c, _⟩ := isNum_iff.mp h
  have key : ∀ l : List Nat, (∀ x ∈ l, 48 ≤ x ∧ x ≤ 57) → ∀ acc : Nat, l.foldl (fun acc c => acc * 10 + (c - 48)) acc < (acc + 1) * 10 ^ l.length := by
    intro l
    induction l with
    | nil => intro _ acc; simp
    | cons x l ih =>
      intro hl acc
      have hx := hl x (List.mem_cons_self ..)
      have := ih (fun y m => hl y (List.mem_cons_of_mem _ m)) (acc * 10 + (x - 48))
      rw [List.foldl_cons, List.length_cons, Nat.pow_succ]
      refine Nat.lt_of_lt_of_le this ?_
      rw [Nat.mul_comm (10 ^ l.length) 10, ← Nat.mul_assoc]
      exact Nat.mul_le_mul_right _ (by omega)
  have k := key z.cps.toList c 0
  have e : valN z = z.cps.toList.foldl (fun acc c => acc * 10 + (c - 48)) 0 := rfl
  rw [e]
  refine Nat.lt_of_lt_of_le k ?_
  rw [Nat.zero_add, Nat.one_mul]
  have lz : z.cps.toList.length ≤ 3 := by rw [Array.length_toList]; exact b
  exact Nat.le_trans (Nat.pow_le_pow_right (by decide) lz) (by decide)
end GS

set_option linter.all false
set_option maxHeartbeats 4000000
namespace GS
open PySem L2 HX
/-- the module's dict of how many numbers each word has -/
structure NumD (K : PySem.W.Frag) (w : World) (d : Addr) : Prop where
  D : ∃ es n, KDict K w d es n
  ns : ∀ z, ∃ r, PySem.W.nsIn K d z = some r ∧ (numW z = none → r = none) ∧ ∀ k, numW z = some k → ∃ u, r = some u ∧ RelV (.int (k : Int)) u
/-- what BadText must be -/
structure BtF (P : Program) (w : World) (K : PySem.W.Frag) (mg : Str → Option Value) (base : Heap) (CT fI : Addr) (fd : FuncData) : Prop where
  T : OexC K CT
  iC : PySem.W.findIn K (.ref CT) "__init__" = some (some (.ref fI))
  tI : PySem.W.typeIn K (.ref fI) = some (.type "function")
  G : FnOk P w K mg base CX0 1 fI fd ["self", "place"] (spBt K CT)
  b : KBn K fd ["self", "place"] 1 ["place"] (fun us ws => us ++ ws) (fun us ws => us ++ ws)
  g : mg "BadText" = some (.ref CT)
  np : PySem.W.findIn K (.ref CT) "place" = some none
def BadAt (CT : Addr) (H : Hp) (n : Nat) (E : XK) : Prop := ∀ (dx : Addr) (H' : Hp), H dx = none → H' dx = some (.xd [("place", .int n)]) → Same H H' → E (.ref CT) (some dx) H'
def spRd (K : PySem.W.Frag) (CT : Addr) : Sp := fun vs H Q E => ∃ (row : Str) (n : Nat), vs = [.str row, .int n] ∧ row.length ≤ 1000000 ∧ n < 10 ^ 12 ∧
  (∀ d, readDeed row = some d → ∀ v H', Same H H' → DeV K H' d v → Q v H') ∧ (readDeed row = none → BadAt CT H n E)
theorem cut1 (xs : List V) : cutV xs (some (1 : Int)) none = xs.drop 1 := by
  unfold cutV
  have e : HT.sIx xs.length 0 (some (1 : Int)) = min 1 xs.length := HT.sIx_nat xs.length 0 1
  rw [e]
  rw [show HT.sIx xs.length xs.length none = xs.length from rfl]
  by_cases h : 1 ≤ xs.length
  · rw [Nat.min_eq_left h]
    exact List.take_of_length_le (by rw [List.length_drop]; exact Nat.le_refl _)
  · have : xs = [] := List.length_eq_zero_iff.mp (by omega)
    rw [this]; rfl
theorem getMap {xs : List Str} {i : Nat} {y : V} (h : (xs.map V.str)[i]? = some y) : ∃ z, xs[i]? = some z ∧ y = V.str z := by
  rw [List.getElem?_map] at h
  cases e : xs[i]? with
  | none => rw [e] at h; cases h
  | some u => rw [e] at h; exact ⟨u, rfl, (Option.some.inj h).symm⟩
section
variable {P : Program} {w : World} {K : PySem.W.Frag} {mg : Str → Option Value} {base : Heap} {CT fI : Addr} {fdI : FuncData}
/-- raise BadText(place=place) is read -/
theorem bad_read {i : Nat} {σ : L2.St} {H : Hp} {n : Nat} {E : XK} {W : WX} (hi : σ[i]? = some (some (V.int n))) (hn : n < 10 ^ 12) (np : PySem.W.findIn K (.ref CT) "place" = some none) (h : BadAt CT H n E) (hW : ∀ cls d H', E cls d H' → W cls d σ H') :
    SIX.tMkW CT (spBt K CT) (fun us ws => us ++ ws) (tCons (tVar i) tNil) σ H (fun cls d H' => W cls d σ H') := by
  refine ⟨_, hi, by show 1 ≤ 1000; decide, fun a ha => ⟨rfl, a, n, rfl, hn, upd_same, np, fun dx h1 h2 => ⟨rfl, dx, _, upd_same, ?_, ?_, hW _ _ _ (h dx _ ?_ upd_same fun b o e => ?_)⟩⟩⟩
  · rw [upd_ne h2]; exact upd_same
  · rw [upd_ne h2] at h1; exact h1
  · rw [upd_ne h2] at h1; exact h1
  · have h1 : H dx = none := by rw [upd_ne h2] at h1; exact h1
    rw [upd_ne (ne_of_none e h1), del_ne (ne_of_none e ha), upd_ne (ne_of_none e ha), upd_ne (ne_of_none e h1), upd_ne (ne_of_none e ha)]
    exact e
theorem scRd : FnScope ["row", "place", "word", "_", "rest", "number", "text", "parts", "part"] ["row", "place"] (defScope s_read_deed) := ⟨rfl, rfl, rfl, by decide +kernel, rfl, by decide +kernel, by decide +kernel⟩
theorem ok_rd {f fn dN : Addr} {fd fdn : FuncData} (F : Fun K "read_deed" "read_deed" s_read_deed f fd) (T : Txt mg) (hall : mg "all" = none) (B : BtF P w K mg base CT fI fdI) (hN : mg "NUMBERS" = some (.ref dN)) (N : NumD K w dN) (Cn : Cal P w K mg base 2 "is_number" ["word"] spNum fn fdn) :
    FnOk P w K mg base (L2.CX P w) 3 f fd ["row", "place"] (spRd K CT) := by
  refine F.okX scRd (fun vs H Q E h => ?_) (fun cdv A outer s H vs Q E hr h => ?_)
  · obtain ⟨row, n, rfl, _⟩ := h
    rfl
  · obtain ⟨row, n, rfl, lr, hn, kg, kb⟩ := h
    have hr1 : Room 2 _ := hr
    obtain ⟨es, m, KD⟩ := N.D
    refine ⟨_, (pss_cons (ps_asg (pe_partition (pv 0) pe_str) (RK.pgTup (K := K) (n := 3) rfl (pgs_cons (pg_name (i := 2) scRd.nd rfl (Or.inl rfl)) (pgs_cons (pg_name (i := 3) scRd.nd rfl (Or.inl rfl)) (pgs_cons (pg_name (i := 4) scRd.nd rfl (Or.inl rfl)) pgs_nil)))))
      (pss_cons (ps_if (pt_cmpR op_eq (pv 2) pe_str (nomark _)) (pss_cons (ps_asg (pe_partition (pv 4) pe_str) (RK.pgTup (K := K) (n := 3) rfl (pgs_cons (pg_name (i := 5) scRd.nd rfl (Or.inl rfl)) (pgs_cons (pg_name (i := 3) scRd.nd rfl (Or.inl rfl)) (pgs_cons (pg_name (i := 6) scRd.nd rfl (Or.inl rfl)) pgs_nil)))))
        (pss_cons (ps_if (PW.pt (pw_or (pt_not (pt_val (pe_call Cn.G hr1 (by rfl) Cn.g Cn.kp Cn.b .nil pass0 (pa_cons (pv 5) pa_nil)))) (pw_or1 (pt_cmpR op_eq (pv 6) pe_str (nomark _))))) (pss_one (ps_raise rfl (takes_of rfl rfl rfl rfl) (SIX.pmk_words B.T B.iC B.tI B.G (hr1.mono (by decide)) B.b pass0 (by rfl) B.g (pk_cons (pv 1) pk_nil)))) pss_nil)
        (pss_one (ps_ret (pe_tup (pa_cons pe_str (pa_cons (pe_tup (pa_cons (pe_callTy call_int_str (by rfl) T.int (by decide +kernel) (pa_cons (pv 5) pa_nil)) pa_nil)) (pa_cons (pv 6) pa_nil)))))))) pss_nil)
      (pss_cons (ps_set (i := 7) scRd.nd rfl (Or.inl rfl) (pe_slice (RK.slL (K := K)) (pe_split (pv 0) pe_str) (po_some pe_int) po_none))
      (pss_cons (ps_if (PW.pt (pw_or (pt_cmpR (op_notIn_kd KD) (pv 2) (pe_glob (v := .ref dN) (by rfl) hN rfl) (by rfl)) (pw_or (pt_cmpR op_ne (pe_callB (RK.lenQ (K := K)) (by rfl) T.len PySem.boot_len (pa_cons (pv 7) pa_nil)) (pe_ix ix_kdict (pe_glob (v := .ref dN) (by rfl) hN rfl) (pv 2) (fun _ _ => rfl)) (nomark _)) (pw_or1 (pt_not (pt_val (pe_callB (RK.allQ (K := K) rfl) (by rfl) hall (by decide +kernel) (pa_cons (pe_lc (own := [("part", 8)]) rfl scRd.nd (RK.piL (K := K) (pv 7)) (blkOk_by (N := ["row", "place", "word", "_", "rest", "number", "text", "parts", "part"]) (sc := defScope s_read_deed) (by decide +kernel)) (fun _ _ _ _ _ => (pg_name (i := 8) scRd.nd rfl (Or.inl rfl))) (fun _ _ _ _ _ => pts_nil) (fun _ _ _ _ _ => (pe_call Cn.G hr1 (by rfl) Cn.g Cn.kp Cn.b .nil pass0 (pa_cons (pv 8) pa_nil)))) pa_nil)))))))) (pss_one (ps_raise rfl (takes_of rfl rfl rfl rfl) (SIX.pmk_words B.T B.iC B.tI B.G (hr1.mono (by decide)) B.b pass0 (by rfl) B.g (pk_cons (pv 1) pk_nil)))) pss_nil)
      (pss_one (ps_ret (pe_tup (pa_cons (pv 2) (pa_cons (pe_callTy (RK.tupQ (K := K)) (by rfl) T.tuple (by decide +kernel) (pa_cons (pe_lc (own := [("part", 8)]) rfl scRd.nd (RK.piL (K := K) (pv 7)) (blkOk_by (N := ["row", "place", "word", "_", "rest", "number", "text", "parts", "part"]) (sc := defScope s_read_deed) (by decide +kernel)) (fun _ _ _ _ _ => (pg_name (i := 8) scRd.nd rfl (Or.inl rfl))) (fun _ _ _ _ _ => pts_nil) (fun _ _ _ _ _ => (pe_callTy call_int_str (by rfl) T.int (by decide +kernel) (pa_cons (pv 8) pa_nil)))) pa_nil)) (pa_cons pe_str pa_nil)))))))))), ?_⟩
    have big : (2000000 : Nat) < sizeLine := by decide
    have lw := sep_sp.part row
    have lw2 := sep_sp.part (Txt.partition row " ").2.2
    have okp := (fun (z : Str) => sep_sp.short (x := row) (z := z))
    have few := sep_sp.few row
    refine sa1 ⟨_, rfl, ⟨_, rfl⟩, row, _, rfl, rfl, by decide +kernel, by omega, fun p hp => ⟨p, _, rfl, SqT.of upd_same, rfl, _, _, rfl, gn ⟨_, _, rfl, gn ⟨_, _, rfl, gn ⟨rfl, ?_⟩⟩⟩⟩⟩
    refine at_stD (σ' := [some (.str row), some (.int n), some (.str (Txt.partition row " ").1), some (.str (Txt.partition row " ").2.1), some (.str (Txt.partition row " ").2.2), none, none, none, none]) rfl ?_
    have s1 := same_new (o := .tup [.str (Txt.partition row " ").1, .str (Txt.partition row " ").2.1, .str (Txt.partition row " ").2.2]) hp
    generalize upd H p (.tup [.str (Txt.partition row " ").1, .str (Txt.partition row " ").2.1, .str (Txt.partition row " ").2.2]) = H1 at s1 ⊢
    refine sif ⟨_, rfl, rfl, _, rfl, ?_⟩
    rw [v_str]
    cases c1 : decide ((Txt.partition row " ").1 = "ask") with
    | true =>
      have c1 := of_decide_eq_true c1
      refine iteT ?_
      refine sa1 ⟨_, rfl, ⟨_, rfl⟩, _, _, rfl, rfl, by decide +kernel, by omega, fun p2 hp2 => ⟨p2, _, rfl, SqT.of upd_same, rfl, _, _, rfl, gn ⟨_, _, rfl, gn ⟨_, _, rfl, gn ⟨rfl, ?_⟩⟩⟩⟩⟩
      refine at_stD (σ' := [some (.str row), some (.int n), some (.str (Txt.partition row " ").1), some (.str (Txt.partition (Txt.partition row " ").2.2 " ").2.1), some (.str (Txt.partition row " ").2.2), some (.str (Txt.partition (Txt.partition row " ").2.2 " ").1), some (.str (Txt.partition (Txt.partition row " ").2.2 " ").2.2), none, none]) rfl ?_
      have s2 := s1.trans (same_new (o := .tup [.str (Txt.partition (Txt.partition row " ").2.2 " ").1, .str (Txt.partition (Txt.partition row " ").2.2 " ").2.1, .str (Txt.partition (Txt.partition row " ").2.2 " ").2.2]) hp2)
      generalize upd H1 p2 (.tup [.str (Txt.partition (Txt.partition row " ").2.2 " ").1, .str (Txt.partition (Txt.partition row " ").2.2 " ").2.1, .str (Txt.partition (Txt.partition row " ").2.2 " ").2.2]) = H2 at s2 ⊢
      have rdn : readDeed row = if isNum (Txt.partition (Txt.partition row " ").2.2 " ").1 = true ∧ (Txt.partition (Txt.partition row " ").2.2 " ").2.2 ≠ "" then some ⟨"ask", [valN (Txt.partition (Txt.partition row " ").2.2 " ").1], (Txt.partition (Txt.partition row " ").2.2 " ").2.2⟩ else none := by unfold readDeed; rw [if_pos c1]
      have bad : readDeed row = none → ∀ {H3 : Hp} {σ : L2.St}, σ[1]? = some (some (V.int n)) → Same H H3 → SIX.tMkW CT (spBt K CT) (fun us ws => us ++ ws) (tCons (tVar 1) tNil) σ H3 (fun cls d H' => E cls d H') := fun z H3 σ hi sm =>
        bad_read (W := fun cls d _ H => E cls d H) hi hn B.np (fun dx H' a b c => kb z dx H' (none_of_same sm a) b (sm.trans c)) fun _ _ _ q => q
      refine sif ⟨_, rfl, _, rfl, by omega, fun H3 s3 => ⟨_, rfl, ?_⟩⟩
      have s4 := s2.trans s3
      cases c2 : isNum (Txt.partition (Txt.partition row " ").2.2 " ").1 with
      | false =>
        refine iteT ?_
        exact bad (by rw [rdn, if_neg (fun z => by rw [c2] at z; cases z.1)]) rfl s4
      | true =>
        refine iteF ⟨_, rfl, rfl, _, rfl, ?_⟩
        rw [v_str]
        cases c3 : decide ((Txt.partition (Txt.partition row " ").2.2 " ").2.2 = "") with
        | true =>
          refine iteT ?_
          exact bad (by rw [rdn, if_neg (fun z => z.2 (of_decide_eq_true c3))]) rfl s4
        | false =>
          refine iteF ?_
          dsimp only [tNext]
          have nl : (Txt.partition (Txt.partition row " ").2.2 " ").1.length ≤ 3 := (isNum_iff.mp c2).2.1
          refine ⟨_, rfl, _, _, rfl, num_int c2, by omega, by show 1 ≤ sizeLine; decide, fun q hq => ⟨_, rfl, by show 3 ≤ sizeLine; decide, fun v hv => ?_⟩⟩
          have s5 := same_new (o := .tup [.int (valN (Txt.partition (Txt.partition row " ").2.2 " ").1 : Nat)]) hq
          have e5 : (upd H3 q (.tup [.int (valN (Txt.partition (Txt.partition row " ").2.2 " ").1 : Nat)])) q = some (.tup [.int (valN (Txt.partition (Txt.partition row " ").2.2 " ").1 : Nat)]) := upd_same
          have s6 := same_new (o := .tup [.str "ask", .ref q, .str (Txt.partition (Txt.partition row " ").2.2 " ").2.2]) hv
          exact kg ⟨"ask", [valN (Txt.partition (Txt.partition row " ").2.2 " ").1], (Txt.partition (Txt.partition row " ").2.2 " ").2.2⟩ (by rw [rdn, if_pos ⟨c2, of_decide_eq_false c3⟩]) _ _ (s4.trans (s5.trans s6)) ⟨v, q, rfl, SqT.of upd_same, SqT.of (s6 _ _ e5)⟩
    | false =>
      have c1 := of_decide_eq_false c1
      refine iteF ?_
      dsimp only [tNext]
      have rdn : readDeed row = match numW (Txt.partition row " ").1 with | none => none | some n => if (parts1 row).length = n ∧ (parts1 row).all isNum = true then some ⟨(Txt.partition row " ").1, (parts1 row).map valN, ""⟩ else none := by unfold readDeed; rw [if_neg c1] <;> rfl
      have bad : readDeed row = none → ∀ {H3 : Hp} {σ : L2.St}, σ[1]? = some (some (V.int n)) → Same H H3 → SIX.tMkW CT (spBt K CT) (fun us ws => us ++ ws) (tCons (tVar 1) tNil) σ H3 (fun cls d H' => E cls d H') := fun z H3 σ hi sm =>
        bad_read (W := fun cls d _ H => E cls d H) hi hn B.np (fun dx H' a b c => kb z dx H' (none_of_same sm a) b (sm.trans c)) fun _ _ _ q => q
      refine sa1 ⟨_, rfl, ⟨_, rfl⟩, row, _, rfl, rfl, by decide +kernel, by omega, fun p2 hp2 => ⟨1, rfl, p2, _, rfl, SqL.of upd_same, fun p3 hp3 => gn ?_⟩⟩
      rw [cut1, ← List.map_drop] at *
      have e3 : (upd (upd H1 p2 (.lst ((Txt.split row " ").map V.str))) p3 (.lst ((parts1 row).map V.str))) p3 = some (.lst ((parts1 row).map V.str)) := upd_same
      have s3 := s1.trans ((same_new (o := .lst ((Txt.split row " ").map V.str)) hp2).trans (same_new (o := .lst ((parts1 row).map V.str)) hp3))
      change tSeq _ _ _ _ (upd (upd H1 p2 (.lst ((Txt.split row " ").map V.str))) p3 (.lst ((parts1 row).map V.str)))
      generalize upd (upd H1 p2 (.lst ((Txt.split row " ").map V.str))) p3 (.lst ((parts1 row).map V.str)) = H3 at e3 s3 ⊢
      refine at_stD (σ' := [some (.str row), some (.int n), some (.str (Txt.partition row " ").1), some (.str (Txt.partition row " ").2.1), some (.str (Txt.partition row " ").2.2), none, none, some (.ref p3), none]) rfl ?_
      obtain ⟨r, hr1', hr2, hr3⟩ := N.ns (Txt.partition row " ").1
      refine sif ⟨_, rfl, _, r, rfl, rfl, hr1', _, rfl, ?_⟩
      cases c4 : numW (Txt.partition row " ").1 with
      | none =>
        rw [hr2 c4]
        refine iteT ?_
        exact bad (by rw [rdn, c4]) rfl s3
      | some k =>
        obtain ⟨u, eu, ru⟩ := hr3 k c4
        rw [c4] at rdn
        have rdn : readDeed row = if (parts1 row).length = k ∧ (parts1 row).all isNum = true then some ⟨(Txt.partition row " ").1, (parts1 row).map valN, ""⟩ else none := rdn
        rw [eu] at hr1' ⊢
        refine iteF ?_
        refine ⟨_, rfl, p3, _, rfl, .inl (SqL.of e3), _, rfl, dN, _, .int (k : Int), rfl, rfl, ⟨es, m, u, KD.at_, KD.lit, hr1', ru⟩, rfl, _, rfl, ?_⟩
        have el : (!decide (V.int (((parts1 row).map V.str).length : Nat) = V.int (k : Int))) = !decide ((parts1 row).length = k) := by
          rw [v_int, List.length_map]
          congr 1
          exact decide_eq_decide.mpr (by omega)
        rw [el]
        cases c5 : decide ((parts1 row).length = k) with
        | false =>
          refine iteT ?_
          exact bad (by rw [rdn, if_neg (fun z => of_decide_eq_false c5 z.1)]) rfl s3
        | true =>
          refine iteF ?_
          have fewp : (parts1 row).length ≤ 1000001 := by unfold parts1; rw [List.length_drop]; omega
          have lenp : ∀ z ∈ parts1 row, z.length ≤ 1000000 := fun z hz => Nat.le_trans (okp z (List.mem_of_mem_drop hz)) lr
          refine ⟨_, rfl, p3, rfl, ⟨_, SqL.of e3⟩, fun D hD => ?_⟩
          refine lc_it (walk_list (xs := (parts1 row).map V.str)) (fun i H' => (∀ b o, b ≠ D → H3 b = some o → H' b = some o) ∧ H' D = some (.lst (((parts1 row).take i).map fun z => V.bl (isNum z))))
            ⟨fun b o n e => by rw [upd_ne n]; exact e, upd_same⟩ (fun i H' _ z => SqL.of (z.1 _ _ (ne_of_none e3 hD) e3)) ?_ ?_
          · rintro i y H0 H' hi ⟨kp, hd⟩ ⟨rfl, ey⟩
            obtain ⟨z, ez, rfl⟩ := getMap ey
            have tk : (parts1 row).take (i + 1) = (parts1 row).take i ++ [z] := by rw [List.take_add_one, ez] <;> rfl
            refine ⟨rfl, _, rfl, z, rfl, Nat.le_trans (lenp z (List.mem_of_getElem? ez)) (by omega), fun H2 s2 => ⟨_, s2 _ _ hd, by rw [List.length_map, List.length_take]; omega, fun b o n e => by rw [upd_ne n]; exact s2 _ _ (kp b o n e), ?_⟩⟩
            rw [upd_same, tk, List.map_append]; rfl
          rintro H4 ⟨kp, hd⟩
          rw [List.length_map, List.take_length] at hd
          have s4 : Same H3 H4 := fun b o e => kp b o (ne_of_none e hD) e
          have hd : H4 D = some (.lst (((parts1 row).map isNum).map V.bl)) := by rw [hd, List.map_map]; rfl
          refine ⟨D, _, rfl, SqL.of hd, _, rfl, ?_⟩
          have al : ((parts1 row).map isNum).all id = (parts1 row).all isNum := by rw [List.all_map]; rfl
          rw [al]
          cases c6 : (parts1 row).all isNum with
          | false =>
            refine iteT ?_
            exact bad (by rw [rdn, if_neg (fun z => by rw [c6] at z; cases z.2)]) rfl (s3.trans s4)
          | true =>
            refine iteF ?_
            dsimp only [tNext]
            have nb : ∀ z ∈ parts1 row, isNum z = true := List.all_eq_true.mp c6
            have s5 := s3.trans s4
            have e5 := s4 _ _ e3
            refine ⟨_, rfl, ⟨_, rfl, p3, rfl, ⟨_, SqL.of e5⟩, fun D2 hD2 => ?_⟩⟩
            refine lc_it (walk_list (xs := (parts1 row).map V.str)) (fun i H' => (∀ b o, b ≠ D2 → H4 b = some o → H' b = some o) ∧ H' D2 = some (.lst (((parts1 row).take i).map fun z => V.int (valN z : Nat))))
              ⟨fun b o n e => by rw [upd_ne n]; exact e, upd_same⟩ (fun i H' _ z => SqL.of (z.1 _ _ (ne_of_none e5 hD2) e5)) ?_ ?_
            · rintro i y H0 H' hi ⟨kp, hd⟩ ⟨rfl, ey⟩
              obtain ⟨z, ez, rfl⟩ := getMap ey
              have zn := nb z (List.mem_of_getElem? ez)
              have tk : (parts1 row).take (i + 1) = (parts1 row).take i ++ [z] := by rw [List.take_add_one, ez] <;> rfl
              refine ⟨rfl, _, rfl, z, _, rfl, num_int zn, Nat.le_trans (isNum_iff.mp zn).2.1 (by decide), _, hd, by rw [List.length_map, List.length_take]; omega, fun b o n e => by rw [upd_ne n]; exact kp b o n e, ?_⟩
              rw [upd_same, tk, List.map_append]; rfl
            rintro H5 ⟨kp, hd⟩
            rw [List.length_map, List.take_length] at hd
            have s6 : Same H4 H5 := fun b o e => kp b o (ne_of_none e hD2) e
            have hd : H5 D2 = some (.lst (((parts1 row).map valN).map fun n : Nat => V.int (n : Int))) := by rw [hd, List.map_map]; rfl
            refine ⟨D2, _, rfl, .inl ⟨SqL.of hd, fun q hq => ⟨by show 3 ≤ sizeLine; decide, fun v hv => ?_⟩⟩⟩
            have s7 := same_new (o := .tup (((parts1 row).map valN).map fun n : Nat => V.int (n : Int))) hq
            have e7 : (upd H5 q (.tup (((parts1 row).map valN).map fun n : Nat => V.int (n : Int)))) q = some (.tup (((parts1 row).map valN).map fun n : Nat => V.int (n : Int))) := upd_same
            have s8 := same_new (o := .tup [.str (Txt.partition row " ").1, .ref q, .str ""]) hv
            exact kg ⟨(Txt.partition row " ").1, (parts1 row).map valN, ""⟩ (by rw [rdn, if_pos ⟨of_decide_eq_true c5, c6⟩]) _ _ ((s5.trans s6).trans (s7.trans s8)) ⟨v, q, rfl, SqT.of upd_same, SqT.of (s8 _ _ e7)⟩
end
end GS

set_option linter.all false
set_option maxHeartbeats 4000000
namespace GS
open PySem L2 HX
def rowsOf (t : Str) : List Str := if t = "" then [] else Txt.split t "\n"
theorem sqt_lst {K : PySem.W.Frag} {H : Hp} {p D : Addr} {xs ys : List V} {o : HO} (h : SqT K H p xs) (hD : H D = some (.lst ys)) : SqT K (upd H D o) p xs :=
  h.imp (fun z => z.elim (fun z => .inl ((upd_ne (ne_of z hD (by intro z; cases z))).trans z)) fun ⟨ob, z⟩ => .inr ⟨ob, (upd_ne (ne_of z hD (by intro z; cases z))).trans z⟩) id
theorem DeV.lst {K : PySem.W.Frag} {H : Hp} {d : De} {v : V} {D : Addr} {ys : List V} {o : HO} (h : DeV K H d v) (hD : H D = some (.lst ys)) : DeV K (upd H D o) d v := by
  obtain ⟨p, q, e, a, b⟩ := h
  exact ⟨p, q, e, sqt_lst a hD, sqt_lst b hD⟩
theorem rowsOf_few (t : Str) : (rowsOf t).length ≤ t.length + 1 := by
  unfold rowsOf
  split
  · exact Nat.zero_le _
  · exact sep_nl.few t
theorem rowsOf_short {t z : Str} (h : z ∈ rowsOf t) : z.length ≤ t.length := by
  unfold rowsOf at h
  split at h
  · cases h
  · exact sep_nl.short h
def spRy (K : PySem.W.Frag) (CT : Addr) : Sp := fun vs H Q E => ∃ t : Str, vs = [.str t] ∧ t.length ≤ 100000 ∧
  (∀ ds, (rowsOf t).map readDeed = ds.map some → ∀ l us H', H l = none → Same H H' → H' l = some (.lst us) → Paired (DeV K H') ds us → Q (.ref l) H') ∧
  (∀ i row, (rowsOf t)[i]? = some row → readDeed row = none → (∀ j r, j < i → (rowsOf t)[j]? = some r → readDeed r ≠ none) → BadAt CT H i E)
section
variable {P : Program} {w : World} {K : PySem.W.Frag} {mg : Str → Option Value} {base : Heap} {CT : Addr}
theorem scRy : FnScope ["text", "place", "row"] ["text"] (defScope s_read_day) := ⟨rfl, rfl, rfl, by decide +kernel, rfl, by decide +kernel, by decide +kernel⟩
theorem ok_ry {f fr : Addr} {fd fdr : FuncData} (F : Fun K "read_day" "read_day" s_read_day f fd) (T : Txt mg) (hen : mg "enumerate" = none) (gR : mg "read_deed" = some (.ref fr)) (kR : PySem.W.keepIn K (.ref fr) = true) (bR : Binds K fdr ["row", "place"] []) (GR : FnOk P w K mg base (L2.CX P w) 3 fr fdr ["row", "place"] (spRd K CT)) :
    FnOk P w K mg base (L2.CX P w) 4 f fd ["text"] (spRy K CT) := by
  refine F.okX scRy (fun vs H Q E h => ?_) (fun cdv A outer s H vs Q E hr h => ?_)
  · obtain ⟨t, rfl, _⟩ := h
    rfl
  · obtain ⟨t, rfl, lt, kg, kb⟩ := h
    have hr1 : Room 3 _ := hr
    refine ⟨_, (pss_cons (ps_if (pt_cmpR op_eq (pv 0) pe_str (nomark _)) (pss_one (ps_ret (pe_lst pa_nil))) pss_nil)
      (pss_one (ps_ret (LCX.pe_lcX (E := E) (W0 := fun cls d _ H => E cls d H) (own := [("place", 1), ("row", 2)]) (takes_of rfl rfl rfl rfl) (fun _ _ _ _ h => h) rfl rfl rfl scRy.nd (pi_enum (by rfl) hen (pa_cons (pe_split (pv 0) pe_str) pa_nil)) (blkOk_by (N := ["text", "place", "row"]) (sc := defScope s_read_day) (by decide +kernel)) (fun _ _ _ _ _ _ => (RK.pgTup (K := K) (n := 2) rfl (pgs_cons (pg_name (i := 1) scRy.nd rfl (Or.inl rfl)) (pgs_cons (pg_name (i := 2) scRy.nd rfl (Or.inl rfl)) pgs_nil)))) (fun _ _ _ _ _ _ hp => (pe_call GR hr1 (by rfl) gR kR bR .nil hp (pa_cons (pv 2) (pa_cons (pv 1) pa_nil)))))))), ?_⟩
    refine sif ⟨_, rfl, rfl, _, rfl, ?_⟩
    rw [v_str]
    cases c1 : decide (t = "") with
    | true =>
      have e : rowsOf t = [] := if_pos (of_decide_eq_true c1)
      refine iteT ⟨by show 0 ≤ sizeLine; decide, fun l hl => ?_⟩
      exact kg [] (by rw [e]; rfl) l [] _ hl (same_new hl) upd_same .nil
    | false =>
      have e : rowsOf t = Txt.split t "\n" := if_neg (of_decide_eq_false c1)
      refine iteF ?_
      dsimp only [tNext]
      have big : (2000000 : Nat) < sizeLine := by decide
      refine ⟨_, rfl, ⟨_, rfl⟩, t, _, rfl, rfl, by decide +kernel, by omega, fun p hp => ⟨p, _, rfl, SqL.of upd_same, fun D hD => ?_⟩⟩
      rw [← e] at hD ⊢
      have s0 := same_new (o := .lst ((rowsOf t).map V.str)) hp
      have e0 : (upd H p (.lst ((rowsOf t).map V.str))) p = some (.lst ((rowsOf t).map V.str)) := upd_same
      generalize upd H p (.lst ((rowsOf t).map V.str)) = H1 at s0 e0 hD ⊢
      have few := rowsOf_few t
      refine lc_it (walk_enum (xs := (rowsOf t).map V.str)) (fun i H' => (∀ b o, b ≠ D → H1 b = some o → H' b = some o) ∧ ∃ ds us, ((rowsOf t).take i).map readDeed = ds.map some ∧ H' D = some (.lst us) ∧ Paired (DeV K H') ds us)
        ⟨fun b o n e => by rw [upd_ne n]; exact e, [], [], rfl, upd_same, .nil⟩ (fun i H' _ z => SqL.of (z.1 _ _ (ne_of_none e0 hD) e0)) ?_ ?_
      · rintro i y H0 H' hi ⟨kp, ds, us, em, hd, pw⟩ ⟨T, x, z, rfl, nT, rfl, ex, ez⟩
        obtain rfl : V.int (i : Nat) = x := Option.some.inj ex
        obtain ⟨row, er, rfl⟩ := getMap ez
        have tk : (rowsOf t).take (i + 1) = (rowsOf t).take i ++ [row] := by rw [List.take_add_one, er] <;> rfl
        have lds : ds.length = i := by
          have := congrArg List.length em
          rw [List.length_map, List.length_map, List.length_take] at this
          rw [List.length_map] at hi
          omega
        rw [List.length_map] at hi
        refine ⟨T, _, rfl, SqT.of upd_same, rfl, _, _, rfl, gn ⟨_, _, rfl, gn ⟨rfl, rfl, ?_⟩⟩⟩
        have sT := same_new (o := .tup [.int (i : Nat), .str row]) nT
        generalize upd H0 T (.tup [.int (i : Nat), .str row]) = H2 at sT ⊢
        have sD : ∀ b o, b ≠ D → H1 b = some o → H2 b = some o := fun b o n e => sT _ _ (kp b o n e)
        refine ⟨_, rfl, _, rfl, row, i, rfl, Nat.le_trans (rowsOf_short (List.mem_of_getElem? er)) (by omega), by omega, fun d ed v H3 s3 dv => ?_, fun bad => ?_⟩
        · have hd3 := s3 _ _ (sT _ _ hd)
          have s03 := sT.trans s3
          have lu := pw_len pw
          refine ⟨us, hd3, by omega, fun b o n e => by rw [upd_ne n]; exact s3 _ _ (sD b o n e), ds ++ [d], us ++ [v], ?_, upd_same, ?_⟩
          · rw [tk, List.map_append, em, List.map_append, List.map_singleton, ed]; rfl
          · exact pw_app (pw_imp (fun _ _ h => (h.same s03).lst hd3) pw) (.cons (dv.lst hd3) .nil)
        · have hH : ∀ b o, H b = some o → H2 b = some o := fun b o e => sD b o (ne_of_none (s0 _ _ e) hD) (s0 _ _ e)
          refine fun dx H' n1 e1 sm => kb i row er bad (fun j r hj ej z => ?_) dx H' (none_of_same hH n1) e1 (Same.trans hH sm)
          have q : (((rowsOf t).take i).map readDeed)[j]? = some (readDeed r) := by rw [List.getElem?_map, List.getElem?_take_of_lt hj, ej]; rfl
          rw [em, List.getElem?_map, z] at q
          cases w : ds[j]? with
          | none => rw [w] at q; cases q
          | some d => rw [w] at q; cases q
      · rintro H' ⟨kp, ds, us, em, hd, pw⟩
        rw [List.length_map, List.take_length] at em
        have hDn : H D = none := none_of_same s0 hD
        exact kg ds em D us H' hDn (fun b o e => kp b o (ne_of_none (s0 _ _ e) hD) (s0 _ _ e)) hd pw
end
end GS

set_option linter.all false
set_option maxHeartbeats 4000000
namespace NE
open PySem PySem.Spec PyProof.Rows L2 HT
variable {X : Cx}
/-- xs != [] -/
def rNe0 (K : PySem.W.Frag) : R2 := fun x y H Q => ∃ a b xs, x = .ref a ∧ y = .ref b ∧ SqL K H a xs ∧ H b = some (.lst []) ∧ Q (.bl (!xs.isEmpty)) H
theorem op_ne0 {K : PySem.W.Frag} (hu : X.A.units + 2 < cLine) (hK : X.K = K := by rfl) : OpR X (compareOp .NotEq) (rNe0 K) := by
  subst hK
  intro pins s σ H x y v u Q I rx ry h
  obtain ⟨a, b, xs, rfl, rfl, ha, hb, q⟩ := h
  obtain rfl : v = Value.ref a := rx
  obtain rfl : u = Value.ref b := ry
  obtain ⟨its, r, hl, _⟩ := I.list ha
  obtain ⟨its2, r2, hl2, _⟩ := I.list (SqL.of hb)
  cases r2
  cases xs with
  | nil =>
    cases r
    exact (SeqAt.RcNeAt.lists hl.isList hl2.isList rfl (by omega) (e := fun _ => true) (fun j h1 => absurd h1 (by simp))) X.prog X.w _ _ ⟨.bl false, H, I, rfl, q⟩
  | cons x xs =>
    cases r
    exact (SeqAt.RcNeAt.lists_lengths hl.isList hl2.isList (by simp) (by omega)) X.prog X.w _ _ ⟨.bl true, H, I, rfl, q⟩
end NE

set_option linter.all false
set_option maxHeartbeats 4000000
namespace EQL
open PySem PySem.Spec PyProof.Rows L2 HT
variable {X : Cx}
/-- xs == [] -/
def rEq0L (K : PySem.W.Frag) : R2 := fun x y H Q => ∃ a b xs, x = .ref a ∧ y = .ref b ∧ SqL K H a xs ∧ H b = some (.lst []) ∧ Q (.bl xs.isEmpty) H
theorem op_eq0L {K : PySem.W.Frag} (hu : X.A.units + 2 < cLine) (hK : X.K = K := by rfl) : OpR X (compareOp .Eq) (rEq0L K) := by
  subst hK
  intro pins s σ H x y v u Q I rx ry h
  obtain ⟨a, b, xs, rfl, rfl, ha, hb, q⟩ := h
  obtain rfl : v = Value.ref a := rx
  obtain rfl : u = Value.ref b := ry
  obtain ⟨its, r, hl, _⟩ := I.list ha
  obtain ⟨its2, r2, hl2, _⟩ := I.list (SqL.of hb)
  cases r2
  cases xs with
  | nil =>
    cases r
    exact (SeqAt.RcAt.lists hl.isList hl2.isList rfl (by omega) (e := fun _ => true) (fun j h1 => absurd h1 (by simp))) X.prog X.w _ _ ⟨.bl true, H, I, rfl, q⟩
  | cons x xs =>
    cases r
    exact (SeqAt.RcAt.lists_lengths hl.isList hl2.isList (by simp) (by omega)) X.prog X.w _ _ ⟨.bl false, H, I, rfl, q⟩
end EQL

set_option linter.all false
set_option maxHeartbeats 4000000
namespace GS
open PySem L2 HX
theorem akT {K : PySem.W.Frag} {H : Hp} {a : Addr} {xs : List V} (h : SqT K H a xs) : TyX K H (.ref a) (.type "tuple") := by
  rcases h with (h | ⟨o, h⟩) | ⟨o, its, n, h, c, _⟩
  · exact .base (.tup h)
  · exact .fTuple h
  · exact .kTuple h c
theorem akL {K : PySem.W.Frag} {H : Hp} {a : Addr} {xs : List V} (h : SqL K H a xs) : TyX K H (.ref a) (.type "list") := by
  rcases h with (h | ⟨o, h⟩) | ⟨o, its, n, h, c, _⟩
  · exact .base (.lst h)
  · exact .base (.frz h)
  · exact .kList h c
def akLeaf : V → Bool
  | .non => true
  | .int _ => true
  | .str _ => true
  | _ => false
/-- two that are alike, n deep (the law's form by a tuple of kinds) -/
def Ak (K : PySem.W.Frag) (H : Hp) : Nat → V → V → Prop
  | 0, v, w => v = w ∧ akLeaf v = true
  | n + 1, v, w => (v = w ∧ akLeaf v = true) ∨ ∃ (a b : Addr) (xs ys : List V), v = .ref a ∧ w = .ref b ∧ ((SqT K H a xs ∧ SqT K H b ys) ∨ (SqL K H a xs ∧ SqL K H b ys)) ∧ xs.length ≤ 100000 ∧ Paired (Ak K H n) xs ys
theorem ak_sqT {K : PySem.W.Frag} {H H' : Hp} {p : Addr} {xs : List V} (k : Same H H') (h : SqT K H p xs) : SqT K H' p xs := h.imp (fun z => z.elim (fun z => .inl (k _ _ z)) fun ⟨o, z⟩ => .inr ⟨o, k _ _ z⟩) id
theorem ak_sqL {K : PySem.W.Frag} {H H' : Hp} {p : Addr} {xs : List V} (k : Same H H') (h : SqL K H p xs) : SqL K H' p xs := h.imp (fun z => z.elim (fun z => .inl (k _ _ z)) fun ⟨o, z⟩ => .inr ⟨o, k _ _ z⟩) id
theorem Ak.up {K : PySem.W.Frag} {H H' : Hp} (s : Same H H') : ∀ {n : Nat} {v w : V}, Ak K H n v w → Ak K H' n v w
  | 0, _, _, h => h
  | n + 1, _, _, h => by
    rcases h with h | ⟨a, b, xs, ys, e1, e2, h3, h4, h5⟩
    · exact .inl h
    · refine .inr ⟨a, b, xs, ys, e1, e2, ?_, h4, pw_imp (fun _ _ q => Ak.up s q) h5⟩
      rcases h3 with ⟨x, y⟩ | ⟨x, y⟩
      · exact .inl ⟨ak_sqT s x, ak_sqT s y⟩
      · exact .inr ⟨ak_sqL s x, ak_sqL s y⟩
def spAk (K : PySem.W.Frag) (n : Nat) : Sp := fun vs H Q _ => ∃ v w, vs = [v, w] ∧ Ak K H n v w ∧ ∀ H', Same H H' → Q (.bl true) H'
theorem ak_both {α β : Type} {R : α → β → Prop} : ∀ {xs : List α} {ys : List β} {i : Nat}, Paired R xs ys → i < xs.length → ∃ x y, xs[i]? = some x ∧ ys[i]? = some y ∧ R x y
  | _, _, 0, .cons h _, _ => ⟨_, _, rfl, rfl, h⟩
  | _, _, i + 1, .cons _ r, l => ak_both (i := i) r (by rw [List.length_cons] at l; omega)
section
variable {P : Program} {w : World} {K : PySem.W.Frag} {mg : Str → Option Value} {base : Heap}
theorem scAk : FnScope ["_law_found", "_law_due", "_law_k"] ["_law_found", "_law_due"] (defScope s_l_alike) := ⟨rfl, rfl, rfl, by decide +kernel, rfl, by decide +kernel, by decide +kernel⟩
theorem ok_ak {n j : Nat} {f : Addr} {fd : FuncData} (F : Fun K "_law_alike" "_law_alike" s_l_alike f fd) (T : Txt mg) (Calike : ∀ m, n = m + 1 → Cal P w K mg base j "_law_alike" ["_law_found", "_law_due"] (spAk K m) f fd) : FnOk P w K mg base CX0 (j + 1) f fd ["_law_found", "_law_due"] (spAk K n) := by
  have kI : PySem.W.kitOne K (.type "int") (.type "int") = some true := by unfold PySem.W.kitOne; rw [if_pos (by decide)]
  have kS : PySem.W.kitOne K (.type "str") (.type "str") = some true := by unfold PySem.W.kitOne; rw [if_pos (by decide)]
  have kT : PySem.W.kitOne K (.type "tuple") (.type "tuple") = some true := by unfold PySem.W.kitOne; rw [if_pos (by decide)]
  have kL : PySem.W.kitOne K (.type "list") (.type "list") = some true := by unfold PySem.W.kitOne; rw [if_pos (by decide)]
  have kIb : PySem.W.kitOne K (.type "int") (.type "bool") = some false := by first | rfl | decide +kernel
  have kIs : PySem.W.kitOne K (.type "int") (.type "str") = some false := by first | rfl | decide +kernel
  have kIt : PySem.W.kitOne K (.type "int") (.type "tuple") = some false := by first | rfl | decide +kernel
  have kIl : PySem.W.kitOne K (.type "int") (.type "list") = some false := by first | rfl | decide +kernel
  have kSt : PySem.W.kitOne K (.type "str") (.type "tuple") = some false := by first | rfl | decide +kernel
  have kSl : PySem.W.kitOne K (.type "str") (.type "list") = some false := by first | rfl | decide +kernel
  have kNs : PySem.W.kitOne K (.type "NoneType") (.type "str") = some false := by first | rfl | decide +kernel
  have kNt : PySem.W.kitOne K (.type "NoneType") (.type "tuple") = some false := by first | rfl | decide +kernel
  have kNl : PySem.W.kitOne K (.type "NoneType") (.type "list") = some false := by first | rfl | decide +kernel
  have kTl : PySem.W.kitOne K (.type "tuple") (.type "list") = some false := by first | rfl | decide +kernel
  have kLt : PySem.W.kitOne K (.type "list") (.type "tuple") = some false := by first | rfl | decide +kernel
  have aI : PySem.W.kitAny K (.type "int") [.type "tuple", .type "list"] = some false := by unfold PySem.W.kitAny; rw [kIt]; dsimp only; unfold PySem.W.kitAny; rw [kIl]; rfl
  have aS : PySem.W.kitAny K (.type "str") [.type "tuple", .type "list"] = some false := by unfold PySem.W.kitAny; rw [kSt]; dsimp only; unfold PySem.W.kitAny; rw [kSl]; rfl
  have aN : PySem.W.kitAny K (.type "NoneType") [.type "tuple", .type "list"] = some false := by unfold PySem.W.kitAny; rw [kNt]; dsimp only; unfold PySem.W.kitAny; rw [kNl]; rfl
  have aT : PySem.W.kitAny K (.type "tuple") [.type "tuple", .type "list"] = some true := by unfold PySem.W.kitAny; rw [kT]
  have aL : PySem.W.kitAny K (.type "list") [.type "tuple", .type "list"] = some true := by unfold PySem.W.kitAny; rw [kLt]; dsimp only; unfold PySem.W.kitAny; rw [kL]
  have cls : Paired ClsV [.ty "tuple", .ty "list"] [.type "tuple", .type "list"] := .cons (.ty _) (.cons (.ty _) .nil)
  refine F.ok scAk (fun vs H Q E h => ?_) (fun cdv A outer s H vs Q E hr h => ?_)
  · obtain ⟨v, w, rfl, _⟩ := h
    rfl
  · obtain ⟨v, w', rfl, al, k⟩ := h
    have hr1 : Room j _ := hr
    have leafCase : (v = w' ∧ akLeaf v = true) → ∃ t, PSs (cxOf CX0 P w K mg base ["_law_found", "_law_due", "_law_k"] "_law_alike" (defScope s_l_alike) f cdv A outer s H E).nox (defBody s_l_alike) t ∧ t { nx := fun _ H' => Q .non H', rt := Q } (L2.start ["_law_found", "_law_due", "_law_k"] [v, w']) H := by
      rintro ⟨rfl, hl⟩
      refine ⟨_, (pss_cons (ps_if (pt_val (pe_callB (RK.isiT (K := K)) (by rfl) T.isinstance (by decide +kernel) (pa_cons (pv 1) (pa_cons (pe_tup (pa_cons (pe_bltn (v := .ty "tuple") (u := .type "tuple") (by rfl) T.tuple (by decide +kernel) rfl) (pa_cons (pe_bltn (v := .ty "list") (u := .type "list") (by rfl) T.list (by decide +kernel) rfl) pa_nil))) pa_nil)))) (pss_cons ps_never (pss_cons ps_never (pss_one ps_never))) pss_nil)
        (pss_cons (ps_if (PW.pt (pw_or (pt_cmpR op_isN (pv 1) pe_non (nomark _)) (pw_or1 (pt_val (pe_callB (RK.isi (K := K)) (by rfl) T.isinstance (by decide +kernel) (pa_cons (pv 1) (pa_cons (pe_bltn (v := .ty "str") (u := .type "str") (by rfl) T.str (by decide +kernel) rfl) pa_nil))))))) (pss_one (ps_ret (pe_and (pe_cmpR op_eq (pv 0) (pv 1) (nomark _)) (pe_one (pe_cmpR op_eq (pe_callB (RK.isi (K := K)) (by rfl) T.isinstance (by decide +kernel) (pa_cons (pv 0) (pa_cons (pe_bltn (v := .ty "str") (u := .type "str") (by rfl) T.str (by decide +kernel) rfl) pa_nil))) (pe_callB (RK.isi (K := K)) (by rfl) T.isinstance (by decide +kernel) (pa_cons (pv 1) (pa_cons (pe_bltn (v := .ty "str") (u := .type "str") (by rfl) T.str (by decide +kernel) rfl) pa_nil))) (nomark _)))))) pss_nil)
        (pss_one (ps_ret (pe_and (pe_callB (RK.isi (K := K)) (by rfl) T.isinstance (by decide +kernel) (pa_cons (pv 0) (pa_cons (pe_bltn (v := .ty "int") (u := .type "int") (by rfl) T.int (by decide +kernel) rfl) pa_nil))) (pe_and (pe_cmpR op_eq (pe_callB (RK.isi (K := K)) (by rfl) T.isinstance (by decide +kernel) (pa_cons (pv 0) (pa_cons (pe_bltn (v := .ty "bool") (u := .type "bool") (by rfl) T.bool (by decide +kernel) rfl) pa_nil))) (pe_callB (RK.isi (K := K)) (by rfl) T.isinstance (by decide +kernel) (pa_cons (pv 1) (pa_cons (pe_bltn (v := .ty "bool") (u := .type "bool") (by rfl) T.bool (by decide +kernel) rfl) pa_nil))) (nomark _)) (pe_one (pe_cmpR op_eq (pv 0) (pv 1) (nomark _))))))))), ?_⟩
      cases v with
      | non =>
        refine sif ⟨_, rfl, by show 2 ≤ sizeLine; decide, fun p hp => ⟨_, p, _, _, _, false, rfl, upd_same, cls, .base .non, aN, _, rfl, iteF ?_⟩⟩
        dsimp only [tNext]
        have sm := same_new (o := .tup [.ty "tuple", .ty "list"]) hp
        refine sif ⟨_, rfl, rfl, _, rfl, iteT ?_⟩
        refine ⟨_, rfl, _, rfl, rfl, ?_⟩
        refine ⟨_, rfl, ?_⟩
        rw [decide_eq_true rfl]
        refine iteT ⟨_, rfl, _, _, _, _, false, rfl, .ty "str", .base .non, kNs, _, rfl, _, _, _, _, false, rfl, .ty "str", .base .non, kNs, rfl, k _ sm⟩
      | int i =>
        refine sif ⟨_, rfl, by show 2 ≤ sizeLine; decide, fun p hp => ⟨_, p, _, _, _, false, rfl, upd_same, cls, .base (.int i), aI, _, rfl, iteF ?_⟩⟩
        dsimp only [tNext]
        have sm := same_new (o := .tup [.ty "tuple", .ty "list"]) hp
        refine sif ⟨_, rfl, rfl, _, rfl, iteF ?_⟩
        refine ⟨_, rfl, _, _, _, _, false, rfl, .ty "str", .base (.int i), kIs, _, rfl, iteF ?_⟩
        dsimp only [tNext]
        refine ⟨_, rfl, _, _, _, _, true, rfl, .ty "int", .base (.int i), kI, _, rfl, iteT ?_⟩
        refine ⟨_, rfl, _, _, _, _, false, rfl, .ty "bool", .base (.int i), kIb, _, rfl, _, _, _, _, false, rfl, .ty "bool", .base (.int i), kIb, rfl, ?_⟩
        refine ⟨_, rfl, iteT ?_⟩
        refine ⟨_, rfl, _, rfl, rfl, ?_⟩
        rw [decide_eq_true rfl]
        exact k _ sm
      | str x =>
        refine sif ⟨_, rfl, by show 2 ≤ sizeLine; decide, fun p hp => ⟨_, p, _, _, _, false, rfl, upd_same, cls, .base (.str x), aS, _, rfl, iteF ?_⟩⟩
        dsimp only [tNext]
        have sm := same_new (o := .tup [.ty "tuple", .ty "list"]) hp
        refine sif ⟨_, rfl, rfl, _, rfl, iteF ?_⟩
        refine ⟨_, rfl, _, _, _, _, true, rfl, .ty "str", .base (.str x), kS, _, rfl, iteT ?_⟩
        refine ⟨_, rfl, _, rfl, rfl, ?_⟩
        refine ⟨_, rfl, ?_⟩
        rw [decide_eq_true rfl]
        refine iteT ⟨_, rfl, _, _, _, _, true, rfl, .ty "str", .base (.str x), kS, _, rfl, _, _, _, _, true, rfl, .ty "str", .base (.str x), kS, rfl, k _ sm⟩
      | _ => cases hl
    cases n with
    | zero => exact leafCase al
    | succ m =>
      rcases al with al | ⟨a, b, xs, ys, rfl, rfl, kind, few, pw⟩
      · exact leafCase al
      have Ca := Calike m rfl
      have len := pw_len pw
      have tl2 : ∀ {b : Addr} {H' : Hp}, (SqL K H b ys ∨ SqT K H b ys) → Same H H' → (SqL K H' b ys ∨ SqT K H' b ys) := fun h s => h.imp (ak_sqL s) (ak_sqT s)
      have tl1 : ∀ {b : Addr} {H' : Hp}, (SqL K H b xs ∨ SqT K H b xs) → Same H H' → (SqL K H' b xs ∨ SqT K H' b xs) := fun h s => h.imp (ak_sqL s) (ak_sqT s)
      have both : (SqL K H a xs ∨ SqT K H a xs) ∧ (SqL K H b ys ∨ SqT K H b ys) := kind.elim (fun z => ⟨.inr z.1, .inr z.2⟩) fun z => ⟨.inl z.1, .inl z.2⟩
      obtain ⟨hX, hY⟩ := both
      obtain ⟨t, ca, tyA, tyB, cl, bl, kl⟩ : ∃ (t : Value) (ca : PySem.W.kitAny K t [.type "tuple", .type "list"] = some true) (_ : ∀ H', Same H H' → TyX K H' (.ref a) t) (_ : ∀ H', Same H H' → TyX K H' (.ref b) t) (_ : True) (bl : Bool), PySem.W.kitOne K t (.type "list") = some bl :=
        kind.elim (fun z => ⟨_, aT, fun _ s => akT (ak_sqT s z.1), fun _ s => akT (ak_sqT s z.2), trivial, false, kTl⟩) fun z => ⟨_, aL, fun _ s => akL (ak_sqL s z.1), fun _ s => akL (ak_sqL s z.2), trivial, true, kL⟩
      refine ⟨_, (pss_cons (ps_if (pt_val (pe_callB (RK.isiT (K := K)) (by rfl) T.isinstance (by decide +kernel) (pa_cons (pv 1) (pa_cons (pe_tup (pa_cons (pe_bltn (v := .ty "tuple") (u := .type "tuple") (by rfl) T.tuple (by decide +kernel) rfl) (pa_cons (pe_bltn (v := .ty "list") (u := .type "list") (by rfl) T.list (by decide +kernel) rfl) pa_nil))) pa_nil)))) (pss_cons (ps_if (PW.pt (pw_or (pt_not (pt_val (pe_callB (RK.isiT (K := K)) (by rfl) T.isinstance (by decide +kernel) (pa_cons (pv 0) (pa_cons (pe_tup (pa_cons (pe_bltn (v := .ty "tuple") (u := .type "tuple") (by rfl) T.tuple (by decide +kernel) rfl) (pa_cons (pe_bltn (v := .ty "list") (u := .type "list") (by rfl) T.list (by decide +kernel) rfl) pa_nil))) pa_nil))))) (pw_or1 (pt_cmpR op_ne (pe_callB (RK.isi (K := K)) (by rfl) T.isinstance (by decide +kernel) (pa_cons (pv 0) (pa_cons (pe_bltn (v := .ty "list") (u := .type "list") (by rfl) T.list (by decide +kernel) rfl) pa_nil))) (pe_callB (RK.isi (K := K)) (by rfl) T.isinstance (by decide +kernel) (pa_cons (pv 1) (pa_cons (pe_bltn (v := .ty "list") (u := .type "list") (by rfl) T.list (by decide +kernel) rfl) pa_nil))) (nomark _))))) (pss_one (ps_ret pe_bl)) pss_nil)
        (pss_cons (ps_if (pt_cmpR op_ne (pe_callB (RK.lenQ (K := K)) (by rfl) T.len PySem.boot_len (pa_cons (pv 0) pa_nil)) (pe_callB (RK.lenQ (K := K)) (by rfl) T.len PySem.boot_len (pa_cons (pv 1) pa_nil)) (nomark _)) (pss_one (ps_ret pe_bl)) pss_nil)
        (pss_one (ps_ret (pe_cmpR (EQL.op_eq0L (K := K) (by have z := hr.units; exact Nat.lt_of_le_of_lt (Nat.add_le_add_left (by decide) _) z)) (pe_lc (own := [("_law_k", 2)]) rfl scAk.nd (pi_range1 rfl T.range (pa_cons (pe_callB (RK.lenQ (K := K)) (by rfl) T.len PySem.boot_len (pa_cons (pv 1) pa_nil)) pa_nil)) (blkOk_by (N := ["_law_found", "_law_due", "_law_k"]) (sc := defScope s_l_alike) (by decide +kernel)) (fun _ _ _ _ _ => (pg_name (i := 2) scAk.nd rfl (Or.inl rfl))) (fun _ _ _ _ _ => (pts_one (pt_not (pt_val (pe_call Ca.G hr1 (by rfl) Ca.g Ca.kp Ca.b .nil pass0 (pa_cons (pe_ix (RK.ixQ (K := K)) (pv 0) (pv 2) (fun _ _ => rfl)) (pa_cons (pe_ix (RK.ixQ (K := K)) (pv 1) (pv 2) (fun _ _ => rfl)) pa_nil))))))) (fun _ _ _ _ _ => (pv 2))) (pe_lst pa_nil) (nomark _)))))) pss_nil)
        (pss_cons ps_never (pss_one ps_never))), ?_⟩
      refine sif ⟨_, rfl, by show 2 ≤ sizeLine; decide, fun p hp => ⟨_, p, _, _, _, true, rfl, upd_same, cls, tyB _ (same_new hp), ca, _, rfl, iteT ?_⟩⟩
      have s1 := same_new (o := .tup [.ty "tuple", .ty "list"]) hp
      generalize upd H p (.tup [.ty "tuple", .ty "list"]) = H1 at s1 ⊢
      refine sif ⟨_, rfl, by show 2 ≤ sizeLine; decide, fun p2 hp2 => ⟨_, p2, _, _, _, true, rfl, upd_same, cls, tyA _ (s1.trans (same_new hp2)), ca, _, rfl, iteF ?_⟩⟩
      have s2 := s1.trans (same_new (o := .tup [.ty "tuple", .ty "list"]) hp2)
      generalize upd H1 p2 (.tup [.ty "tuple", .ty "list"]) = H2 at s2 ⊢
      refine ⟨_, rfl, _, _, _, _, bl, rfl, .ty "list", tyA _ s2, kl, _, rfl, _, _, _, _, bl, rfl, .ty "list", tyB _ s2, kl, rfl, _, rfl, ?_⟩
      rw [show (!decide (V.bl bl = V.bl bl)) = false by simp]
      refine iteF ?_
      dsimp only [tNext]
      refine sif ⟨_, rfl, a, xs, rfl, tl1 hX s2, _, rfl, b, ys, rfl, tl2 hY s2, rfl, _, rfl, ?_⟩
      rw [len, show (!decide (V.int (ys.length : Nat) = V.int (ys.length : Nat))) = false by simp]
      refine iteF ?_
      dsimp only [tNext]
      have big : (100000 : Nat) < sizeLine := by decide
      refine ⟨_, rfl, b, ys, rfl, tl2 hY s2, _, rfl, by omega, by omega, fun D hD => ?_⟩
      refine lc_it (walk_range (lo := 0) (n := ((ys.length : Nat) : Int).toNat)) (fun i H' => (∀ b o, b ≠ D → H2 b = some o → H' b = some o) ∧ H' D = some (.lst []))
        ⟨fun b o n e => by rw [upd_ne n]; exact e, upd_same⟩ (fun i H' _ z => trivial) ?_ ?_
      · rintro i y H0 H' hi ⟨kp, hd⟩ ⟨rfl, rfl⟩
        have li : i < xs.length := by have hi : i < ys.length := by omega
                                      omega
        obtain ⟨x, y, ex, ey, al⟩ := ak_both pw li
        have z0 : (0 : Int) + ((i : Nat) : Int) = ((i : Nat) : Int) := by omega
        have sm : Same H H' := fun b o e => kp b o (ne_of_none (s2 _ _ e) hD) (s2 _ _ e)
        refine gn ⟨rfl, ?_⟩
        have ixd : ∀ {p : Addr} {zs : List V} {z : V} {H' : Hp} {Q : VK}, (SqL K H' p zs ∨ SqT K H' p zs) → zs[i]? = some z → Q z H' → rIx K (.ref p) (.int (0 + (i : Nat))) H' Q := fun {p zs z H' Q} h e q =>
          h.elim (fun h => .inl ⟨p, zs, _, z, rfl, rfl, h, by rw [z0]; exact atI_nat e, q⟩) fun h => .inr (.inl ⟨p, zs, _, z, rfl, rfl, h, by rw [z0]; exact atI_nat e, q⟩)
        refine ⟨_, rfl, _, rfl, ixd (tl1 hX sm) ex ⟨_, rfl, _, rfl, ixd (tl2 hY sm) ey ⟨x, y, rfl, al.up sm, fun H3 s3 => ⟨_, rfl, iteF ?_⟩⟩⟩⟩
        exact ⟨fun b o n e => s3 _ _ (kp b o n e), s3 _ _ hd⟩
      · rintro H' ⟨kp, hd⟩
        have sm : Same H2 H' := fun b o e => kp b o (ne_of_none e hD) e
        refine ⟨by show 0 ≤ sizeLine; decide, fun l hl => ⟨D, l, [], rfl, rfl, SqL.of ?_, upd_same, k _ (s2.trans (sm.trans (same_new hl)))⟩⟩
        exact same_new hl _ _ hd
end
end GS

set_option linter.all false
set_option maxHeartbeats 4000000
namespace TH
open PySem PySem.Spec PyProof.Rows L2
/-- isinstance(e, c) in a suite, e an own error with a dict of its own -/
def rIsD (K : PySem.W.Frag) (a : Addr) (cls : Value) (d : Option Addr) : List V → Hp → VK → Prop := fun xs H Q => ∃ (D dd : Addr) (fs : List (Str × V)) (c : V) (cv : Value) (b : Bool), cls = .ref D ∧ d = some dd ∧ H dd = some (.xd fs) ∧ ExcC K D ∧ xs = [.ref a, c] ∧ (∀ u, RelV c u → u = cv) ∧ PySem.W.kitOne K (.ref D) cv = some b ∧ Q (.bl b) H
theorem call_isD {X : Cx} {a : Addr} {oe : Obj} {cls : Value} {d : Option Addr} {pn : List (Addr × Obj)} (hz : Zc cls d oe) (hf : ∃ vs, oe.data = .fields vs) {K : PySem.W.Frag} (h : X.K = K := by rfl) : CallR (X.suite a ((a, oe) :: pn)) (.builtin "isinstance") (rIsD K a cls d) := by
  subst h
  intro pins s σ H xs us Q I r h
  obtain ⟨D, dd, fs, c, cv, b, rfl, rfl, hdd, C, rfl, hcv, e, q⟩ := h
  obtain ⟨u1, u2, rfl, r1, r2⟩ := vals2 r
  obtain rfl : u1 = Value.ref a := r1
  obtain rfl : u2 = cv := hcv _ r2
  obtain ⟨at_, _⟩ := I.pin (a, oe) (List.mem_append_left _ List.mem_cons_self)
  obtain ⟨mA, ns, _⟩ : ObjOk X.prog X.w H s.heap dd (.xd fs) := I.hok dd _ hdd
  obtain ⟨od, ho, _⟩ := lookIn_ns ns
  obtain ⟨vs, hv⟩ := hf
  have J : PySem.W.InstAt s.heap a oe D (some od) := ⟨at_, hz.1, by unfold PySem.W.notCls; rw [hv] <;> rfl, by rw [hz.2]; exact ho⟩
  have hcl : (PySem.W.clsIn X.K D).isSome = true := by
    obtain ⟨cd, hc, _⟩ := PySem.W.any_some C.hd
    rw [hc]; rfl
  exact PySem.W.kia_one (PySem.W.kitx_exc hcl C.hg C.hk C.hs C.ha C.hn C.ht C.hm) I.kIn J e (fun z => nomatch z) fun tk => ⟨.bl b, H, I.kept (t' := tk) fun _ _ z => z, rfl, q⟩
end TH
namespace GS
open PySem L2 HX
/-- BadText, caught -/
structure PlF (K : PySem.W.Frag) (mg : Str → Option Value) (CT CS : Addr) : Prop where
  ex : ExcC K CT
  xf : XfC K CT
  st : PySem.W.exmOne K (.ref CT) (.ref CT) = some true
  k1 : PySem.W.kitOne K (.ref CT) (.ref CS) = some true
  k2 : PySem.W.kitOne K (.ref CT) (.type "ValueError") = some true
  np : PySem.W.findIn K (.ref CT) "place" = some none
  g : mg "BadText" = some (.ref CT)
  gS : mg "StoreError" = some (.ref CS)
  ve : mg "ValueError" = none
def spPl (P : Program) (w : World) (K : PySem.W.Frag) (mg : Str → Option Value) (base : Heap) (k : Nat) (CT : Addr) : Sp := fun vs H Q _ => ∃ f T Eb, vs = [.ref f] ∧ TH.Thunk P w K mg base k H f T ∧ (∀ Qb : VK, (∀ v H1, Q (.int (-1)) H1 → Qb v H1) → T H Qb Eb) ∧
  ∀ cls d H1, Eb cls d H1 → ∃ (n : Nat) (dx : Addr), cls = .ref CT ∧ d = some dx ∧ H1 dx = some (.xd [("place", .int n)]) ∧ Q (.int n) H1
section
variable {P : Program} {w : World} {K : PySem.W.Frag} {mg : Str → Option Value} {base : Heap} {CT CS : Addr}
theorem scPl : FnScope ["_law_call", "e"] ["_law_call"] (defScope s_l_place) := ⟨rfl, rfl, rfl, by decide +kernel, rfl, by decide +kernel, by decide +kernel⟩
theorem ok_pl {k : Nat} {f : Addr} {fd : FuncData} (F : Fun K "_law_place" "_law_place" s_l_place f fd) (T : Txt mg) (B : PlF K mg CT CS) : FnOk P w K mg base CX0 (k + 1) f fd ["_law_call"] (spPl P w K mg base k CT) := by
  refine F.ok scPl (fun vs H Q E h => ?_) (fun cdv A outer s H vs Q E hr h => ?_)
  · obtain ⟨f, T, Eb, rfl, _⟩ := h
    rfl
  · obtain ⟨f', TT, Eb, rfl, th, q, hE⟩ := h
    have hr1 : Room k _ := hr
    refine ⟨_, (pss_cons (ps_try_as (i := 1) rfl rfl scPl.nd rfl rfl ⟨by rfl, by decide, .inl B.g⟩ takes0 (fun W pn xe tk _ => pss_one (ps_expr (TH.pe_thunkE (P := P) (w := w) (K := K) (mg := mg) (base := base) (i := 0) (k := k) tk hr1 rfl (.inl rfl))))
        (fun a oe cls d pn hz hf => pss_one (ps_ret (pe_ifExp (PW.pt (pw_and (pt_val (pe_callB (TH.call_isD (K := K) hz hf) (by rfl) T.isinstance (by decide +kernel) (pa_cons (pv 1) (pa_cons (pe_glob (v := .ref CS) (by rfl) B.gS rfl) pa_nil)))) (pw_and1 (pt_val (pe_callB (TH.call_isD (K := K) hz hf) (by rfl) T.isinstance (by decide +kernel) (pa_cons (pv 1) (pa_cons (pe_bltn (v := .ty "ValueError") (u := .type "ValueError") (by rfl) B.ve (by decide +kernel) rfl) pa_nil))))))) (pe_xf (C := CT) B.xf B.np hz hf (pv 1)) (pe_un un_neg pe_int)))))
      (pss_one (ps_ret (pe_un un_neg pe_int)))), ?_⟩
    refine ⟨f', TT, Eb, rfl, th, ?_, fun cls d H1 he => ?_⟩
    · exact q _ fun _ H1 z => ⟨1, rfl, z⟩
    · obtain ⟨n, dx, rfl, rfl, hd, k1⟩ := hE cls d H1 he
      refine ⟨true, B.st, fun _ a ha => ?_, fun z => by cases z⟩
      have RV : ∀ {c : Addr} (u : Value), RelV (.ref c) u → u = .ref c := fun u r => r
      refine ⟨_, rfl, CT, dx, _, .ref CS, .ref CS, true, rfl, rfl, hd, B.ex, rfl, RV, B.k1, _, rfl, ?_⟩
      refine iteT ⟨_, rfl, CT, dx, _, .ty "ValueError", .type "ValueError", true, rfl, rfl, hd, B.ex, rfl, fun u r => r, B.k2, _, rfl, ?_⟩
      refine iteT ⟨_, rfl, rfl, rfl, dx, _, .int (n : Nat), rfl, hd, rfl, k1⟩
end
end GS

set_option linter.all false
set_option maxHeartbeats 2000000
namespace GS
open PySem L2 HX
/-! ### whether a row tells a deed, by the law's look -/
theorem sum_spl (s : Nat) : ∀ (l acc : List Nat), ((TL.spl [s] 0 acc l).map List.length).sum + (TL.spl [s] 0 acc l).length = acc.length + l.length + 1
  | [], acc => by rw [TL.spl_nil]; rfl
  | c :: r, acc => by
    by_cases h : c = s
    · have p : TL.pre [s] (c :: r) = true := by rw [h]; show ([s] == [s]) = true; exact beq_self_eq_true _
      have ih := sum_spl s r []
      have e0 : ([] : List Nat).length = 0 := rfl
      rw [TL.spl_hit p]
      show ((acc :: TL.spl [s] 0 [] r).map List.length).sum + (acc :: TL.spl [s] 0 [] r).length = _
      rw [List.map_cons, List.sum_cons, List.length_cons, List.length_cons]
      omega
    · have ih := sum_spl s r (acc ++ [c])
      rw [TL.spl_miss (TL.pre_of_head [] r h), ih, List.length_append, List.length_cons]
      show acc.length + 1 + r.length + 1 = acc.length + (r.length + 1) + 1
      omega
theorem sum_drop : ∀ (k : Nat) (l : List Nat), (l.drop k).sum ≤ l.sum
  | 0, l => by rw [List.drop_zero]; exact Nat.le_refl _
  | k + 1, [] => Nat.le_refl _
  | k + 1, x :: l => by rw [List.drop_succ_cons, List.sum_cons]; have := sum_drop k l; omega
theorem Sep1.sum {y : Str} {s : Nat} (h : Sep1 y s) (x : Str) (k : Nat) : (((Txt.split x y).drop k).map (·.length)).sum + ((Txt.split x y).drop k).length ≤ x.length + 1 := by
  have a := sum_spl s (TL.tl x) []
  rw [← h.split, List.map_map, List.length_map] at a
  have e : (Txt.split x y).map (List.length ∘ TL.tl) = (Txt.split x y).map (·.length) := List.map_congr_left fun z _ => (TL.len_tl z).symm
  rw [e] at a
  have b := sum_drop k ((Txt.split x y).map (·.length))
  rw [List.map_drop, List.length_drop, TL.len_tl]
  have e0 : ([] : List Nat).length = 0 := rfl
  omega
abbrev mkS (l : List Nat) : Str := ⟨l.toArray⟩
theorem Sep1.split' {y : Str} {s : Nat} (h : Sep1 y s) (x : Str) : Txt.split x y = (TL.spl [s] 0 [] (TL.tl x)).map mkS :=
  TL.map_tl_inj (by rw [h.split, List.map_map]; exact (List.map_id _).symm)
theorem join_spl (s : Nat) : ∀ (l acc : List Nat), TL.joinL [s] (TL.spl [s] 0 acc l) = acc ++ l
  | [], acc => by rw [TL.spl_nil, List.append_nil]; rfl
  | c :: r, acc => by
    by_cases h : c = s
    · have p : TL.pre [s] (c :: r) = true := by rw [h]; show ([s] == [s]) = true; exact beq_self_eq_true _
      rw [TL.spl_hit p]
      have ih := join_spl s r []
      have ne := spl_ne s r []
      show TL.joinL [s] (acc :: TL.spl [s] 0 [] r) = acc ++ c :: r
      cases e : TL.spl [s] 0 [] r with
      | nil => exact absurd e ne
      | cons u v =>
        rw [e] at ih
        show acc ++ ([s] ++ TL.joinL [s] (u :: v)) = _
        rw [ih, h]; rfl
    · rw [TL.spl_miss (TL.pre_of_head [] r h), join_spl s r (acc ++ [c]), List.append_assoc]; rfl
theorem Sep1.part' {y : Str} {s : Nat} (h : Sep1 y s) (x : Str) : (TL.par [s] [] (TL.tl x) = none ∧ Txt.partition x y = (x, Str.empty, Str.empty)) ∨ ∃ a b, TL.par [s] [] (TL.tl x) = some (a, b) ∧ Txt.partition x y = (mkS a, y, mkS b) := by
  have e := TL.partition_par x y h.ne
  rw [h.e] at e
  cases q : TL.par [s] [] (TL.tl x) with
  | none => rw [q] at e; exact .inl ⟨rfl, e⟩
  | some p => obtain ⟨a, b⟩ := p; rw [q] at e; exact .inr ⟨a, b, rfl, e⟩
/-- the words of a row, as the partitions have them -/
theorem words_ask (row : Str) : (isNum (Txt.partition (Txt.partition row " ").2.2 " ").1 = true ∧ (Txt.partition (Txt.partition row " ").2.2 " ").2.2 ≠ "") ↔
    (2 < (Txt.split row " ").length ∧ ∃ z, (Txt.split row " ")[1]? = some z ∧ isNum z = true ∧ Txt.join " " ((Txt.split row " ").drop 2) ≠ "") := by
  have e0 : isNum "" = false := by decide +kernel
  rcases sep_sp.part' row with ⟨p1, q1⟩ | ⟨a, b, p1, q1⟩
  · have w : Txt.split row " " = [mkS (TL.tl row)] := by rw [sep_sp.split', spl_par, p1]; rfl
    rw [q1, w]
    constructor
    · rintro ⟨z, _⟩
      have : (Txt.partition Str.empty " ").1 = "" := by decide +kernel
      rw [this, e0] at z; cases z
    · rintro ⟨z, _⟩
      exact absurd z (by show ¬ 2 < 1; decide)
  · have w : Txt.split row " " = mkS a :: (TL.spl [32] 0 [] b).map mkS := by rw [sep_sp.split', spl_par, p1]; rfl
    rw [q1]
    show (isNum (Txt.partition (mkS b) " ").1 = true ∧ (Txt.partition (mkS b) " ").2.2 ≠ "") ↔ _
    rcases sep_sp.part' (mkS b) with ⟨p2, q2⟩ | ⟨a2, b2, p2, q2⟩
    · have w2 : TL.spl [32] 0 [] b = [b] := by
        have : TL.par [32] [] b = none := p2
        rw [spl_par, this]; rfl
      rw [q2, w, w2]
      constructor
      · rintro ⟨_, z⟩; exact absurd rfl z
      · rintro ⟨z, _⟩; exact absurd z (by show ¬ 2 < 2; decide)
    · have w2 : TL.spl [32] 0 [] b = a2 :: TL.spl [32] 0 [] b2 := by
        have : TL.par [32] [] b = some (a2, b2) := p2
        rw [spl_par, this]
      have j : Txt.join " " ((TL.spl [32] 0 [] b2).map mkS) = mkS b2 := by
        rw [TL.join_eq]
        refine TL.ext_tl ?_
        rw [TL.tl_join, List.map_map, sep_sp.e]
        have : (TL.spl [32] 0 [] b2).map (TL.tl ∘ mkS) = TL.spl [32] 0 [] b2 := List.map_id _
        rw [this, join_spl]; rfl
      rw [q2, w, w2]
      show (isNum (mkS a2) = true ∧ mkS b2 ≠ "") ↔ (2 < (mkS a :: mkS a2 :: (TL.spl [32] 0 [] b2).map mkS).length ∧ ∃ z, some (mkS a2) = some z ∧ isNum z = true ∧ Txt.join " " ((TL.spl [32] 0 [] b2).map mkS) ≠ "")
      rw [j]
      constructor
      · rintro ⟨x, y⟩
        refine ⟨?_, _, rfl, x, y⟩
        have : TL.spl [32] 0 [] b2 ≠ [] := spl_ne _ _ _
        have : 0 < ((TL.spl [32] 0 [] b2).map mkS).length := by rw [List.length_map]; exact List.length_pos_iff.mpr this
        rw [List.length_cons, List.length_cons]; omega
      · rintro ⟨_, z, e, x, y⟩
        cases e
        exact ⟨x, y⟩
def many0 : List (Key × V) := mergeK [] [(.inr "letters", .int 0), (.inr "leaders", .int 0), (.inr "rise", .int 2), (.inr "arm", .int 2), (.inr "turn", .int 2)]
def manyI (i : Nat) : List (Key × V) := (ones.take i).foldl (fun acc z => putK acc (.inr z) (.int 1)) many0
theorem manyI_step {i : Nat} {z : Str} (h : ones[i]? = some z) : manyI (i + 1) = putK (manyI i) (.inr z) (.int 1) := by
  unfold manyI
  have tk : ones.take (i + 1) = ones.take i ++ [z] := by rw [List.take_add_one, h] <;> rfl
  rw [tk, List.foldl_append]; rfl
theorem manyI_few : ∀ i : Fin 11, (manyI i.val).length ≤ 20 := by decide +kernel
theorem many_fold : ∀ (zs : List Str) (kvs : List (Key × V)) (w : Str), valV (zs.foldl (fun acc z => putK acc (.inr z) (.int 1)) kvs) (.inr w) = if w ∈ zs then some (.int 1) else valV kvs (.inr w)
  | [], _, _ => by rw [if_neg (List.not_mem_nil)]; rfl
  | z :: zs, kvs, w => by
    rw [List.foldl_cons, many_fold zs, valV_put]
    by_cases h : w ∈ zs
    · rw [if_pos h, if_pos (List.mem_cons_of_mem _ h)]
    · rw [if_neg h]
      by_cases e : w = z
      · rw [if_pos (by rw [e]), if_pos (by rw [e]; exact List.mem_cons_self ..)]
      · rw [if_neg (fun q => e (by injection q)), if_neg (fun q => (List.mem_cons.mp q).elim e h)]
theorem many_at (w : Str) : (valV (manyI 11) (.inr w)).getD (.int (-1)) = .int (match numW w with | some n => (n : Int) | none => -1) := by
  unfold manyI
  rw [show ones.take 11 = ones from rfl, many_fold]
  unfold numW
  by_cases h1 : w ∈ ones
  · rw [if_pos h1, if_pos h1]; rfl
  · rw [if_neg h1, if_neg h1]
    have inj : ∀ a b : Str, ((Sum.inr a : Key) = Sum.inr b) ↔ a = b := fun a b => ⟨fun q => by injection q, fun q => by rw [q]⟩
    have base : valV many0 (.inr w) = if w ∈ twos then some (.int 2) else if w ∈ noes then some (.int 0) else none := by
      show valV (putK (putK (putK (putK (putK ([] : List (Key × V)) (.inr "letters") (.int 0)) (.inr "leaders") (.int 0)) (.inr "rise") (.int 2)) (.inr "arm") (.int 2)) (.inr "turn") (.int 2)) (.inr w) = _
      rw [valV_put, valV_put, valV_put, valV_put, valV_put]
      simp only [inj]
      have t : w ∈ twos ↔ (w = "rise" ∨ w = "arm" ∨ w = "turn") := by unfold twos; simp
      have n : w ∈ noes ↔ (w = "letters" ∨ w = "leaders") := by unfold noes; simp
      by_cases a1 : w = "turn"
      · rw [if_pos a1, if_pos (t.mpr (.inr (.inr a1)))]
      · rw [if_neg a1]
        by_cases a2 : w = "arm"
        · rw [if_pos a2, if_pos (t.mpr (.inr (.inl a2)))]
        · rw [if_neg a2]
          by_cases a3 : w = "rise"
          · rw [if_pos a3, if_pos (t.mpr (.inl a3))]
          · rw [if_neg a3, if_neg (c := w ∈ twos) (fun z => (t.mp z).elim a3 fun z => z.elim a2 a1)]
            by_cases a4 : w = "leaders"
            · rw [if_pos a4, if_pos (n.mpr (.inr a4))]
            · rw [if_neg a4]
              by_cases a5 : w = "letters"
              · rw [if_pos a5, if_pos (n.mpr (.inl a5))]
              · rw [if_neg a5, if_neg (fun z => (n.mp z).elim a5 a4)]; rfl
    rw [base]
    by_cases h2 : w ∈ twos
    · rw [if_pos h2, if_pos h2]; rfl
    · rw [if_neg h2, if_neg h2]
      by_cases h3 : w ∈ noes
      · rw [if_pos h3, if_pos h3]; rfl
      · rw [if_neg h3, if_neg h3]; rfl
end GS

set_option linter.all false
set_option maxHeartbeats 4000000
namespace GS
open PySem L2 HX
def spIr : Sp := fun vs H Q _ => ∃ row : Str, vs = [.str row] ∧ row.length ≤ 1000000 ∧ ∀ H', Same H H' → Q (.bl (readDeed row).isSome) H'
theorem cutN (xs : List V) {k : Nat} (h : k ≤ xs.length) : cutV xs (some (k : Int)) none = xs.drop k := by
  unfold cutV
  rw [HT.sIx_nat, Nat.min_eq_left h, show HT.sIx xs.length xs.length none = xs.length from rfl]
  exact List.take_of_length_le (by rw [List.length_drop]; exact Nat.le_refl _)
section
variable {P : Program} {w : World} {K : PySem.W.Frag} {mg : Str → Option Value} {base : Heap}
theorem scIr : FnScope ["_law_row_here", "_law_words", "_law_many", "_law_one", "_law_word", "_law_good"] ["_law_row_here"] (defScope s_l_is_row) := ⟨rfl, rfl, rfl, by decide +kernel, rfl, by decide +kernel, by decide +kernel⟩
theorem ok_ir {f fn : Addr} {fd fdn : FuncData} (F : Fun K "_law_is_row" "_law_is_row" s_l_is_row f fd) (T : Txt mg) (Cn : Cal P w K mg base 1 "_law_is_number" ["_law_word"] spNum fn fdn) : FnOk P w K mg base CX0 2 f fd ["_law_row_here"] spIr := by
  refine F.ok scIr (fun vs H Q E h => ?_) (fun cdv A outer s H vs Q E hr h => ?_)
  · obtain ⟨row, rfl, _⟩ := h
    rfl
  · obtain ⟨row, rfl, lr, kk⟩ := h
    have hr1 : Room 1 _ := hr
    refine ⟨_, (pss_cons (ps_set (i := 1) scIr.nd rfl (Or.inl rfl) (pe_split (pv 0) pe_str))
      (pss_cons (ps_if (pt_cmpR op_eq (pe_ix (RK.ixQ (K := K)) (pv 1) pe_int (fun _ _ => rfl)) pe_str (nomark _)) (pss_one (ps_ret (pe_and (pe_cmpR op_gt (pe_callB (RK.lenQ (K := K)) (by rfl) T.len PySem.boot_len (pa_cons (pv 1) pa_nil)) pe_int (nomark _)) (pe_and (pe_call Cn.G hr1 (by rfl) Cn.g Cn.kp Cn.b .nil pass0 (pa_cons (pe_ix (RK.ixQ (K := K)) (pv 1) pe_int (fun _ _ => rfl)) pa_nil)) (pe_one (pe_cmpR op_ne (pe_join pe_str (pe_slice (RK.slL (K := K)) (pv 1) (po_some pe_int) po_none)) pe_str (nomark _))))))) pss_nil)
      (pss_cons (ps_set (i := 2) scIr.nd rfl (Or.inl rfl) (pe_disp (pps_cons pe_str pe_int (pps_cons pe_str pe_int (pps_cons pe_str pe_int (pps_cons pe_str pe_int (pps_cons pe_str pe_int pps_nil))))) (by rfl) (by rfl) (fun z => by cases z) (by decide)))
      (pss_cons (ps_set (i := 3) scIr.nd rfl (Or.inl rfl) (pe_lst (pa_cons pe_str (pa_cons pe_str (pa_cons pe_str (pa_cons pe_str (pa_cons pe_str (pa_cons pe_str (pa_cons pe_str (pa_cons pe_str (pa_cons pe_str pa_nil)))))))))))
      (pss_cons (ps_for PassesOwn.never rfl (RK.piL (K := K) (pe_op op_cat (pv 3) (pe_lst (pa_cons pe_str (pa_cons pe_str pa_nil))))) (pg_name (i := 4) scIr.nd rfl (Or.inl rfl))
        (pss_one (ps_dput (hu_of hr) (pv 2) (pv 4) pe_int rfl)))
      (pss_cons (ps_setLc (i := 5) (own := [("_law_word", 4)]) rfl scIr.nd rfl rfl (sw_true rfl rfl rfl (by decide +kernel)) (RK.piL (K := K) (pe_slice (RK.slL (K := K)) (pv 1) (po_some pe_int) po_none)) (blkOk_by (N := ["_law_row_here", "_law_words", "_law_many", "_law_one", "_law_word", "_law_good"]) (sc := defScope s_l_is_row) (by decide +kernel)) (fun _ _ _ _ _ => (pg_name (i := 4) scIr.nd rfl (Or.inl rfl))) (fun _ _ _ _ _ => (pts_one (pt_val (pe_call Cn.G hr1 (by rfl) Cn.g Cn.kp Cn.b .nil pass0 (pa_cons (pv 4) pa_nil))))) (fun _ _ _ _ _ => (pv 4)))
      (pss_one (ps_ret (pe_and (pe_cmpR op_eq (pe_dget2 (hu_of hr) (pv 2) (pe_ix (RK.ixQ (K := K)) (pv 1) pe_int (fun _ _ => rfl)) (pe_un un_neg pe_int) ⟨rfl, rfl, rfl, rfl⟩) (pe_op op_sub (pe_callB (RK.lenQ (K := K)) (by rfl) T.len PySem.boot_len (pa_cons (pv 1) pa_nil)) pe_int) (nomark _)) (pe_one (pe_cmpR op_eq (pe_callB (RK.lenQ (K := K)) (by rfl) T.len PySem.boot_len (pa_cons (pv 5) pa_nil)) (pe_op op_sub (pe_callB (RK.lenQ (K := K)) (by rfl) T.len PySem.boot_len (pa_cons (pv 1) pa_nil)) pe_int) (nomark _)))))))))))), ?_⟩
    have big : (2000000 : Nat) < sizeLine := by decide
    have few := sep_sp.few row
    refine sa1 ⟨_, rfl, ⟨_, rfl⟩, row, _, rfl, rfl, by decide +kernel, by omega, fun p hp => gn ?_⟩
    have s1 := same_new (o := .lst ((Txt.split row " ").map V.str)) hp
    have e1 : (upd H p (.lst ((Txt.split row " ").map V.str))) p = some (.lst ((Txt.split row " ").map V.str)) := upd_same
    generalize upd H p (.lst ((Txt.split row " ").map V.str)) = H1 at s1 e1 ⊢
    obtain ⟨w0, ws, ew⟩ : ∃ w0 ws, Txt.split row " " = w0 :: ws := by
      cases e : Txt.split row " " with
      | nil => exact absurd e (sep_sp.nonil row)
      | cons a r => exact ⟨a, r, rfl⟩
    have f0 : w0 = (Txt.partition row " ").1 := by
      have := sep_sp.first row
      rw [ew] at this
      exact Option.some.inj this
    have at0' : atI ((Txt.split row " ").map V.str) 0 = some (.str w0) := by rw [ew]; exact at0
    refine at_stD (σ' := [some (.str row), some (.ref p), none, none, none, none]) rfl ?_
    refine sif ⟨_, rfl, .inl ⟨p, _, 0, _, rfl, rfl, SqL.of e1, at0', rfl, _, rfl, ?_⟩⟩
    rw [v_str]
    cases c1 : decide (w0 = "ask") with
    | true =>
      have c1 := of_decide_eq_true c1
      have rd : (readDeed row).isSome = decide (2 < (Txt.split row " ").length ∧ ∃ z, (Txt.split row " ")[1]? = some z ∧ isNum z = true ∧ Txt.join " " ((Txt.split row " ").drop 2) ≠ "") := by
        unfold readDeed
        rw [if_pos (f0 ▸ c1)]
        by_cases h : (isNum (Txt.partition (Txt.partition row " ").2.2 " ").1 = true ∧ (Txt.partition (Txt.partition row " ").2.2 " ").2.2 ≠ "")
        · rw [if_pos h, decide_eq_true ((words_ask row).mp h)]; rfl
        · rw [if_neg h, decide_eq_false (fun z => h ((words_ask row).mpr z))]; rfl
      refine iteT ?_
      refine ⟨_, rfl, p, _, rfl, .inl (SqL.of e1), _, 2, rfl, rfl, _, rfl, ?_⟩
      have ll : ((Txt.split row " ").map V.str).length = (Txt.split row " ").length := List.length_map ..
      cases c2 : decide (((((Txt.split row " ").map V.str).length : Nat) : Int) > 2) with
      | false =>
        rw [if_neg Bool.false_ne_true]
        have c2 := of_decide_eq_false c2
        rw [ll] at c2
        have := kk H1 s1
        rw [rd, decide_eq_false (fun z => c2 (by omega))] at this
        exact this
      | true =>
        rw [if_pos rfl]
        have c2 := of_decide_eq_true c2
        rw [ll] at c2
        obtain ⟨z, ez⟩ : ∃ z, (Txt.split row " ")[1]? = some z := ⟨_, List.getElem?_eq_getElem (show 1 < _ by omega)⟩
        have a1 : atI ((Txt.split row " ").map V.str) 1 = some (.str z) := atI_nat (j := 1) (by rw [List.getElem?_map, ez]; rfl)
        have lz : z.length ≤ row.length := sep_sp.short (List.mem_of_getElem? ez)
        refine ⟨_, rfl, .inl ⟨p, _, 1, _, rfl, rfl, SqL.of e1, a1, z, rfl, by omega, fun H2 s2 => ⟨_, rfl, ?_⟩⟩⟩
        cases c3 : isNum z with
        | false =>
          rw [if_neg Bool.false_ne_true]
          have := kk H2 (s1.trans s2)
          rw [rd, decide_eq_false (fun y => by
            obtain ⟨_, z', e', n', _⟩ := y
            rw [ez] at e'; cases e'
            rw [c3] at n'; cases n')] at this
          exact this
        | true =>
          rw [if_pos rfl]
          refine ⟨⟨_, rfl⟩, _, rfl, 2, rfl, p, _, rfl, SqL.of (s2 _ _ e1), fun p2 hp2 => ?_⟩
          have ec : cutV ((Txt.split row " ").map V.str) (some (2 : Int)) none = ((Txt.split row " ").drop 2).map V.str := by
            rw [show ((2 : Int)) = ((2 : Nat) : Int) from rfl, cutN _ (by rw [ll]; omega), List.map_drop]
          rw [ec]
          have sm := sep_sp.sum row 2
          have s3 := same_new (o := .lst (((Txt.split row " ").drop 2).map V.str)) hp2
          refine ⟨_, p2, (Txt.split row " ").drop 2, rfl, rfl, .inl (SqL.of upd_same), ?_, rfl, ?_⟩
          · have : ((Txt.split row " ").drop 2).length * Str.length " " = ((Txt.split row " ").drop 2).length := by rw [show Str.length " " = 1 from by decide +kernel, Nat.mul_one]
            omega
          · have := kk _ (s1.trans (s2.trans s3))
            rw [rd] at this
            have e : (decide (2 < (Txt.split row " ").length ∧ ∃ z, (Txt.split row " ")[1]? = some z ∧ isNum z = true ∧ Txt.join " " ((Txt.split row " ").drop 2) ≠ "")) = !decide (V.str (Txt.join " " ((Txt.split row " ").drop 2)) = V.str "") := by
              rw [v_str]
              by_cases h : Txt.join " " ((Txt.split row " ").drop 2) = ""
              · rw [decide_eq_true h, decide_eq_false]; · rfl
                rintro ⟨_, _, _, _, z⟩; exact z h
              · rw [decide_eq_false h, decide_eq_true]; · rfl
                exact ⟨by omega, z, ez, c3, h⟩
            rw [e] at this
            exact this
    | false =>
      have c1 := of_decide_eq_false c1
      refine iteF ?_
      dsimp only [tNext]
      refine sa1 fun d hd => ⟨upd_same, [(.inr "letters", .int 0), (.inr "leaders", .int 0), (.inr "rise", .int 2), (.inr "arm", .int 2), (.inr "turn", .int 2)], rfl, by decide, gn ?_⟩
      rw [upd_upd]
      have s2 := same_new (o := .dK (mergeK [] [(Sum.inr "letters", V.int 0), (.inr "leaders", .int 0), (.inr "rise", .int 2), (.inr "arm", .int 2), (.inr "turn", .int 2)])) hd
      have e2 : (upd H1 d (.dK (mergeK [] [(Sum.inr "letters", V.int 0), (.inr "leaders", .int 0), (.inr "rise", .int 2), (.inr "arm", .int 2), (.inr "turn", .int 2)]))) d = some (.dK (manyI 0)) := upd_same
      have e1' := s2 _ _ e1
      have s2' := s1.trans s2
      have nd : H d = none := none_of_same s1 hd
      generalize upd H1 d (.dK (mergeK [] [(Sum.inr "letters", V.int 0), (.inr "leaders", .int 0), (.inr "rise", .int 2), (.inr "arm", .int 2), (.inr "turn", .int 2)])) = H2 at e2 e1' s2' ⊢
      refine sa1 ⟨by show 9 ≤ sizeLine; decide, fun l hl => gn ?_⟩
      have s3 := same_new (o := .lst [.str "come", .str "lose", .str "takeover", .str "beat", .str "checkpoint", .str "fall", .str "found", .str "known", .str "log"]) hl
      have e3 : (upd H2 l (.lst [.str "come", .str "lose", .str "takeover", .str "beat", .str "checkpoint", .str "fall", .str "found", .str "known", .str "log"])) l = some (.lst [.str "come", .str "lose", .str "takeover", .str "beat", .str "checkpoint", .str "fall", .str "found", .str "known", .str "log"]) := upd_same
      generalize upd H2 l (.lst [.str "come", .str "lose", .str "takeover", .str "beat", .str "checkpoint", .str "fall", .str "found", .str "known", .str "log"]) = H3 at s3 e3 ⊢
      refine at_stD (σ' := [some (.str row), some (.ref p), some (.ref d), some (.ref l), none, none]) rfl ?_
      refine ⟨_, rfl, by show 2 ≤ sizeLine; decide, fun l2 hl2 => ⟨l, l2, _, _, rfl, rfl, same_new hl2 _ _ e3, upd_same, by show 11 ≤ sizeLine; decide, fun l3 hl3 => ⟨l3, rfl, ⟨_, SqL.of upd_same⟩, ?_⟩⟩⟩
      have s5 := (same_new (o := .lst [.str "dealings", .str "shown"]) hl2).trans (same_new (o := .lst (ones.map V.str)) hl3)
      have e5 : (upd (upd H3 l2 (.lst [.str "dealings", .str "shown"])) l3 (.lst (ones.map V.str))) l3 = some (.lst (ones.map V.str)) := upd_same
      refine for_it (walk_list (xs := ones.map V.str)) (fun i σ H' => ∃ v4, σ = [some (.str row), some (.ref p), some (.ref d), some (.ref l), v4, none] ∧ (∀ b o, b ≠ d → H3 b = some o → H' b = some o) ∧ H' l3 = some (.lst (ones.map V.str)) ∧ H' d = some (.dK (manyI i)))
        ⟨none, rfl, fun b o n e => s5 b o e, e5, s5 _ _ (s3 _ _ e2)⟩ (fun i σ H' _ q => by obtain ⟨_, _, _, e, _⟩ := q; exact SqL.of e) ?_ ?_
      · rintro i y σ H0 H' hi ⟨v4, rfl, kp, el, ed⟩ ⟨rfl, ey⟩
        obtain ⟨z, ez, rfl⟩ := getMap ey
        have n3 : l3 ≠ d := fun q => by rw [q, ed] at el; cases el
        refine gn ⟨_, rfl, _, rfl, d, _, rfl, DPut.k (k := .inr z) ed ?_, _, rfl, fun b o n e => by rw [upd_ne n]; exact kp b o n e, by rw [upd_ne n3]; exact el, by rw [upd_same, manyI_step ez]⟩
        have := manyI_few ⟨i, hi⟩
        exact Nat.lt_of_le_of_lt this (by decide)
      · rintro σ H' ⟨v4, rfl, kp, el, ed⟩
        have np : p ≠ d := fun q => by rw [q, hd] at e1; cases e1
        have ep : H' p = some (.lst ((Txt.split row " ").map V.str)) := kp _ _ np (s3 _ _ e1')
        have s6 : Same H H' := fun b o e => kp b o (ne_of_none e nd) (s3 _ _ (s2' _ _ e))
        dsimp only
        refine sa1 ⟨_, rfl, 1, rfl, p, _, rfl, SqL.of ep, fun p2 hp2 => ⟨p2, rfl, ⟨_, SqL.of upd_same⟩, fun D hD => ?_⟩⟩
        rw [cut1, ← List.map_drop] at *
        have s7 := same_new (o := .lst ((parts1 row).map V.str)) hp2
        have e7 : (upd H' p2 (.lst ((parts1 row).map V.str))) p2 = some (.lst ((parts1 row).map V.str)) := upd_same
        have hD : (upd H' p2 (.lst ((parts1 row).map V.str))) D = none := hD
        change ∃ W : Nat → Nat → Hp → Prop, (∃ m, W 0 m (upd (upd H' p2 (.lst ((parts1 row).map V.str))) D (.lst []))) ∧ _
        generalize upd H' p2 (.lst ((parts1 row).map V.str)) = H7 at s7 e7 hD ⊢
        have fewp : (parts1 row).length ≤ 1000001 := by unfold parts1; rw [List.length_drop]; omega
        refine lc_it (walk_list (xs := (parts1 row).map V.str)) (fun i H' => (∀ b o, b ≠ D → H7 b = some o → H' b = some o) ∧ H' D = some (.lst ((((parts1 row).take i).filter isNum).map V.str)))
          ⟨fun b o n e => by rw [upd_ne n]; exact e, upd_same⟩ (fun i H' _ z => SqL.of (z.1 _ _ (ne_of_none e7 hD) e7)) ?_ ?_
        · rintro i y H0 H8 hi ⟨kp8, hd8⟩ ⟨rfl, ey⟩
          obtain ⟨z, ez, rfl⟩ := getMap ey
          have tk : (parts1 row).take (i + 1) = (parts1 row).take i ++ [z] := by rw [List.take_add_one, ez] <;> rfl
          have lz : z.length ≤ row.length := sep_sp.short (List.mem_of_mem_drop (List.mem_of_getElem? ez))
          have lf : (((parts1 row).take i).filter isNum).length ≤ 1000001 := Nat.le_trans (List.length_filter_le _ _) (by rw [List.length_take]; omega)
          have nx : ((parts1 row).take (i + 1)).filter isNum = ((parts1 row).take i).filter isNum ++ (if isNum z = true then [z] else []) := by
            rw [tk, List.filter_append]
            congr 1
            cases h : isNum z <;> simp [h]
          refine gn ⟨rfl, _, rfl, z, rfl, by omega, fun H9 s9 => ⟨_, rfl, ?_⟩⟩
          have kp9 : ∀ b o, b ≠ D → H7 b = some o → H9 b = some o := fun b o n e => s9 _ _ (kp8 b o n e)
          cases c3 : isNum z with
          | false =>
            rw [c3, if_neg Bool.false_ne_true, List.append_nil] at nx
            refine iteF ?_
            rw [nx]
            exact ⟨kp9, s9 _ _ hd8⟩
          | true =>
            rw [c3, if_pos rfl] at nx
            refine iteT ⟨_, rfl, _, s9 _ _ hd8, by rw [List.length_map]; omega, fun b o n e => by rw [upd_ne n]; exact kp9 b o n e, ?_⟩
            rw [upd_same, nx, List.map_append]; rfl
        rintro H8 ⟨kp8, hd8⟩
        rw [List.length_map, List.take_length] at hd8
        have s8 : Same H7 H8 := fun b o e => kp8 b o (ne_of_none e hD) e
        refine gn ?_
        have ed8 : H8 d = some (.dK (manyI 11)) := s8 _ _ (s7 _ _ ed)
        have ep8 : H8 p = some (.lst ((Txt.split row " ").map V.str)) := s8 _ _ (s7 _ _ ep)
        have sAll : Same H H8 := s6.trans (s7.trans s8)
        refine ⟨_, rfl, d, rfl, .inl ⟨_, .inl ed8⟩, _, rfl, .inl ⟨p, _, 0, _, rfl, rfl, SqL.of ep8, at0', 1, rfl, _, DGet.k (k := .inr w0) ed8, ?_⟩⟩
        rw [many_at]
        have rdn : readDeed row = match numW w0 with | none => none | some n => if (parts1 row).length = n ∧ (parts1 row).all isNum = true then some ⟨(Txt.partition row " ").1, (parts1 row).map valN, ""⟩ else none := by unfold readDeed; rw [if_neg (f0 ▸ c1), f0] <;> rfl
        have lw : (((Txt.split row " ").map V.str).length : Int) - 1 = ((parts1 row).length : Int) := by
          unfold parts1
          rw [List.length_map, ew]
          show ((ws.length + 1 : Nat) : Int) - 1 = (ws.length : Int)
          omega
        refine ⟨_, rfl, p, _, rfl, .inl (SqL.of ep8), _, _, rfl, rfl, rfl, _, rfl, ?_⟩
        change (if decide (V.int (match numW w0 with | some n => (n : Int) | none => -1) = V.int ((((Txt.split row " ").map V.str).length : Int) - 1)) = true then _ else _)
        rw [v_int, lw]
        cases c4 : numW w0 with
        | none =>
          rw [c4] at rdn
          have := kk H8 sAll
          rw [rdn] at this
          rw [decide_eq_false (show ¬ ((-1 : Int) = ((parts1 row).length : Int)) by omega)]
          refine iteF ?_
          exact this
        | some n =>
          rw [c4] at rdn
          have rdn : readDeed row = if (parts1 row).length = n ∧ (parts1 row).all isNum = true then some ⟨(Txt.partition row " ").1, (parts1 row).map valN, ""⟩ else none := rdn
          by_cases h : (parts1 row).length = n
          · rw [decide_eq_true (show ((n : Int) = ((parts1 row).length : Int)) by omega)]
            refine iteT ⟨_, rfl, D, _, rfl, .inl (SqL.of hd8), _, rfl, p, _, rfl, .inl (SqL.of ep8), _, _, rfl, rfl, rfl, ?_⟩
            change Q (.bl (decide (V.int (((((parts1 row).filter isNum).map V.str).length : Nat) : Int) = V.int ((((Txt.split row " ").map V.str).length : Int) - 1)))) H8
            rw [v_int, lw, List.length_map]
            have := kk H8 sAll
            rw [rdn] at this
            have e : decide ((((parts1 row).filter isNum).length : Int) = ((parts1 row).length : Int)) = (parts1 row).all isNum := by
              by_cases a : (parts1 row).all isNum = true
              · rw [a, decide_eq_true]
                rw [List.length_filter_eq_length_iff.mpr (List.all_eq_true.mp a)]
              · have a' : (parts1 row).all isNum = false := by cases h : (parts1 row).all isNum with | true => exact absurd h a | false => rfl
                rw [a', decide_eq_false]
                exact fun z => a (List.all_eq_true.mpr (List.length_filter_eq_length_iff.mp (by omega)))
            rw [e]
            cases a : (parts1 row).all isNum with
            | true => rw [if_pos ⟨h, a⟩] at this; exact this
            | false => rw [if_neg (fun z => by rw [a] at z; cases z.2)] at this; exact this
          · rw [decide_eq_false (show ¬ ((n : Int) = ((parts1 row).length : Int)) by omega)]
            have := kk H8 sAll
            rw [rdn, if_neg (fun z => h z.1)] at this
            refine iteF ?_
            exact this
end
end GS

set_option linter.all false
set_option maxHeartbeats 2000000
namespace GS
open PySem L2 HX
/-! ### the law's deeds -/
def texts5 : List Str := ["begin", "put t 1 2", "pick  x", "-", "07 ask"]
def GoodDe (d : De) : Prop :=
  (d.w ∈ ones ∧ ∃ n, n < 10 ∧ d.ns = [n] ∧ d.t = "") ∨ (d.w ∈ twos ∧ ∃ n m, n < 10 ∧ m < 1000 ∧ d.ns = [n, m] ∧ d.t = "") ∨ (d.w ∈ noes ∧ d.ns = [] ∧ d.t = "") ∨ (d.w = "ask" ∧ ∃ n, n < 10 ∧ d.ns = [n] ∧ d.t ∈ texts5)
theorem word_plain : ∀ w ∈ ones ++ twos ++ noes, w.length ≤ 100 ∧ 32 ∉ TL.tl w ∧ 10 ∉ TL.tl w ∧ w ≠ "ask" := by decide +kernel
theorem text_plain : ∀ t ∈ texts5, t.length ≤ 100 ∧ 10 ∉ TL.tl t ∧ t ≠ "" := by decide +kernel
theorem nums_ones : ∀ w ∈ ones, numW w = some 1 := by decide +kernel
theorem nums_twos : ∀ w ∈ twos, numW w = some 2 := by decide +kernel
theorem nums_noes : ∀ w ∈ noes, numW w = some 0 := by decide +kernel
/-- the three plain forms -/
theorem GoodDe.cases {d : De} (h : GoodDe d) : (d.w ∈ ones ++ twos ++ noes ∧ numW d.w = some d.ns.length ∧ (∀ n ∈ d.ns, n < 1000) ∧ d.ns.length ≤ 2 ∧ d.t = "") ∨ (d.w = "ask" ∧ ∃ n, n < 10 ∧ d.ns = [n] ∧ d.t ∈ texts5) := by
  rcases h with ⟨hw, n, hn, e, et⟩ | ⟨hw, n, m, hn, hm, e, et⟩ | ⟨hw, e, et⟩ | h
  · refine .inl ⟨by simp [hw], by rw [e]; exact nums_ones _ hw, fun x hx => ?_, by rw [e]; show 1 ≤ 2; decide, et⟩
    rw [e] at hx
    have := List.mem_singleton.mp hx
    omega
  · refine .inl ⟨by simp [hw], by rw [e]; exact nums_twos _ hw, fun x hx => ?_, by rw [e]; exact Nat.le_refl _, et⟩
    rw [e] at hx
    simp at hx
    omega
  · refine .inl ⟨by simp [hw], by rw [e]; exact nums_noes _ hw, fun x hx => ?_, by rw [e]; decide, et⟩
    rw [e] at hx; cases hx
  · exact .inr h
theorem GoodDe.ok {d : De} (h : GoodDe d) : d.Ok := by
  rcases h.cases with ⟨a, _, b, c, e⟩ | ⟨a, n, hn, b, c⟩
  · exact ⟨(word_plain _ a).1, by omega, fun n hn => Nat.lt_trans (b n hn) (by decide), by rw [e]; decide⟩
  · refine ⟨by rw [a]; decide, by rw [b]; show 1 ≤ 10; decide, fun x hx => ?_, (text_plain _ c).1⟩
    rw [b] at hx
    have := List.mem_singleton.mp hx
    omega
theorem numS_free {n s : Nat} (h : s < 48 ∨ 57 < s) : s ∉ TL.tl (numS n) := by
  have : TL.tl (numS n) = TL.numL n := TL.tl_num n
  rw [this]
  exact TL.numL_free h
theorem join_free (y : Str) (s : Nat) (hy : s ∉ TL.tl y) : ∀ parts : List Str, (∀ p ∈ parts, s ∉ TL.tl p) → s ∉ TL.tl (Txt.join y parts) := by
  intro parts h
  rw [TL.join_eq, TL.tl_join]
  have key : ∀ ls : List (List Nat), (∀ l ∈ ls, s ∉ l) → s ∉ TL.joinL (TL.tl y) ls := fun ls => by
    induction ls with
    | nil => exact fun _ => List.not_mem_nil
    | cons a r ih =>
      intro hl
      cases r with
      | nil => exact hl a (List.mem_cons_self ..)
      | cons b r =>
        show s ∉ a ++ (TL.tl y ++ TL.joinL (TL.tl y) (b :: r))
        rw [List.mem_append, List.mem_append]
        rintro (m | m | m)
        · exact hl a (List.mem_cons_self ..) m
        · exact hy m
        · exact ih (fun x hx => hl x (List.mem_cons_of_mem _ hx)) m
  refine key _ fun l hl => ?_
  obtain ⟨p, hp, rfl⟩ := List.mem_map.mp hl
  exact h p hp
theorem GoodDe.line {d : De} (h : GoodDe d) : 10 ∉ TL.tl d.row := by
  have num : ∀ p ∈ d.ns.map numS, 10 ∉ TL.tl p := fun p hp => by
    obtain ⟨n, _, rfl⟩ := List.mem_map.mp hp
    exact numS_free (.inl (by decide))
  refine join_free " " 10 (by decide +kernel) _ fun p hp => ?_
  unfold De.parts at hp
  rcases List.mem_append.mp hp with hp | hp
  · rcases List.mem_append.mp hp with hp | hp
    · rw [List.mem_singleton.mp hp]
      rcases h.cases with ⟨a, _⟩ | ⟨a, _⟩
      · exact (word_plain _ a).2.2.1
      · rw [a]; decide +kernel
    · exact num p hp
  · split at hp
    · rw [List.mem_singleton.mp hp]
      rcases h.cases with ⟨a, _, _, _, e⟩ | ⟨_, n, _, _, c⟩
      · rw [e]; decide +kernel
      · exact (text_plain _ c).2.1
    · cases hp
theorem De.ext {a b : De} (h1 : a.w = b.w) (h2 : a.ns = b.ns) (h3 : a.t = b.t) : a = b := by
  cases a; cases b
  cases h1; cases h2; cases h3; rfl
theorem GoodDe.read {d : De} (h : GoodDe d) : readDeed d.row = some d := by
  rcases h.cases with ⟨a, nw, b, _, et⟩ | ⟨a, n, hn, b, c⟩
  · obtain ⟨_, fr, _, na⟩ := word_plain _ a
    have ep : d.parts = d.w :: d.ns.map numS := by unfold De.parts; rw [if_neg na, List.append_nil]; rfl
    have sp : Txt.split d.row " " = d.w :: d.ns.map numS := by
      unfold De.row
      rw [ep]
      refine TL.split_join sep_sp.e sep_sp.k (by simp) fun p hp => ?_
      rcases List.mem_cons.mp hp with rfl | hp
      · exact fr
      · obtain ⟨n, _, rfl⟩ := List.mem_map.mp hp
        exact numS_free (.inl (by decide))
    have f0 : (Txt.partition d.row " ").1 = d.w := by
      have := sep_sp.first d.row
      rw [sp] at this
      exact (Option.some.inj this).symm
    have pt : parts1 d.row = d.ns.map numS := by unfold parts1; rw [sp]; rfl
    unfold readDeed
    rw [f0, if_neg na, nw]
    have al : (d.ns.map numS).all isNum = true := by
      rw [List.all_map]
      exact List.all_eq_true.mpr fun n hn => (num_numS (b n hn)).1
    have vs : (d.ns.map numS).map valN = d.ns := by
      rw [List.map_map]
      exact (List.map_congr_left fun n hn => (num_numS (b n hn)).2).trans (List.map_id _)
    dsimp only
    rw [pt, if_pos ⟨List.length_map .., al⟩, vs]
    exact congrArg some (De.ext rfl rfl et.symm)
  · have ep : d.row = ("ask" ++ " " ++ (numS n ++ " " ++ d.t) : Str) := by
      unfold De.row De.parts
      rw [if_pos a, a, b]
      rw [TL.join_eq]
      refine TL.ext_tl ?_
      rw [TL.tl_join]
      simp only [List.map_cons, List.map_nil, List.map_append, TL.tl_append, List.append_assoc, List.cons_append, List.nil_append, TL.joinL]
    have p1 : Txt.partition d.row " " = (("ask" : Str), (" " : Str), numS n ++ " " ++ d.t) := by rw [ep]; exact TL.partition_app sep_sp.e (by decide +kernel)
    have p2 : Txt.partition (numS n ++ " " ++ d.t) " " = (numS n, (" " : Str), d.t) := TL.partition_app sep_sp.e (numS_free (.inl (by decide)))
    obtain ⟨n1, n2⟩ := num_numS (Nat.lt_trans hn (by decide : (10 : Nat) < 1000))
    unfold readDeed
    rw [p1]
    dsimp only
    rw [if_pos rfl, p2]
    dsimp only
    rw [if_pos ⟨n1, (text_plain _ c).2.2⟩, n2]
    exact congrArg some (De.ext a.symm b.symm rfl)
end GS

set_option linter.all false
set_option maxHeartbeats 4000000
namespace GS
open PySem L2 HX
/-- all but what is drawn from is kept -/
def K2 (a b : Addr) (H H' : Hp) : Prop := ∀ x o, x ≠ a → x ≠ b → H x = some o → H' x = some o
theorem K2.refl {a b : Addr} {H : Hp} : K2 a b H H := fun _ _ _ _ e => e
theorem K2.trans {a b : Addr} {H H1 H2 : Hp} (k : K2 a b H H1) (q : K2 a b H1 H2) : K2 a b H H2 := fun x o h1 h2 e => q x o h1 h2 (k x o h1 h2 e)
theorem K2.same {a b : Addr} {H H' : Hp} (s : Same H H') : K2 a b H H' := fun x o _ _ e => s x o e
theorem MixAt.same {a b : Addr} {H H' : Hp} (m : MixAt H a b) (s : Same H H') : MixAt H' a b := by
  obtain ⟨m, cs, p, h1, h2, h3⟩ := m
  exact ⟨m, cs, p, s _ _ h1, s _ _ h2, h3⟩
theorem MixAt.la {a b : Addr} {H : Hp} (m : MixAt H a b) : ∃ xs, H a = some (.lst xs) := by obtain ⟨_, _, _, h, _⟩ := m; exact ⟨_, h⟩
theorem MixAt.lb {a b : Addr} {H : Hp} (m : MixAt H a b) : ∃ xs, H b = some (.lst xs) := by obtain ⟨_, _, _, _, h, _⟩ := m; exact ⟨_, h⟩
theorem MixAt.nt {a b p : Addr} {H : Hp} (m : MixAt H a b) {o : HO} (e : H p = some o) (h : ∀ xs, o ≠ .lst xs) : p ≠ a ∧ p ≠ b := by
  obtain ⟨xs, ha⟩ := m.la
  obtain ⟨ys, hb⟩ := m.lb
  exact ⟨fun q => by rw [q, ha] at e; cases e; exact h _ rfl, fun q => by rw [q, hb] at e; cases e; exact h _ rfl⟩
theorem sqt_k2 {K : PySem.W.Frag} {a b p : Addr} {H H' : Hp} {xs : List V} (m : MixAt H a b) (k : K2 a b H H') (h : SqT K H p xs) : SqT K H' p xs :=
  h.imp (fun z => z.elim (fun z => .inl (let q := m.nt z (fun _ y => by cases y); k _ _ q.1 q.2 z)) fun ⟨o, z⟩ => .inr ⟨o, let q := m.nt z (fun _ y => by cases y); k _ _ q.1 q.2 z⟩) id
theorem DeV.k2 {K : PySem.W.Frag} {a b : Addr} {H H' : Hp} {d : De} {v : V} (m : MixAt H a b) (k : K2 a b H H') (h : DeV K H d v) : DeV K H' d v := by
  obtain ⟨p, q, e, h1, h2⟩ := h
  exact ⟨p, q, e, sqt_k2 m k h1, sqt_k2 m k h2⟩
/-- a number is drawn -/
theorem te_nx {K : PySem.W.Frag} {σ : L2.St} {H : Hp} {Q : VK} {a b : Addr} {n : Nat} {j : Nat} (hj : σ[j]? = some (some (.ref a))) (n0 : 0 < n) (n1 : n < 1000000) (m : MixAt H a b) (h : ∀ (r : Nat) H', r < n → MixAt H' a b → K2 a b H H' → Q (.int r) H') :
    tCall (spNx K) [] E0 (tCons (tVar j) (tCons (tC (.int (n : Int))) tNil)) σ H Q := by
  refine ⟨_, hj, a, b, n, rfl, by omega, by omega, m, fun r H' r0 r1 m' k => ?_⟩
  obtain ⟨x, rfl⟩ : ∃ x : Nat, r = x := ⟨r.toNat, by omega⟩
  exact h x H' (by omega) m' k
theorem nx_at {K : PySem.W.Frag} {H : Hp} {Q : VK} {E : XK} {a b : Addr} {n : Nat} (n0 : 0 < n) (n1 : n < 1000000) (m : MixAt H a b) (h : ∀ (r : Nat) H', r < n → MixAt H' a b → K2 a b H H' → Q (.int r) H') : spNx K [.ref a, .int (n : Int)] H Q E := by
  refine ⟨a, b, n, rfl, by omega, by omega, m, fun r H' r0 r1 m' k => ?_⟩
  obtain ⟨x, rfl⟩ : ∃ x : Nat, r = x := ⟨r.toNat, by omega⟩
  exact h x H' (by omega) m' k
/-- some deeds, as a list in the heap -/
structure DsAt (K : PySem.W.Frag) (H : Hp) (l : Addr) (ds : List De) (us : List V) : Prop where
  at_ : H l = some (.lst us)
  pw : Paired (DeV K H) ds us
  ok : ∀ d ∈ ds, GoodDe d
theorem DsAt.k2 {K : PySem.W.Frag} {a b l : Addr} {H H' : Hp} {ds : List De} {us : List V} (d : DsAt K H l ds us) (m : MixAt H a b) (k : K2 a b H H') (h1 : l ≠ a) (h2 : l ≠ b) : DsAt K H' l ds us :=
  ⟨k _ _ h1 h2 d.at_, pw_imp (fun _ _ h => h.k2 m k) d.pw, d.ok⟩
theorem DsAt.add {K : PySem.W.Frag} {l : Addr} {H : Hp} {ds : List De} {us : List V} {e : De} {v : V} (d : DsAt K H l ds us) (g : GoodDe e) (h : DeV K H e v) : DsAt K (upd H l (.lst (us ++ [v]))) l (ds ++ [e]) (us ++ [v]) :=
  ⟨upd_same, pw_app (pw_imp (fun _ _ h => h.lst d.at_) d.pw) (.cons (h.lst d.at_) .nil), fun x hx => (List.mem_append.mp hx).elim (d.ok x) fun z => by rw [List.mem_singleton.mp z]; exact g⟩
def spDs (K : PySem.W.Frag) : Sp := fun vs H Q _ => ∃ (a b : Addr) (n : Nat), vs = [.ref a, .int n] ∧ n ≤ 60 ∧ MixAt H a b ∧ a ≠ b ∧
  ∀ l ds us H', H l = none → MixAt H' a b → DsAt K H' l ds us → ds.length = n → K2 a b H H' → Q (.ref l) H'
section
variable {P : Program} {w : World} {K : PySem.W.Frag} {mg : Str → Option Value} {base : Heap}
theorem scDs : FnScope ["_law_h", "_law_many", "_law_one", "_law_found", "_law_k", "_law_way", "_law_numbers"] ["_law_h", "_law_many"] (defScope s_l_deeds) := ⟨rfl, rfl, rfl, by decide +kernel, rfl, by decide +kernel, by decide +kernel⟩
theorem ok_ds {f fn : Addr} {fd fdn : FuncData} (F : Fun K "_law_deeds" "_law_deeds" s_l_deeds f fd) (T : Txt mg) (Cn : Cal P w K mg base 1 "_law_next" ["_law_h", "_law_many"] (spNx K) fn fdn) : FnOk P w K mg base CX0 2 f fd ["_law_h", "_law_many"] (spDs K) := by
  refine F.ok scDs (fun vs H Q E h => ?_) (fun cdv A outer s H vs Q E hr h => ?_)
  · obtain ⟨a, b, n, rfl, _⟩ := h
    rfl
  · obtain ⟨a, b, n, rfl, hn, m0, nab, kk⟩ := h
    have hr1 : Room 1 _ := hr
    refine ⟨_, (pss_cons (ps_set (i := 2) scDs.nd rfl (Or.inl rfl) (pe_lst (pa_cons pe_str (pa_cons pe_str (pa_cons pe_str (pa_cons pe_str (pa_cons pe_str (pa_cons pe_str (pa_cons pe_str (pa_cons pe_str (pa_cons pe_str (pa_cons pe_str (pa_cons pe_str pa_nil)))))))))))))
      (pss_cons (ps_set (i := 3) scDs.nd rfl (Or.inl rfl) (pe_lst pa_nil))
      (pss_cons (ps_for PassesOwn.never rfl (pi_range1 rfl T.range (pa_cons (pv 1) pa_nil)) (pg_name (i := 4) scDs.nd rfl (Or.inl rfl))
        (pss_cons (ps_par (i := 5) (j := 6) (by rfl) scDs.nd rfl rfl (by decide) rfl rfl (pa_cons (pe_call Cn.G hr1 (by rfl) Cn.g Cn.kp Cn.b .nil pass0 (pa_cons (pv 0) (pa_cons pe_int pa_nil))) (pa_cons (pe_lst (pa_cons (pe_call Cn.G hr1 (by rfl) Cn.g Cn.kp Cn.b .nil pass0 (pa_cons (pv 0) (pa_cons pe_int pa_nil))) (pa_cons (pe_call Cn.G hr1 (by rfl) Cn.g Cn.kp Cn.b .nil pass0 (pa_cons (pv 0) (pa_cons (pe_ix (RK.ixL (K := K)) (pe_lst (pa_cons pe_int (pa_cons pe_int pa_nil))) (pe_call Cn.G hr1 (by rfl) Cn.g Cn.kp Cn.b .nil pass0 (pa_cons (pv 0) (pa_cons pe_int pa_nil))) (fun _ _ => rfl)) pa_nil))) pa_nil))) pa_nil)) (by rfl))
        (pss_one (ps_if (pt_cmpR op_lt (pv 5) pe_int (nomark _)) (pss_one (ps_expr (RK.bm (K := K) PySem.F.plainAttrs_list PySem.F.slot_list_append PySem.F.type_list_append mt_append (pv 3) (pa_cons (pe_tup (pa_cons (pe_ix (RK.ixL (K := K)) (pv 2) (pe_call Cn.G hr1 (by rfl) Cn.g Cn.kp Cn.b .nil pass0 (pa_cons (pv 0) (pa_cons pe_int pa_nil))) (fun _ _ => rfl)) (pa_cons (pe_tup (pa_cons (pe_ix (RK.ixL (K := K)) (pv 6) pe_int (fun _ _ => rfl)) pa_nil)) (pa_cons pe_str pa_nil)))) pa_nil)))) (pss_one (ps_if (pt_cmpR op_eq (pv 5) pe_int (nomark _)) (pss_one (ps_expr (RK.bm (K := K) PySem.F.plainAttrs_list PySem.F.slot_list_append PySem.F.type_list_append mt_append (pv 3) (pa_cons (pe_tup (pa_cons (pe_ix (RK.ixL (K := K)) (pe_lst (pa_cons pe_str (pa_cons pe_str (pa_cons pe_str pa_nil)))) (pe_call Cn.G hr1 (by rfl) Cn.g Cn.kp Cn.b .nil pass0 (pa_cons (pv 0) (pa_cons pe_int pa_nil))) (fun _ _ => rfl)) (pa_cons (pe_callTy (RK.tupQ (K := K)) (by rfl) T.tuple (by decide +kernel) (pa_cons (pv 6) pa_nil)) (pa_cons pe_str pa_nil)))) pa_nil)))) (pss_one (ps_if (pt_cmpR op_eq (pv 5) pe_int (nomark _)) (pss_one (ps_expr (RK.bm (K := K) PySem.F.plainAttrs_list PySem.F.slot_list_append PySem.F.type_list_append mt_append (pv 3) (pa_cons (pe_tup (pa_cons (pe_ix (RK.ixL (K := K)) (pe_lst (pa_cons pe_str (pa_cons pe_str pa_nil))) (pe_call Cn.G hr1 (by rfl) Cn.g Cn.kp Cn.b .nil pass0 (pa_cons (pv 0) (pa_cons pe_int pa_nil))) (fun _ _ => rfl)) (pa_cons (pe_tup pa_nil) (pa_cons pe_str pa_nil)))) pa_nil)))) (pss_one (ps_expr (RK.bm (K := K) PySem.F.plainAttrs_list PySem.F.slot_list_append PySem.F.type_list_append mt_append (pv 3) (pa_cons (pe_tup (pa_cons pe_str (pa_cons (pe_tup (pa_cons (pe_ix (RK.ixL (K := K)) (pv 6) pe_int (fun _ _ => rfl)) pa_nil)) (pa_cons (pe_ix (RK.ixL (K := K)) (pe_lst (pa_cons pe_str (pa_cons pe_str (pa_cons pe_str (pa_cons pe_str (pa_cons pe_str pa_nil)))))) (pe_call Cn.G hr1 (by rfl) Cn.g Cn.kp Cn.b .nil pass0 (pa_cons (pv 0) (pa_cons pe_int pa_nil))) (fun _ _ => rfl)) pa_nil)))) pa_nil))))))))))))
      (pss_one (ps_ret (pv 3)))))), ?_⟩
    refine sa1 ⟨by show 11 ≤ sizeLine; decide, fun o1 ho1 => gn ?_⟩
    have s1 := same_new (o := .lst (ones.map V.str)) ho1
    have e1 : (upd H o1 (.lst (ones.map V.str))) o1 = some (.lst (ones.map V.str)) := upd_same
    change tSeq _ _ _ _ (upd H o1 (.lst (ones.map V.str)))
    generalize upd H o1 (.lst (ones.map V.str)) = H1 at s1 e1 ⊢
    refine sa1 ⟨by show 0 ≤ sizeLine; decide, fun l hl => gn ?_⟩
    have s2 := same_new (o := .lst []) hl
    have e2 : (upd H1 l (.lst [])) l = some (.lst []) := upd_same
    have nl : H l = none := none_of_same s1 hl
    have n12 : o1 ≠ l := fun q => by rw [← q, e1] at hl; cases hl
    have e1' := s2 _ _ e1
    have m2 := (m0.same s1).same s2
    have k2 : K2 a b H (upd H1 l (.lst [])) := K2.same (s1.trans s2)
    obtain ⟨xa, ha⟩ := m0.la
    obtain ⟨xb, hb⟩ := m0.lb
    have la : l ≠ a := fun q => by rw [q, ha] at nl; cases nl
    have lb : l ≠ b := fun q => by rw [q, hb] at nl; cases nl
    have oa : o1 ≠ a := fun q => by rw [q, ha] at ho1; cases ho1
    have ob : o1 ≠ b := fun q => by rw [q, hb] at ho1; cases ho1
    generalize upd H1 l (.lst []) = H2 at e2 e1' m2 k2 ⊢
    refine at_stM (σ' := [some (.ref a), some (.int n), some (.ref o1), some (.ref l), none, none, none]) rfl ?_
    refine ⟨_, rfl, n, rfl, by omega, by omega, for_range (lo := 0) (n := ((n : Nat) : Int).toNat) (fun i σ H' => ∃ v4 v5 v6 ds us, σ = [some (.ref a), some (.int n), some (.ref o1), some (.ref l), v4, v5, v6] ∧ H' o1 = some (.lst (ones.map V.str)) ∧ MixAt H' a b ∧ DsAt K H' l ds us ∧ ds.length = i ∧ K2 a b H H')
      ⟨none, none, none, [], [], rfl, e1', m2, ⟨e2, .nil, fun _ z => by cases z⟩, rfl, k2⟩ ?_ ?_⟩
    · rintro i σ H3 hi ⟨v4, v5, v6, ds, us, rfl, eo, m3, dd, ld, k3⟩
      have li : i < n := by omega
      refine gn ?_
      refine par1 (te_nx (n := 5) rfl (by decide) (by decide) m3 fun way H4 hw m4 k4 => te_nx (n := 10) rfl (by decide) (by decide) m4 fun n0 H5 hn0 m5 k5 => ?_)
      refine ⟨_, rfl, by show 2 ≤ sizeLine; decide, fun q hq => te_nx (n := 2) rfl (by decide) (by decide) (m5.same (same_new hq)) fun j H6 hj m6 k6 => ?_⟩
      have qab : q ≠ a ∧ q ≠ b := ⟨(fun z => by obtain ⟨_, y⟩ := m5.la; rw [z, y] at hq; cases hq), (fun z => by obtain ⟨_, y⟩ := m5.lb; rw [z, y] at hq; cases hq)⟩
      have eq6 : H6 q = some (.lst [.int 10, .int 1000]) := k6 _ _ qab.1 qab.2 upd_same
      obtain ⟨N, hN, aN, nN0, nN1⟩ : ∃ N : Nat, N ≤ 1000 ∧ atI [V.int 10, V.int 1000] (j : Int) = some (.int (N : Nat)) ∧ 0 < N ∧ N < 1000000 := by
        have : j = 0 ∨ j = 1 := by omega
        rcases this with rfl | rfl
        · exact ⟨10, by decide, at0, by decide, by decide⟩
        · exact ⟨1000, by decide, atI_nat (j := 1) rfl, by decide, by decide⟩
      refine ⟨q, _, j, _, rfl, rfl, SqL.of eq6, aN, a, b, N, rfl, by omega, by omega, m6, fun r1 H7 r10 hr11 m7 k7 => ⟨by show 2 ≤ sizeLine; decide, fun p6 hp6 => ⟨_, _, rfl, ?_⟩⟩⟩
      obtain ⟨n1, rfl⟩ : ∃ x : Nat, r1 = x := ⟨r1.toNat, by omega⟩
      have hn1 : n1 < N := by omega
      have k37 : K2 a b H3 H7 := k4.trans (k5.trans ((K2.same (same_new hq)).trans (k6.trans k7)))
      have s8 := same_new (o := .lst [.int (n0 : Nat), .int (n1 : Nat)]) hp6
      have e8 : (upd H7 p6 (.lst [.int (n0 : Nat), .int (n1 : Nat)])) p6 = some (.lst [.int (n0 : Nat), .int (n1 : Nat)]) := upd_same
      have k38 : K2 a b H3 (upd H7 p6 (.lst [.int (n0 : Nat), .int (n1 : Nat)])) := k37.trans (K2.same s8)
      have m8 := m7.same s8
      have p6l : p6 ≠ l := fun z => by rw [z, k37 _ _ la lb dd.at_] at hp6; cases hp6
      have p6ab : p6 ≠ a ∧ p6 ≠ b := ⟨(fun z => by obtain ⟨_, y⟩ := m7.la; rw [z, y] at hp6; cases hp6), (fun z => by obtain ⟨_, y⟩ := m7.lb; rw [z, y] at hp6; cases hp6)⟩
      generalize upd H7 p6 (.lst [.int (n0 : Nat), .int (n1 : Nat)]) = H8 at e8 k38 m8 ⊢
      have d8 := dd.k2 m3 k38 la lb
      have o8 := k38 _ _ oa ob eo
      have k8 := k3.trans k38
      refine at_stM (σ' := [some (.ref a), some (.int n), some (.ref o1), some (.ref l), some (.int (0 + (i : Nat))), some (.int (way : Nat)), some (.ref p6)]) rfl ?_
      -- the turn's end
      have fin : ∀ {e : De} {v : V} {H9 : Hp}, GoodDe e → DeV K H9 e v → MixAt H9 a b → K2 a b H8 H9 → ∃ v4 v5 v6 ds us, [some (V.ref a), some (.int n), some (.ref o1), some (.ref l), some (.int (0 + (i : Nat))), some (.int (way : Nat)), some (.ref p6)] = [some (V.ref a), some (.int n), some (.ref o1), some (.ref l), v4, v5, v6] ∧
          (∀ us', H9 l = some (.lst us') → (upd H9 l (.lst (us' ++ [v]))) o1 = some (.lst (ones.map V.str)) ∧ MixAt (upd H9 l (.lst (us' ++ [v]))) a b ∧ DsAt K (upd H9 l (.lst (us' ++ [v]))) l ds us ∧ ds.length = i + 1 ∧ K2 a b H (upd H9 l (.lst (us' ++ [v])))) := fun {e v H9} g dv m9 k9 => by
        have d9 := d8.k2 m8 k9 la lb
        refine ⟨_, _, _, ds ++ [e], us ++ [v], rfl, fun us' eu => ?_⟩
        rw [d9.at_] at eu
        cases eu
        refine ⟨by rw [upd_ne n12]; exact k9 _ _ oa ob o8, ?_, d9.add g dv, by rw [List.length_append, ld]; rfl, fun x o h1 h2 ex => ?_⟩
        · obtain ⟨mm, cs, pp, h1, h2, h3⟩ := m9
          exact ⟨mm, cs, pp, by rw [upd_ne la.symm]; exact h1, by rw [upd_ne lb.symm]; exact h2, h3⟩
        · rw [upd_ne (fun z => by rw [z, nl] at ex; cases ex)]
          exact k9 _ _ h1 h2 (k8 _ _ h1 h2 ex)
      have few : us.length ≤ 60 := by have := pw_len dd.pw; omega
      have w4 : way = 0 ∨ way = 1 ∨ way = 2 ∨ way = 3 ∨ way = 4 := by omega
      -- the deed is added
      have add : ∀ {e : De} {v : V} {H9 : Hp}, GoodDe e → DeV K H9 e v → MixAt H9 a b → K2 a b H8 H9 → rAppend (.ref l) [v] H9 fun _ H10 => ∃ v4 v5 v6 ds us, [some (V.ref a), some (.int n), some (.ref o1), some (.ref l), some (.int (0 + (i : Nat))), some (.int (way : Nat)), some (.ref p6)] = [some (V.ref a), some (.int n), some (.ref o1), some (.ref l), v4, v5, v6] ∧
          H10 o1 = some (.lst (ones.map V.str)) ∧ MixAt H10 a b ∧ DsAt K H10 l ds us ∧ ds.length = i + 1 ∧ K2 a b H H10 := fun {e v H9} g dv m9 k9 => by
        have d9 := (d8.k2 m8 k9 la lb).at_
        obtain ⟨v4, v5, v6, ds', us', h1, h2⟩ := fin g dv m9 k9
        exact ⟨l, us, v, rfl, rfl, d9, Nat.lt_of_le_of_lt few (by decide), v4, v5, v6, ds', us', h1, h2 us d9⟩
      by_cases c1 : way < 2
      · refine ifs ⟨_, rfl, _, _, rfl, rfl, _, rfl, ?_⟩
        rw [decide_eq_true (show ((way : Nat) : Int) < 2 by omega)]
        refine iteT ⟨_, rfl, .inl ⟨rfl, _, SqL.of d8.at_⟩, _, rfl, te_nx (n := 11) rfl (by decide) (by decide) m8 fun r H9 hr9 m9 k9 => ?_⟩
        obtain ⟨wd, ewd⟩ : ∃ wd, ones[r]? = some wd := ⟨_, List.getElem?_eq_getElem (show r < ones.length from hr9)⟩
        refine ⟨o1, _, r, _, rfl, rfl, SqL.of (k9 _ _ oa ob o8), atI_nat (by rw [List.getElem?_map, ewd]; rfl), _, rfl, p6, _, 0, _, rfl, rfl, SqL.of (k9 _ _ p6ab.1 p6ab.2 e8), at0, by show 1 ≤ sizeLine; decide, fun q2 hq2 => ⟨by show 3 ≤ sizeLine; decide, fun v hv => ?_⟩⟩
        have t1 := same_new (o := .tup [.int (n0 : Nat)]) hq2
        have t2 := same_new (o := .tup [.str wd, .ref q2, .str ""]) hv
        exact add (e := ⟨wd, [n0], ""⟩) (.inl ⟨List.mem_of_getElem? ewd, n0, hn0, rfl, rfl⟩) ⟨v, q2, rfl, SqT.of upd_same, SqT.of (t2 _ _ upd_same)⟩ ((m9.same t1).same t2) (k9.trans (K2.same (t1.trans t2)))
      · refine ifs ⟨_, rfl, _, _, rfl, rfl, _, rfl, ?_⟩
        rw [decide_eq_false (show ¬ ((way : Nat) : Int) < 2 by omega)]
        refine iteF ?_
        by_cases c2 : way = 2
        · refine ifs ⟨_, rfl, rfl, _, rfl, ?_⟩
          rw [v_int, decide_eq_true (show ((way : Nat) : Int) = 2 by omega)]
          refine iteT ⟨_, rfl, .inl ⟨rfl, _, SqL.of d8.at_⟩, by show 3 ≤ sizeLine; decide, fun q3 hq3 => te_nx (n := 3) rfl (by decide) (by decide) (m8.same (same_new hq3)) fun r H9 hr9 m9 k9 => ?_⟩
          have q3ab : q3 ≠ a ∧ q3 ≠ b := ⟨(fun z => by obtain ⟨_, y⟩ := m8.la; rw [z, y] at hq3; cases hq3), (fun z => by obtain ⟨_, y⟩ := m8.lb; rw [z, y] at hq3; cases hq3)⟩
          obtain ⟨wd, ewd⟩ : ∃ wd, twos[r]? = some wd := ⟨_, List.getElem?_eq_getElem (show r < twos.length from hr9)⟩
          have k89 : K2 a b H8 H9 := (K2.same (same_new hq3)).trans k9
          have e9 : H9 q3 = some (.lst (twos.map V.str)) := k9 _ _ q3ab.1 q3ab.2 upd_same
          refine ⟨q3, _, r, _, rfl, rfl, SqL.of e9, atI_nat (by rw [List.getElem?_map, ewd]; rfl), _, rfl, p6, _, rfl, .inl ⟨SqL.of (k89 _ _ p6ab.1 p6ab.2 e8), fun q2 hq2 => ⟨by show 3 ≤ sizeLine; decide, fun v hv => ?_⟩⟩⟩
          have t1 := same_new (o := .tup [.int (n0 : Nat), .int (n1 : Nat)]) hq2
          have t2 := same_new (o := .tup [.str wd, .ref q2, .str ""]) hv
          exact add (e := ⟨wd, [n0, n1], ""⟩) (.inr (.inl ⟨List.mem_of_getElem? ewd, n0, n1, hn0, by omega, rfl, rfl⟩)) ⟨v, q2, rfl, SqT.of upd_same, SqT.of (t2 _ _ upd_same)⟩ ((m9.same t1).same t2) (k89.trans (K2.same (t1.trans t2)))
        · refine ifs ⟨_, rfl, rfl, _, rfl, ?_⟩
          rw [v_int, decide_eq_false (show ¬ ((way : Nat) : Int) = 2 by omega)]
          refine iteF ?_
          by_cases c3 : way = 3
          · refine ifs ⟨_, rfl, rfl, _, rfl, ?_⟩
            rw [v_int, decide_eq_true (show ((way : Nat) : Int) = 3 by omega)]
            refine iteT ⟨_, rfl, .inl ⟨rfl, _, SqL.of d8.at_⟩, by show 2 ≤ sizeLine; decide, fun q3 hq3 => te_nx (n := 2) rfl (by decide) (by decide) (m8.same (same_new hq3)) fun r H9 hr9 m9 k9 => ?_⟩
            have q3ab : q3 ≠ a ∧ q3 ≠ b := ⟨(fun z => by obtain ⟨_, y⟩ := m8.la; rw [z, y] at hq3; cases hq3), (fun z => by obtain ⟨_, y⟩ := m8.lb; rw [z, y] at hq3; cases hq3)⟩
            obtain ⟨wd, ewd⟩ : ∃ wd, noes[r]? = some wd := ⟨_, List.getElem?_eq_getElem (show r < noes.length from hr9)⟩
            have k89 : K2 a b H8 H9 := (K2.same (same_new hq3)).trans k9
            have e9 : H9 q3 = some (.lst (noes.map V.str)) := k9 _ _ q3ab.1 q3ab.2 upd_same
            refine ⟨q3, _, r, _, rfl, rfl, SqL.of e9, atI_nat (by rw [List.getElem?_map, ewd]; rfl), by show 0 ≤ sizeLine; decide, fun q2 hq2 => ⟨by show 3 ≤ sizeLine; decide, fun v hv => ?_⟩⟩
            have t1 := same_new (o := .tup []) hq2
            have t2 := same_new (o := .tup [.str wd, .ref q2, .str ""]) hv
            exact add (e := ⟨wd, [], ""⟩) (.inr (.inr (.inl ⟨List.mem_of_getElem? ewd, rfl, rfl⟩))) ⟨v, q2, rfl, SqT.of upd_same, SqT.of (t2 _ _ upd_same)⟩ ((m9.same t1).same t2) (k89.trans (K2.same (t1.trans t2)))
          · refine ifs ⟨_, rfl, rfl, _, rfl, ?_⟩
            rw [v_int, decide_eq_false (show ¬ ((way : Nat) : Int) = 3 by omega)]
            refine iteF ⟨_, rfl, .inl ⟨rfl, _, SqL.of d8.at_⟩, _, rfl, p6, _, 0, _, rfl, rfl, SqL.of e8, at0, by show 1 ≤ sizeLine; decide, fun q2 hq2 => ⟨by show 5 ≤ sizeLine; decide, fun q3 hq3 => te_nx (n := 5) rfl (by decide) (by decide) ((m8.same (same_new hq2)).same (same_new hq3)) fun r H9 hr9 m9 k9 => ?_⟩⟩
            have t1 := same_new (o := .tup [.int (n0 : Nat)]) hq2
            have q2ab : q2 ≠ a ∧ q2 ≠ b := ⟨(fun z => by obtain ⟨_, y⟩ := m8.la; rw [z, y] at hq2; cases hq2), (fun z => by obtain ⟨_, y⟩ := m8.lb; rw [z, y] at hq2; cases hq2)⟩
            have q3ab : q3 ≠ a ∧ q3 ≠ b := ⟨(fun z => by obtain ⟨_, y⟩ := (m8.same t1).la; rw [z, y] at hq3; cases hq3), (fun z => by obtain ⟨_, y⟩ := (m8.same t1).lb; rw [z, y] at hq3; cases hq3)⟩
            obtain ⟨tx, etx⟩ : ∃ tx, texts5[r]? = some tx := ⟨_, List.getElem?_eq_getElem (show r < texts5.length from hr9)⟩
            have k89 : K2 a b H8 H9 := (K2.same (t1.trans (same_new hq3))).trans k9
            have e9 : H9 q3 = some (.lst (texts5.map V.str)) := k9 _ _ q3ab.1 q3ab.2 upd_same
            have e2 : H9 q2 = some (.tup [.int (n0 : Nat)]) := k9 _ _ q2ab.1 q2ab.2 (same_new hq3 _ _ upd_same)
            refine ⟨q3, _, r, _, rfl, rfl, SqL.of e9, atI_nat (by rw [List.getElem?_map, etx]; rfl), by show 3 ≤ sizeLine; decide, fun v hv => ?_⟩
            have t2 := same_new (o := .tup [.str "ask", .ref q2, .str tx]) hv
            exact add (e := ⟨"ask", [n0], tx⟩) (.inr (.inr (.inr ⟨rfl, n0, hn0, rfl, List.mem_of_getElem? etx⟩))) ⟨v, q2, rfl, SqT.of upd_same, SqT.of (t2 _ _ e2)⟩ (m9.same t2) (k89.trans (K2.same t2))
    · rintro σ H3 ⟨v4, v5, v6, ds, us, rfl, eo, m3, dd, ld, k3⟩
      exact ⟨_, rfl, kk l ds us H3 nl m3 dd (by omega) k3⟩
end
end GS

set_option linter.all false
set_option maxHeartbeats 4000000
namespace GS
open PySem L2 HX TH LamX NdefX
theorem sub_add' {cs : List (Addr × Obj)} {H : Hp} (n : CsNone cs H) : subC cs (addC cs H) = H := by
  funext b
  cases e : cs.lookup b with
  | some o => rw [subC_in e, n b o e]
  | none => rw [subC_out e, addC_out e]
theorem opened_none {X : Cx} {σ : L2.St} {H : Hp} {cs : List (Addr × Obj)} (O : Opened X σ H cs) : CsNone cs H := fun b o e => by
  obtain ⟨pins, s, I, h⟩ := O
  exact (csAt_cells I h b o e).2
/-- _law_place(lambda: ..), the lambda made at H1 -/
theorem te_pl1 {K : PySem.W.Frag} {CT : Addr} {X : Cx} {k : Nat} {σ : L2.St} {H1 : Hp} {Q : VK} {f : Addr} {N : List Str} {js : List Nat} {ds : List V} {tb : XK → TE} {cs : List (Addr × Obj)} (O : Opened X σ H1 cs) (l : Lamb X k H1 f N js ds tb)
    (h : ∀ (Q' : VK) (E' : XK), (∀ v H2, Q (.int (-1)) H2 → Q' v H2) → (∀ (n : Nat) (dx : Addr) H2, H2 dx = some (.xd [("place", .int n)]) → Q (.int n) H2 → E' (.ref CT) (some dx) H2) → tb E' (startF N ds (js.map (slotAt σ))) H1 Q') (hK : X.K = K := by rfl) :
    spPl X.prog X.w X.K X.mg X.base (k + 1) CT [V.ref f] (addC cs H1) (fun v H2 => CsIn cs H2 → Q v (subC cs H2)) E0 := by
  subst hK
  refine ⟨f, _, fun cls d Hc => ∃ H2 n dx, Hc = addC cs H2 ∧ CsNone cs H2 ∧ cls = .ref CT ∧ d = some dx ∧ H2 dx = some (.xd [("place", .int (n : Nat))]) ∧ Q (.int n) H2, rfl, l.thunk O, fun Qb hQ ci => ?_, fun cls d Hc ⟨H2, n, dx, e, nn, q1, q2, q3, q4⟩ => ?_⟩
  · rw [sub_add' (opened_none O)]
    refine h _ _ (fun v H2 q n => hQ _ _ fun _ => ?_) fun n dx H2 e q nn => ⟨H2, n, dx, rfl, nn, rfl, rfl, e, q⟩
    rw [sub_add' n]
    exact q
  · subst e
    have o : cs.lookup dx = none := by
      cases z : cs.lookup dx with
      | some u => rw [nn dx u z] at q3; cases q3
      | none => rfl
    refine ⟨n, dx, q1, q2, by rw [addC_out o]; exact q3, fun _ => ?_⟩
    rw [sub_add' nn]
    exact q4
theorem te_placeL {K : PySem.W.Frag} {CT : Addr} {X : Cx} {k : Nat} {T : List (Addr × Str)} {N : List Str} {js : List Nat} {tb : XK → TE} {σ : L2.St} {H : Hp} {Q : VK} {P : Program} {w : World} {mg : Str → Option Value} {base : Heap} (hT : Tabs T H)
    (h : ∀ (f : Addr) H1, ExtN H H1 → (∀ b, H1 b = Option.none → H b = Option.none) → Tabs T H1 → ∀ (Q' : VK) (E' : XK), (∀ v H2, Q (.int (-1)) H2 → Q' v H2) → (∀ (n : Nat) (dx : Addr) H2, H2 dx = some (.xd [("place", .int n)]) → Q (.int n) H2 → E' (.ref CT) (some dx) H2) → tb E' (startF N [] (js.map (slotAt σ))) H1 Q')
    (h1 : X.prog = P := by rfl) (h2 : X.w = w := by rfl) (h3 : X.K = K := by rfl) (h4 : X.mg = mg := by rfl) (h5 : X.base = base := by rfl) : tCallC X (spPl P w K mg base (k + 1) CT) [] E0 (tCons (tLam0 X k T N js tb) tNil) σ H Q := by
  subst h1 h2 h3 h4 h5
  exact ⟨hT, fun f H1 e nn t f0 l cs' O => te_pl1 O l (h f H1 e nn t)⟩
/-! ### the first row that is bad -/
def badRow (t : Str) (k : Nat) : Bool := match (rowsOf t)[k]? with | some r => (readDeed r).isNone | none => false
def firstBad (t : Str) : Int := match (List.range (rowsOf t).length).find? (badRow t) with | some i => (i : Int) | none => -1
theorem first_cases (t : Str) : (∃ ds, (rowsOf t).map readDeed = List.map some ds ∧ firstBad t = -1) ∨ ∃ (i : Nat) (row : Str), (rowsOf t)[i]? = some row ∧ readDeed row = none ∧ (∀ j r, j < i → (rowsOf t)[j]? = some r → readDeed r ≠ none) ∧ firstBad t = i := by
  unfold firstBad
  cases h : (List.range (rowsOf t).length).find? (badRow t) with
  | none =>
    left
    have all : ∀ r ∈ rowsOf t, readDeed r ≠ none := fun r hr z => by
      obtain ⟨k, hk⟩ := List.mem_iff_getElem?.mp hr
      have lk : k < (rowsOf t).length := (List.getElem?_eq_some_iff.mp hk).1
      have := List.find?_eq_none.mp h k (List.mem_range.mpr lk)
      refine this ?_
      unfold badRow
      rw [hk]
      show (readDeed r).isNone = true
      rw [z]; rfl
    have key : ∀ l : List Str, (∀ r ∈ l, readDeed r ≠ none) → ∃ ds, l.map readDeed = List.map some ds := fun l => by
      induction l with
      | nil => exact fun _ => ⟨[], rfl⟩
      | cons r l ih =>
        intro hl
        obtain ⟨ds, e⟩ := ih fun x hx => hl x (List.mem_cons_of_mem _ hx)
        cases q : readDeed r with
        | none => exact absurd q (hl r (List.mem_cons_self ..))
        | some d => exact ⟨d :: ds, by rw [List.map_cons, q, e]; rfl⟩
    obtain ⟨ds, e⟩ := key _ all
    exact ⟨ds, e, rfl⟩
  | some i =>
    right
    have hp := List.find?_some h
    have lt : i < (rowsOf t).length := List.mem_range.mp (List.mem_of_find?_eq_some h)
    have ei : (rowsOf t)[i]? = some (rowsOf t)[i] := List.getElem?_eq_getElem lt
    refine ⟨i, (rowsOf t)[i], ei, ?_, fun j r hj ej z => ?_, rfl⟩
    · unfold badRow at hp
      rw [ei] at hp
      exact Option.isNone_iff_eq_none.mp hp
    · rw [List.find?_range_eq_some] at h
      have := h.2.2 j hj
      unfold badRow at this
      rw [ej] at this
      have this : (!(readDeed r).isNone) = true := this
      rw [z] at this
      cases this
end GS

set_option linter.all false
set_option maxHeartbeats 8000000
namespace GS
open PySem L2 HX TH LamX NdefX
def Tb (PB : Addr) : List (Addr × Str) := [(PB, "law.<locals>.<lambda>")]
theorem passN {P : Program} {w : World} {K : PySem.W.Frag} {mg : Str → Option Value} {base : Heap} {N : List Str} {F : NF} {f : Addr} {A : Around} {outer : List Env} {s : Shared} {H : Hp} {E : XK} : Passes (L2.CX P w) (ncx (L2.CX P w) P w K mg base N F f A outer s H E) E :=
  passes_call (takes_of rfl rfl rfl rfl) fun _ _ _ _ h => h
theorem passE0 {X : Cx} : Passes (L2.CX X.prog X.w) X E0 := passes_call L2.takes0 fun _ _ _ _ z => z
def spLaw (K : PySem.W.Frag) (PB : Addr) : Sp := fun vs H Q _ => ∃ (a : Addr) (ns : List Int), vs = [.ref a] ∧ SqL K H a (ns.map V.int) ∧ ns.length ≤ 63 ∧ Tabs (Tb PB) H ∧ ∀ H', Q (.bl true) H'
theorem tabs_k2 {Tt : List (Addr × Str)} {a b : Addr} {H H' : Hp} (t : Tabs Tt H) (m : MixAt H a b) (k : K2 a b H H') : Tabs Tt H' := fun p hp => by
  obtain ⟨ps, h1, h2, h3⟩ := t p hp
  have n1 := m.nt h1 (fun _ y => by cases y)
  refine ⟨ps, k _ _ n1.1 n1.2 h1, h2, fun pos cv hc => ?_⟩
  obtain ⟨c, e1, e2⟩ := h3 pos cv hc
  have n2 := m.nt e2 (fun _ y => by cases y)
  exact ⟨c, e1, k _ _ n2.1 n2.2 e2⟩
theorem MixAt.ne {a b : Addr} {H : Hp} (m : MixAt H a b) : a ≠ b := fun z => by
  obtain ⟨x, cs, p, h1, h2, _⟩ := m
  rw [z, h2] at h1
  injection h1 with h1
  injection h1 with h1
  have q : (cs.map V.int)[1]? = some (.ref b) := by rw [h1]; rfl
  obtain ⟨_, y⟩ := getIM q
  cases y
def odd20 : List Str := ["", "come", "come 1 2", "ask 1", "ask 1 ", "ask x begin", "rise 1", "come -1", "come 01", "Come 1", "letters 1", "come 1000", " come 1", "come 1 ", "turn 1  2", "come 007", "go 1", "ask", "ask 1  begin", "known"]
theorem odd_short : ∀ z ∈ odd20, z.length ≤ 20 := by decide +kernel
theorem rows_sum : ∀ ds : List De, (∀ d ∈ ds, GoodDe d) → ((ds.map De.row).map (·.length)).sum ≤ 352 * ds.length := fun ds => by
  induction ds with
  | nil => intro _; exact Nat.le_refl 0
  | cons d ds ih =>
    intro h
    have a := (h d (List.mem_cons_self ..)).ok.row
    have b := ih fun x m => h x (List.mem_cons_of_mem _ m)
    rw [List.map_cons, List.map_cons, List.sum_cons, List.length_cons]
    omega
theorem nl_one : Str.length "\n" = 1 := by decide +kernel
theorem join_len (parts : List Str) : (Txt.join "\n" parts).length ≤ (parts.map (·.length)).sum + parts.length := by
  have := joinL_len (TL.tl "\n") (parts.map TL.tl)
  rw [TL.join_eq, TL.len_tl, TL.tl_join]
  have e : (parts.map TL.tl).map List.length = parts.map (·.length) := by rw [List.map_map]; exact List.map_congr_left fun x _ => (TL.len_tl x).symm
  rw [e, List.length_map] at this
  have s1 : (TL.tl "\n").length = 1 := by decide
  rw [s1] at this
  omega
theorem rows_of_good {ds : List De} (h : ∀ d ∈ ds, GoodDe d) : rowsOf (Txt.join "\n" (ds.map De.row)) = ds.map De.row := by
  cases ds with
  | nil => rfl
  | cons d r =>
    have sp : Txt.split (Txt.join "\n" ((d :: r).map De.row)) "\n" = (d :: r).map De.row := TL.split_join sep_nl.e sep_nl.k (by simp) fun p hp => by
      obtain ⟨x, hx, rfl⟩ := List.mem_map.mp hp
      exact (h x hx).line
    unfold rowsOf
    rw [if_neg, sp]
    intro z
    rw [z] at sp
    have s0 : Txt.split "" "\n" = [("" : Str)] := by decide +kernel
    have sp : Txt.split "" "\n" = (d :: r).map De.row := sp
    rw [s0] at sp
    have e : d.row = "" := ((List.cons.inj sp).1).symm
    have := (h d (List.mem_cons_self ..)).read
    rw [e] at this
    have n : (readDeed "").isNone = true := by decide +kernel
    rw [this] at n
    cases n
theorem read_of_good {ds : List De} (h : ∀ d ∈ ds, GoodDe d) : (rowsOf (Txt.join "\n" (ds.map De.row))).map readDeed = ds.map some := by
  rw [rows_of_good h, List.map_map]
  exact List.map_congr_left fun d hd => (h d hd).read
theorem pw_ints {K : PySem.W.Frag} {H : Hp} {n : Nat} : ∀ ns : List Nat, Paired (Ak K H n) (ns.map fun x : Nat => V.int (x : Int)) (ns.map fun x : Nat => V.int (x : Int))
  | [] => .nil
  | x :: r => .cons (by cases n; exact ⟨rfl, rfl⟩; exact .inl ⟨rfl, rfl⟩) (pw_ints r)
theorem ak_deed {K : PySem.W.Frag} {H : Hp} {d : De} {v v' : V} (h : DeV K H d v) (h' : DeV K H d v') (ok : d.Ok) : Ak K H 2 v v' := by
  obtain ⟨p, q, rfl, h1, h2⟩ := h
  obtain ⟨p', q', rfl, h1', h2'⟩ := h'
  exact .inr ⟨p, p', _, _, rfl, rfl, .inl ⟨h1, h1'⟩, by show 3 ≤ 100000; decide, .cons (.inl ⟨rfl, rfl⟩) (.cons (.inr ⟨q, q', _, _, rfl, rfl, .inl ⟨h2, h2'⟩, by rw [List.length_map]; exact Nat.le_trans ok.n (by decide), pw_ints d.ns⟩) (.cons (.inl ⟨rfl, rfl⟩) .nil))⟩
theorem ak_deeds {K : PySem.W.Frag} {H : Hp} : ∀ {ds : List De} {us us' : List V}, (∀ d ∈ ds, d.Ok) → Paired (DeV K H) ds us → Paired (DeV K H) ds us' → Paired (Ak K H 2) us us'
  | _, _, _, _, .nil, .nil => .nil
  | _, _, _, h, .cons a r, .cons b q => .cons (ak_deed a b (h _ (List.mem_cons_self ..))) (ak_deeds (fun d m => h d (List.mem_cons_of_mem _ m)) r q)
theorem somes_inj : ∀ {a b : List De}, a.map some = b.map some → a = b
  | [], [], _ => rfl
  | [], _ :: _, h => by cases h
  | _ :: _, [], h => by cases h
  | x :: a, y :: b, h => by
    rw [List.map_cons, List.map_cons] at h
    obtain ⟨h1, h2⟩ := List.cons.inj h
    rw [Option.some.inj h1, somes_inj h2]
theorem good_never {ds : List De} (h : ∀ d ∈ ds, GoodDe d) {i : Nat} {row : Str} (e : (rowsOf (Txt.join "\n" (ds.map De.row)))[i]? = some row) (z : readDeed row = none) : False := by
  rw [rows_of_good h, List.getElem?_map] at e
  cases q : ds[i]? with
  | none => rw [q] at e; cases e
  | some d =>
    rw [q] at e
    have e : d.row = row := Option.some.inj e
    rw [← e, (h d (List.mem_of_getElem? q)).read] at z
    cases z
theorem cutH (xs : List V) {k : Nat} (h : k ≤ xs.length) : cutV xs none (some (k : Int)) = xs.take k := by
  unfold cutV
  rw [HT.sIx_nat, Nat.min_eq_left h]
  rfl
theorem slice_len (z : Str) (lo hi : Option Int) : (Txt.slice z lo hi).length ≤ z.length := by
  rw [← C8.cutS_slice]
  exact cutS_length z lo hi
theorem MixAt.ext {a b : Addr} {H H' : Hp} (m : MixAt H a b) (s : ExtN H H') : MixAt H' a b := by
  obtain ⟨m, cs, p, h1, h2, h3⟩ := m
  exact ⟨m, cs, p, s _ _ h1 (fun _ z => by cases z), s _ _ h2 (fun _ z => by cases z), h3⟩
theorem first_at (t : Str) : atI ((((List.range (rowsOf t).length).filter (badRow t)).map fun k : Nat => V.int k) ++ [V.int (-1)]) 0 = some (.int (firstBad t)) := by
  have hd : ((List.range (rowsOf t).length).filter (badRow t)).head? = (List.range (rowsOf t).length).find? (badRow t) := List.head?_filter ..
  unfold firstBad
  cases e : (List.range (rowsOf t).length).filter (badRow t) with
  | nil =>
    rw [e] at hd
    rw [← hd]
    exact at0
  | cons x r =>
    rw [e] at hd
    rw [← hd]
    exact at0
theorem getMapI {xs : List Str} {i : Nat} (h : i < xs.length) : ∃ z, xs[i]? = some z ∧ (xs.map V.str)[i]? = some (.str z) := ⟨xs[i], List.getElem?_eq_getElem h, by rw [List.getElem?_map, List.getElem?_eq_getElem h]; rfl⟩
theorem peel {sp : Sp} {dvs : List V} {E : XK} {te : TE} {t : TA} {σ : L2.St} {H : Hp} {Q : Bool → Hp → Prop} (h : te σ H fun x H1 => t σ H1 fun xs H2 => sp ((x :: xs) ++ dvs) H2 (fun y H3 => ∃ k, y = V.bl k ∧ Q (!k) H3) E) : tNot (tB (tCall sp dvs E (tCons te t))) σ H Q := h
theorem first_good {t : Str} {ds : List De} (h : (rowsOf t).map readDeed = ds.map some) : -1 = firstBad t := by
  rcases first_cases t with ⟨_, _, e⟩ | ⟨i, row, ei, bad, _⟩
  · exact e.symm
  · have q : ((rowsOf t).map readDeed)[i]? = some none := by rw [List.getElem?_map, ei, ← bad]; rfl
    rw [h, List.getElem?_map] at q
    cases z : ds[i]? with
    | none => rw [z] at q; cases q
    | some d => rw [z] at q; cases q
theorem first_bad {t : Str} {j : Nat} {row : Str} (ej : (rowsOf t)[j]? = some row) (bad : readDeed row = none) (least : ∀ k r, k < j → (rowsOf t)[k]? = some r → readDeed r ≠ none) : (j : Int) = firstBad t := by
  rcases first_cases t with ⟨ds, e, _⟩ | ⟨i, row', ei, bad', least', e⟩
  · have q : ((rowsOf t).map readDeed)[j]? = some none := by rw [List.getElem?_map, ej, ← bad]; rfl
    rw [e, List.getElem?_map] at q
    cases z : ds[j]? with
    | none => rw [z] at q; cases q
    | some d => rw [z] at q; cases q
  · rw [e]
    rcases Nat.lt_trichotomy i j with h | h | h
    · exact absurd bad' (least i row' h ei)
    · rw [h]
    · exact absurd bad (least' j row h ej)
section
variable {P : Program} {w : World} {K : PySem.W.Frag} {mg : Str → Option Value} {base : Heap} {CT cB PB : Addr}
theorem scLw : FnScope ["_law_script", "_law_h", "_law_odd", "_law_turn", "_law_deeds_here", "_law_rows", "_law_deed", "_law_text", "_law_at", "_law_spot", "_law_bent", "_law_one", "_law_some", "_law_bad", "_law_k"] ["_law_script"] (defScope s_law) := ⟨rfl, rfl, rfl, by decide +kernel, rfl, by decide +kernel, by decide +kernel⟩
theorem ok_law {f fm fn fs fw fy fa fi fp fR : Addr} {fdm fdn fds fdw fdy fda fdi fdp fdR : FuncData} {kV doc pm ct oc : Value} {an od : Option Addr} {osl : Array (Option Value)}
    (lk : K.lookup f = some ⟨oc, od, .func (PySem.W.fnOf "law" "law" (defArgs s_law) (defBody s_law) (defScope s_law) .none kV doc pm an (.ref cB) ct), osl⟩) (hcd : PySem.W.codeIn K (.ref cB) "law" = true) (TB : TabB base mg cB PB) (T : Txt mg)
    (Cmx : Cal P w K mg base 6 "_law_mix" ["_law_script", "_law_seed"] (spMix K) fm fdm) (Cn : Cal P w K mg base 6 "_law_next" ["_law_h", "_law_many"] (spNx K) fn fdn) (Cds : Cal P w K mg base 6 "_law_deeds" ["_law_h", "_law_many"] (spDs K) fs fds)
    (Crw : Cal P w K mg base 6 "_law_row" ["_law_deed"] (spDt K) fw fdw) (Cdy : Cal P w K mg base 6 "day_text" ["deeds"] (spDy K) fy fdy) (Cak : Cal P w K mg base 6 "_law_alike" ["_law_found", "_law_due"] (spAk K 3) fa fda)
    (Cir : Cal P w K mg base 6 "_law_is_row" ["_law_row_here"] spIr fi fdi) (Cpl : Cal P w K mg base 8 "_law_place" ["_law_call"] (spPl P w K mg base 6 CT) fp fdp)
    (gRy : mg "read_day" = some (.ref fR)) (kRy : PySem.W.keepIn K (.ref fR) = true) (bRy : Binds K fdR ["text"] []) (GRy : FnOk P w K mg base (L2.CX P w) 4 fR fdR ["text"] (spRy K CT)) :
    FnOk P w K mg base CX0 9 f (PySem.W.fnOf "law" "law" (defArgs s_law) (defBody s_law) (defScope s_law) .none kV doc pm an (.ref cB) ct) ["_law_script"] (spLaw K PB) := by
  refine fn_of lk hcd scLw (fun vs H Q E h => ?_) (fun A outer s H vs Q E hr h => ?_)
  · obtain ⟨a, ns, rfl, _⟩ := h
    rfl
  · obtain ⟨l0, ns, rfl, hS, hlen, hT, kk⟩ := h
    have hr8 : Room 8 _ := hr
    suffices hh : ∃ t, PSs (cxOf CX0 P w K mg base ["_law_script", "_law_h", "_law_odd", "_law_turn", "_law_deeds_here", "_law_rows", "_law_deed", "_law_text", "_law_at", "_law_spot", "_law_bent", "_law_one", "_law_some", "_law_bad", "_law_k"] "law" (defScope s_law) f (.ref cB) A outer s H E).nox (defBody s_law) t ∧ t { nx := fun _ H' => Q .non H', rt := Q } (L2.start ["_law_script", "_law_h", "_law_odd", "_law_turn", "_law_deeds_here", "_law_rows", "_law_deed", "_law_text", "_law_at", "_law_spot", "_law_bent", "_law_one", "_law_some", "_law_bad", "_law_k"] [V.ref l0]) H by
      obtain ⟨t, h1, h2⟩ := hh
      exact ⟨t, h1.nox, h2⟩
    refine ⟨_, (pss_cons (ps_set (i := 1) scLw.nd rfl (Or.inl rfl) (pe_call Cmx.G (hr8.mono (by decide)) (by rfl) Cmx.g Cmx.kp Cmx.b .nil pass0 (pa_cons (pv 0) (pa_cons pe_int pa_nil))))
      (pss_cons (ps_set (i := 2) scLw.nd rfl (Or.inl rfl) (pe_lst (pa_cons pe_str (pa_cons pe_str (pa_cons pe_str (pa_cons pe_str (pa_cons pe_str (pa_cons pe_str (pa_cons pe_str (pa_cons pe_str (pa_cons pe_str (pa_cons pe_str pa_nil))))))))))))
      (pss_cons (ps_set (i := 2) scLw.nd rfl (Or.inl rfl) (pe_op op_cat (pv 2) (pe_lst (pa_cons pe_str (pa_cons pe_str (pa_cons pe_str (pa_cons pe_str (pa_cons pe_str (pa_cons pe_str (pa_cons pe_str (pa_cons pe_str pa_nil)))))))))))
      (pss_cons (ps_set (i := 2) scLw.nd rfl (Or.inl rfl) (pe_op op_cat (pv 2) (pe_lst (pa_cons pe_str (pa_cons pe_str pa_nil)))))
      (pss_cons (ps_for PassesOwn.never rfl (pi_range1 rfl T.range (pa_cons pe_int pa_nil)) (pg_name (i := 3) scLw.nd rfl (Or.inl rfl))
      (pss_cons (ps_set (i := 4) scLw.nd rfl (Or.inl rfl) (pe_call Cds.G (hr8.mono (by decide)) (by rfl) Cds.g Cds.kp Cds.b .nil pass0 (pa_cons (pv 1) (pa_cons (pe_call Cn.G (hr8.mono (by decide)) (by rfl) Cn.g Cn.kp Cn.b .nil pass0 (pa_cons (pv 1) (pa_cons pe_int pa_nil))) pa_nil))))
      (pss_cons (ps_setLc (i := 5) (own := [("_law_deed", 6)]) rfl scLw.nd rfl rfl (sw_true rfl rfl rfl (by decide +kernel)) (RK.piL (K := K) (pv 4)) (blkOk_by (N := ["_law_script", "_law_h", "_law_odd", "_law_turn", "_law_deeds_here", "_law_rows", "_law_deed", "_law_text", "_law_at", "_law_spot", "_law_bent", "_law_one", "_law_some", "_law_bad", "_law_k"]) (sc := defScope s_law) (by decide +kernel)) (fun _ _ _ _ _ => (pg_name (i := 6) scLw.nd rfl (Or.inl rfl))) (fun _ _ _ _ _ => pts_nil) (fun _ _ _ _ _ => (pe_call Crw.G (hr8.mono (by decide)) (by rfl) Crw.g Crw.kp Crw.b .nil pass0 (pa_cons (pv 6) pa_nil))))
      (pss_cons (ps_set (i := 7) scLw.nd rfl (Or.inl rfl) (pe_join pe_str (pv 5)))
      (pss_cons (ps_if (PW.pt (pw_or (pt_cmpR op_ne (pe_call Cdy.G (hr8.mono (by decide)) (by rfl) Cdy.g Cdy.kp Cdy.b .nil pass0 (pa_cons (pv 4) pa_nil)) (pv 7) (nomark _)) (pw_or1 (pt_not (pt_val (pe_call Cak.G (hr8.mono (by decide)) (by rfl) Cak.g Cak.kp Cak.b .nil pass0 (pa_cons (pe_call GRy (hr8.mono (by decide)) (by rfl) gRy kRy bRy .nil passE0 (pa_cons (pv 7) pa_nil)) (pa_cons (pv 4) pa_nil)))))))) (pss_one (ps_ret pe_bl)) pss_nil)
      (pss_cons (ps_set (i := 8) scLw.nd rfl (Or.inl rfl) (pe_call Cn.G (hr8.mono (by decide)) (by rfl) Cn.g Cn.kp Cn.b .nil pass0 (pa_cons (pv 1) (pa_cons (pe_op op_add (pe_callB (RK.lenQ (K := K)) (by rfl) T.len PySem.boot_len (pa_cons (pv 5) pa_nil)) pe_int) pa_nil))))
      (pss_cons (ps_set (i := 7) scLw.nd rfl (Or.inl rfl) (pe_join pe_str (pe_op op_cat (pe_op op_cat (pe_slice (RK.slL (K := K)) (pv 5) po_none (po_some (pv 8))) (pe_lst (pa_cons (pe_ix (RK.ixL (K := K)) (pv 2) (pe_call Cn.G (hr8.mono (by decide)) (by rfl) Cn.g Cn.kp Cn.b .nil pass0 (pa_cons (pv 1) (pa_cons (pe_callB (RK.lenQ (K := K)) (by rfl) T.len PySem.boot_len (pa_cons (pv 2) pa_nil)) pa_nil))) (fun _ _ => rfl)) pa_nil))) (pe_slice (RK.slL (K := K)) (pv 5) (po_some (pv 8)) po_none))))
      (pss_cons (ps_set (i := 9) scLw.nd rfl (Or.inl rfl) (pe_call Cn.G (hr8.mono (by decide)) (by rfl) Cn.g Cn.kp Cn.b .nil pass0 (pa_cons (pv 1) (pa_cons (pe_op op_add (pe_callB call_len_str (by rfl) T.len PySem.boot_len (pa_cons (pv 7) pa_nil)) pe_int) pa_nil))))
      (pss_cons (ps_set (i := 10) scLw.nd rfl (Or.inl rfl) (pe_op op_add_str (pe_op op_add_str (pe_slice C8.sl_txt (pv 7) po_none (po_some (pv 9))) (pe_ix ix_str pe_str (pe_call Cn.G (hr8.mono (by decide)) (by rfl) Cn.g Cn.kp Cn.b .nil pass0 (pa_cons (pv 1) (pa_cons pe_int pa_nil))) (fun _ _ => rfl))) (pe_slice C8.sl_txt (pv 7) (po_some (pe_op op_add (pv 9) (pe_call Cn.G (hr8.mono (by decide)) (by rfl) Cn.g Cn.kp Cn.b .nil pass0 (pa_cons (pv 1) (pa_cons pe_int pa_nil))))) po_none)))
      (pss_one (ps_for PassesOwn.never rfl (RK.piL (K := K) (pe_lst (pa_cons (pv 7) (pa_cons (pv 10) (pa_cons (pe_op op_add_str (pv 7) pe_str) pa_nil))))) (pg_name (i := 11) scLw.nd rfl (Or.inr rfl))
      (pss_cons (ps_set (i := 12) scLw.nd rfl (Or.inr rfl) (pe_ifExp (pt_cmpR op_ne (pv 11) pe_str (nomark _)) (pe_split (pv 11) pe_str) (pe_lst pa_nil)))
      (pss_cons (ps_setLc (i := 13) (own := [("_law_k", 14)]) rfl scLw.nd rfl rfl (sw_true rfl rfl rfl (by decide +kernel)) (pi_range1 rfl T.range (pa_cons (pe_callB (RK.lenQ (K := K)) (by rfl) T.len PySem.boot_len (pa_cons (pv 12) pa_nil)) pa_nil)) (blkOk_by (N := ["_law_script", "_law_h", "_law_odd", "_law_turn", "_law_deeds_here", "_law_rows", "_law_deed", "_law_text", "_law_at", "_law_spot", "_law_bent", "_law_one", "_law_some", "_law_bad", "_law_k"]) (sc := defScope s_law) (by decide +kernel)) (fun _ _ _ _ _ => (pg_name (i := 14) scLw.nd rfl (Or.inl rfl))) (fun _ _ _ _ _ => (pts_one (pt_not (pt_val (pe_call Cir.G (hr8.mono (by decide)) (by rfl) Cir.g Cir.kp Cir.b .nil pass0 (pa_cons (pe_ix (RK.ixL (K := K)) (pv 12) (pv 14) (fun _ _ => rfl)) pa_nil)))))) (fun _ _ _ _ _ => (pv 14)))
      (pss_one (ps_if (pt_not (pt_val (pe_call Cak.G (hr8.mono (by decide)) (by rfl) Cak.g Cak.kp Cak.b .nil pass0 (pa_cons (TH.pe_callC (E := E0) Cpl.G (hr8.mono (by decide)) (by rfl) Cpl.g Cpl.kp Cpl.b .nil (fun _ => rfl) (pa_cons (TH.pe_lam0 (k := 5) (T := Tb PB) (c := cB) (P := PB) (N := ["_law_one"]) (js := [11]) TB rfl (List.mem_singleton.mpr rfl) (fun q m _ => by rw [List.mem_singleton.mp m]; rfl) (nscope_by (by decide +kernel)) (by show ndefB (defScope s_law) _ _ = true; decide +kernel) rfl rfl (fun _ _ _ => rfl) (fun f9 c9 A9 o9 s9 H9 E9 r9 => (pe_call GRy (r9.mono (by decide)) (by rfl) gRy kRy bRy .nil passN (pa_cons (pe_var (i := 0) rfl (.inr (.inr rfl))) pa_nil)))) pa_nil)) (pa_cons (pe_ix (RK.ixL (K := K)) (pe_op op_cat (pv 13) (pe_lst (pa_cons (pe_un un_neg pe_int) pa_nil))) pe_int (fun _ _ => rfl)) pa_nil))))) (pss_one (ps_ret pe_bl)) pss_nil)))))))))))))))
      (pss_one (ps_ret (pe_and (pe_cmpR (EQL.op_eq0L (K := K) (by have z := hr.units; exact Nat.lt_of_le_of_lt (Nat.add_le_add_left (by decide) _) z)) (pe_call GRy (hr8.mono (by decide)) (by rfl) gRy kRy bRy .nil passE0 (pa_cons pe_str pa_nil)) (pe_lst pa_nil) (nomark _)) (pe_one (pe_cmpR op_eq (pe_call Cdy.G (hr8.mono (by decide)) (by rfl) Cdy.g Cdy.kp Cdy.b .nil pass0 (pa_cons (pe_lst pa_nil) pa_nil)) pe_str (nomark _))))))))))), ?_⟩
    refine sa1 ⟨_, rfl, l0, ns, 72, rfl, hS, hlen, fun a b H1 na nb m1 s1 => gn ?_⟩
    have nab := m1.ne
    have t1 := hT.ext s1
    refine sa1 ⟨by show 10 ≤ sizeLine; decide, fun o1 ho1 => gn ?_⟩
    have q1 := same_new (o := .lst ((odd20.take 10).map V.str)) ho1
    have eo1 : (upd H1 o1 (.lst ((odd20.take 10).map V.str))) o1 = some (.lst ((odd20.take 10).map V.str)) := upd_same
    change tSeq _ _ _ _ (upd H1 o1 (.lst ((odd20.take 10).map V.str)))
    generalize upd H1 o1 (.lst ((odd20.take 10).map V.str)) = H2 at q1 eo1 ⊢
    refine sa1 ⟨_, rfl, by show 8 ≤ sizeLine; decide, fun o2 ho2 => ⟨o1, o2, _, _, rfl, rfl, same_new ho2 _ _ eo1, upd_same, by show 18 ≤ sizeLine; decide, fun o3 ho3 => gn ?_⟩⟩
    have q3 := q1.trans ((same_new (o := .lst (((odd20.drop 10).take 8).map V.str)) ho2).trans (same_new (o := .lst ((odd20.take 18).map V.str)) ho3))
    have eo3 : (upd (upd H2 o2 (.lst (((odd20.drop 10).take 8).map V.str))) o3 (.lst ((odd20.take 18).map V.str))) o3 = some (.lst ((odd20.take 18).map V.str)) := upd_same
    change tSeq _ _ _ _ (upd (upd H2 o2 (.lst (((odd20.drop 10).take 8).map V.str))) o3 (.lst ((odd20.take 18).map V.str)))
    generalize upd (upd H2 o2 (.lst (((odd20.drop 10).take 8).map V.str))) o3 (.lst ((odd20.take 18).map V.str)) = H3 at q3 eo3 ⊢
    refine sa1 ⟨_, rfl, by show 2 ≤ sizeLine; decide, fun o4 ho4 => ⟨o3, o4, _, _, rfl, rfl, same_new ho4 _ _ eo3, upd_same, by show 20 ≤ sizeLine; decide, fun od hod => gn ?_⟩⟩
    have q5 := q3.trans ((same_new (o := .lst ((odd20.drop 18).map V.str)) ho4).trans (same_new (o := .lst (odd20.map V.str)) hod))
    have eod : (upd (upd H3 o4 (.lst ((odd20.drop 18).map V.str))) od (.lst (odd20.map V.str))) od = some (.lst (odd20.map V.str)) := upd_same
    change tSeq _ _ _ _ (upd (upd H3 o4 (.lst ((odd20.drop 18).map V.str))) od (.lst (odd20.map V.str)))
    generalize upd (upd H3 o4 (.lst ((odd20.drop 18).map V.str))) od (.lst (odd20.map V.str)) = H4 at q5 eod ⊢
    have m4 := m1.same q5
    have t4 := t1.ext q5
    have od_ab : ∀ {H : Hp}, MixAt H a b → H od = some (.lst (odd20.map V.str)) → od ≠ a ∧ od ≠ b := fun {H} m e => by
      obtain ⟨x, cs, p, h1, h2, _⟩ := m
      refine ⟨fun z => ?_, fun z => ?_⟩
      · rw [← z, e] at h1
        injection h1 with h1
        injection h1 with h1
        cases h1
      · rw [← z, e] at h2
        injection h2 with h2
        injection h2 with h2
        have q : (cs.map V.int)[0]? = some (.str "") := by rw [← h2]; rfl
        obtain ⟨_, y⟩ := getIM q
        cases y
    obtain ⟨oa, ob⟩ := od_ab m4 eod
    refine ⟨5, rfl, by decide, by decide, for_range (lo := 0) (n := (5 : Int).toNat) (fun i σ H' => ∃ v3 v4 v5 v6 v7 v8 v9 v10 v11 v12 v13 v14, σ = [some (.ref l0), some (.ref a), some (.ref od), v3, v4, v5, v6, v7, v8, v9, v10, v11, v12, v13, v14] ∧ MixAt H' a b ∧ H' od = some (.lst (odd20.map V.str)) ∧ Tabs (Tb PB) H')
      ⟨none, none, none, none, none, none, none, none, none, none, none, none, rfl, m4, eod, t4⟩ ?_ ?_⟩
    · rintro i σ H5 hi ⟨v3, v4, v5, v6, v7, v8, v9, v10, v11, v12, v13, v14, rfl, m5, e5, t5⟩
      refine gn ?_
      refine sa1 ⟨_, rfl, te_nx (n := 30) rfl (by decide) (by decide) m5 fun nd H6 hnd m6 k6 => ⟨a, b, nd, rfl, by omega, m6, nab, fun ld ds us H7 nl m7 d7 len7 k7 => gn ?_⟩⟩
      have k57 := k6.trans k7
      have e7 := k57 _ _ oa ob e5
      have t7 := tabs_k2 t5 m5 k57
      have okd : ∀ d ∈ ds, d.Ok := fun d hd => (d7.ok d hd).ok
      refine at_stM (σ' := [some (.ref l0), some (.ref a), some (.ref od), some (.int (0 + (i : Nat))), some (.ref ld), v5, v6, v7, v8, v9, v10, v11, v12, v13, v14]) rfl ?_
      refine sa1 ⟨_, rfl, ld, rfl, ⟨_, SqL.of d7.at_⟩, fun lr hlr => ?_⟩
      refine lc_it (walk_list (xs := us)) (fun i H' => (∀ b o, b ≠ lr → H7 b = some o → H' b = some o) ∧ H' lr = some (.lst ((ds.take i).map fun d => V.str d.row)))
        ⟨fun b o n e => by rw [upd_ne n]; exact e, upd_same⟩ (fun i H' _ z => SqL.of (z.1 _ _ (ne_of_none d7.at_ hlr) d7.at_)) ?_ ?_
      · rintro i y H0 H' hi ⟨kp, hd⟩ ⟨rfl, ey⟩
        obtain ⟨d, ed, hv⟩ := pw_get d7.pw ey
        have tk : ds.take (i + 1) = ds.take i ++ [d] := by rw [List.take_add_one, ed] <;> rfl
        have s1 : Same H7 H' := fun b o e => kp b o (ne_of_none e hlr) e
        refine ⟨rfl, _, rfl, d, y, rfl, hv.same s1, okd d (List.mem_of_getElem? ed), fun H2 s2 => ⟨_, s2 _ _ hd, by rw [List.length_map, List.length_take]; exact Nat.lt_of_le_of_lt (show _ ≤ 100 by omega) (by decide), fun b o n e => by rw [upd_ne n]; exact s2 _ _ (kp b o n e), ?_⟩⟩
        rw [upd_same, tk, List.map_append]; rfl
      rintro H8 ⟨kp8, hd8⟩
      rw [← pw_len d7.pw, List.take_length] at hd8
      have s78 : Same H7 H8 := fun b o e => kp8 b o (ne_of_none e hlr) e
      have er8 : H8 lr = some (.lst ((ds.map De.row).map V.str)) := by rw [hd8, List.map_map]; rfl
      refine gn ?_
      have sm := rows_sum ds d7.ok
      have jl := join_len (ds.map De.row)
      have rg := @read_of_good ds d7.ok
      have gnv := @good_never ds d7.ok
      rw [List.length_map] at jl
      refine at_stM (σ' := [some (.ref l0), some (.ref a), some (.ref od), some (.int (0 + (i : Nat))), some (.ref ld), some (.ref lr), v6, v7, v8, v9, v10, v11, v12, v13, v14]) rfl ?_
      refine sa1 ⟨⟨_, rfl⟩, _, rfl, _, lr, ds.map De.row, rfl, rfl, .inl (SqL.of er8), ?_, gn ?_⟩
      · have b : (ds.map De.row).length * Str.length "\n" = ds.length := by rw [List.length_map, nl_one, Nat.mul_one]
        omega
      have ltx : (Txt.join "\n" (ds.map De.row)).length ≤ 12000 := by omega
      generalize etx : Txt.join "\n" (ds.map De.row) = tx at ltx rg gnv ⊢
      refine at_stM (σ' := [some (.ref l0), some (.ref a), some (.ref od), some (.int (0 + (i : Nat))), some (.ref ld), some (.ref lr), v6, some (.str tx), v8, v9, v10, v11, v12, v13, v14]) rfl ?_
      have m8 := m7.same s78
      have t8 := t7.ext s78
      have e8 := s78 _ _ e7
      have d8l := s78 _ _ d7.at_
      have pw8 : Paired (DeV K H8) ds us := pw_imp (fun _ _ h => h.same s78) d7.pw
      refine sif ⟨_, rfl, ld, ds, us, rfl, SqL.of d8l, pw8, okd, by omega, fun H9 s9 => ⟨_, rfl, rfl, _, rfl, ?_⟩⟩
      rw [etx, show (!decide (V.str tx = V.str tx)) = false by simp]
      refine iteF ?_
      refine ⟨_, rfl, tx, rfl, by omega, fun ds' e' l' us' H10 nl' s10 hl' pw' => ⟨_, rfl, _, _, rfl, ?_, fun H11 s11 => ⟨_, rfl, iteF ?_⟩⟩, fun j row ej bad _ => (gnv ej bad).elim⟩
      · rw [rg] at e'
        have e' := somes_inj e'
        subst e'
        refine .inr ⟨l', ld, us', us, rfl, rfl, .inr ⟨SqL.of hl', SqL.of (s10 _ _ (s9 _ _ d8l))⟩, ?_, ak_deeds okd pw' (pw_imp (fun _ _ h => h.same (s9.trans s10)) pw8)⟩
        have := pw_len pw'
        omega
      dsimp only [tNext]
      have sA : Same H8 H11 := s9.trans (s10.trans s11)
      have m11 := m8.same sA
      have t11 := t8.ext sA
      have e11 := sA _ _ e8
      have er11 := sA _ _ er8
      have lrw : ((ds.map De.row).map V.str).length = ds.length := by rw [List.length_map, List.length_map]
      refine sa1 ⟨_, rfl, _, rfl, lr, _, rfl, .inl (SqL.of er11), _, _, rfl, rfl, a, b, _, rfl, by omega, by omega, m11, fun r1 H12 r10 r11 m12 k12 => gn ?_⟩
      obtain ⟨k, rfl⟩ : ∃ k : Nat, r1 = k := ⟨r1.toNat, by omega⟩
      have hk : k ≤ ds.length := by omega
      have lr_ab : lr ≠ a ∧ lr ≠ b := ⟨(fun z => by obtain ⟨_, y⟩ := m7.la; rw [z, y] at hlr; cases hlr), (fun z => by obtain ⟨_, y⟩ := m7.lb; rw [z, y] at hlr; cases hlr)⟩
      have er12 := k12 _ _ lr_ab.1 lr_ab.2 er11
      have e12 := k12 _ _ oa ob e11
      have t12 := tabs_k2 t11 m11 k12
      refine at_stM (σ' := [some (.ref l0), some (.ref a), some (.ref od), some (.int (0 + (i : Nat))), some (.ref ld), some (.ref lr), v6, some (.str tx), some (.int (k : Nat)), v9, v10, v11, v12, v13, v14]) rfl ?_
      refine sa1 ⟨⟨_, rfl⟩, _, rfl, _, rfl, _, rfl, lr, _, rfl, SqL.of er12, fun p1 hp1 => ?_⟩
      rw [cutH _ (show k ≤ ((ds.map De.row).map V.str).length by omega)]
      have c1 := same_new (o := .lst (((ds.map De.row).map V.str).take k)) hp1
      have ep1 : (upd H12 p1 (.lst (((ds.map De.row).map V.str).take k))) p1 = some (.lst (((ds.map De.row).map V.str).take k)) := upd_same
      have hp1' := hp1
      generalize upd H12 p1 (.lst (((ds.map De.row).map V.str).take k)) = H13 at c1 ep1 ⊢
      have m13 := m12.same c1
      have p1ab : p1 ≠ a ∧ p1 ≠ b := ⟨(fun z => by obtain ⟨_, y⟩ := m12.la; rw [z, y] at hp1'; cases hp1'), (fun z => by obtain ⟨_, y⟩ := m12.lb; rw [z, y] at hp1'; cases hp1')⟩
      refine ⟨_, rfl, _, rfl, _, rfl, od, _, rfl, .inl (SqL.of (c1 _ _ e12)), a, b, 20, rfl, by decide, by decide, m13, fun r2 H14 r20 r21 m14 k14 => ?_⟩
      obtain ⟨j, rfl⟩ : ∃ j : Nat, r2 = j := ⟨r2.toNat, by omega⟩
      obtain ⟨oz, eoz⟩ : ∃ oz, odd20[j]? = some oz := ⟨_, List.getElem?_eq_getElem (show j < odd20.length by show j < 20; omega)⟩
      have loz := odd_short oz (List.mem_of_getElem? eoz)
      have k1314 : K2 a b H12 H14 := (K2.same c1).trans k14
      have e14 := k1314 _ _ oa ob e12
      have er14 := k1314 _ _ lr_ab.1 lr_ab.2 er12
      have ep14 := k14 _ _ p1ab.1 p1ab.2 ep1
      refine ⟨od, _, j, _, rfl, rfl, SqL.of e14, atI_nat (by rw [List.getElem?_map, eoz]; rfl), by show 1 ≤ sizeLine; decide, fun p2 hp2 => ⟨p1, p2, _, _, rfl, rfl, same_new hp2 _ _ ep14, upd_same, ?_, fun p3 hp3 => ?_⟩⟩
      · rw [List.length_take]
        exact Nat.le_trans (show _ ≤ 100 by show min k _ + 1 ≤ 100; omega) (by decide)
      have c3 := (same_new (o := .lst [.str oz]) hp2).trans (same_new (o := .lst (((ds.map De.row).map V.str).take k ++ [.str oz])) hp3)
      have ep3 : (upd (upd H14 p2 (.lst [.str oz])) p3 (.lst (((ds.map De.row).map V.str).take k ++ [.str oz]))) p3 = some (.lst (((ds.map De.row).map V.str).take k ++ [.str oz])) := upd_same
      refine ⟨_, rfl, _, rfl, _, rfl, lr, _, rfl, SqL.of (c3 _ _ er14), fun p4 hp4 => ?_⟩
      rw [cutN _ (show k ≤ ((ds.map De.row).map V.str).length by omega)]
      refine ⟨p3, p4, _, _, rfl, rfl, same_new hp4 _ _ ep3, upd_same, ?_, fun p5 hp5 => ?_⟩
      · rw [List.length_append, List.length_take, List.length_drop]
        exact Nat.le_trans (show _ ≤ 100 by show min k _ + 1 + _ ≤ 100; omega) (by decide)
      have c5 := c3.trans ((same_new (o := .lst (((ds.map De.row).map V.str).drop k)) hp4).trans (same_new (o := .lst (((ds.map De.row).map V.str).take k ++ [.str oz] ++ ((ds.map De.row).map V.str).drop k)) hp5))
      have ePs : ((ds.map De.row).map V.str).take k ++ [V.str oz] ++ ((ds.map De.row).map V.str).drop k = ((ds.map De.row).take k ++ [oz] ++ (ds.map De.row).drop k).map V.str := by rw [List.map_append, List.map_append, List.map_take, List.map_drop]; rfl
      have sm2 : (((ds.map De.row).take k ++ [oz] ++ (ds.map De.row).drop k).map (·.length)).sum ≤ 352 * ds.length + 20 := by
        have q : ((ds.map De.row).map (·.length)).sum = (((ds.map De.row).take k).map (·.length)).sum + (((ds.map De.row).drop k).map (·.length)).sum := by
          rw [← List.sum_append, ← List.map_append, List.take_append_drop]
        rw [List.map_append, List.map_append, List.sum_append, List.sum_append]
        show _ + (oz.length + 0) + _ ≤ _
        omega
      have ln2 : ((ds.map De.row).take k ++ [oz] ++ (ds.map De.row).drop k).length ≤ 100 := by
        rw [List.length_append, List.length_append, List.length_take, List.length_drop, List.length_map]
        show min k ds.length + 1 + _ ≤ 100
        omega
      have jl2 := join_len ((ds.map De.row).take k ++ [oz] ++ (ds.map De.row).drop k)
      refine ⟨_, p5, (ds.map De.row).take k ++ [oz] ++ (ds.map De.row).drop k, rfl, rfl, .inl (SqL.of (by rw [← ePs]; exact upd_same)), ?_, gn ?_⟩
      · rw [nl_one]; omega
      have l2 : (Txt.join "\n" ((ds.map De.row).take k ++ [oz] ++ (ds.map De.row).drop k)).length ≤ 12000 := by omega
      generalize Txt.join "\n" ((ds.map De.row).take k ++ [oz] ++ (ds.map De.row).drop k) = t2 at l2 ⊢
      have m15 := m14.same c5
      have t15 := (tabs_k2 t12 m12 k1314).ext c5
      have e15 := c5 _ _ e14
      generalize (upd (upd (upd (upd H14 p2 (.lst [.str oz])) p3 (.lst (((ds.map De.row).map V.str).take k ++ [.str oz]))) p4 (.lst (((ds.map De.row).map V.str).drop k))) p5 (.lst (((ds.map De.row).map V.str).take k ++ [.str oz] ++ ((ds.map De.row).map V.str).drop k))) = H15 at m15 t15 e15 ⊢
      refine at_stM (σ' := [some (.ref l0), some (.ref a), some (.ref od), some (.int (0 + (i : Nat))), some (.ref ld), some (.ref lr), v6, some (.str t2), some (.int (k : Nat)), v9, v10, v11, v12, v13, v14]) rfl ?_
      have big : (100000 : Nat) < sizeLine := by decide
      refine sa1 ⟨_, rfl, _, rfl, t2, rfl, by omega, _, _, rfl, rfl, a, b, _, rfl, by omega, by omega, m15, fun r3 H16 r30 r31 m16 k16 => gn ?_⟩
      have e16 := k16 _ _ oa ob e15
      have t16 := tabs_k2 t15 m15 k16
      refine at_stM (σ' := [some (.ref l0), some (.ref a), some (.ref od), some (.int (0 + (i : Nat))), some (.ref ld), some (.ref lr), v6, some (.str t2), some (.int (k : Nat)), some (.int r3), v10, v11, v12, v13, v14]) rfl ?_
      refine sa1 ⟨_, rfl, _, rfl, _, rfl, t2, rfl, by omega, te_nx (n := 5) rfl (by decide) (by decide) m16 fun r4 H17 hr4 m17 k17 => ?_⟩
      have la := slice_len t2 none (some r3)
      obtain ⟨ch, ech⟩ : ∃ ch, ("a1 -\n" : Str).cps.toList[r4]? = some ch := ⟨_, List.getElem?_eq_getElem (show r4 < ("a1 -\n" : Str).cps.toList.length from hr4)⟩
      refine ⟨_, r4, ch, rfl, rfl, by decide +kernel, atI_nat ech, _, _, rfl, rfl, ?_, ?_⟩
      · show _ + 1 ≤ sizeLine
        omega
      refine ⟨_, rfl, _, rfl, te_nx (n := 2) rfl (by decide) (by decide) m17 fun r5 H18 hr5 m18 k18 => ⟨_, _, rfl, rfl, _, rfl, t2, rfl, by omega, _, _, rfl, rfl, ?_, gn ?_⟩⟩
      · have lb := slice_len t2 (some (r3 + (r5 : Nat))) none
        rw [Str.length_append]
        show _ + 1 + _ ≤ sizeLine
        omega
      have lb := slice_len t2 (some (r3 + (r5 : Nat))) none
      have l3 : (Txt.slice t2 none (some r3) ++ (⟨#[ch]⟩ : Str) ++ Txt.slice t2 (some (r3 + (r5 : Nat))) none).length ≤ 24001 := by
        rw [Str.length_append, Str.length_append]
        show _ + 1 + _ ≤ 24001
        omega
      generalize Txt.slice t2 none (some r3) ++ (⟨#[ch]⟩ : Str) ++ Txt.slice t2 (some (r3 + (r5 : Nat))) none = t3 at l3 ⊢
      have k618 := k17.trans k18
      have e18 := k618 _ _ oa ob e16
      have t18 := tabs_k2 t16 m16 k618
      refine at_stM (σ' := [some (.ref l0), some (.ref a), some (.ref od), some (.int (0 + (i : Nat))), some (.ref ld), some (.ref lr), v6, some (.str t2), some (.int (k : Nat)), some (.int r3), some (.str t3), v11, v12, v13, v14]) rfl ?_
      refine ⟨_, rfl, _, rfl, _, rfl, t2, _, rfl, rfl, ?_, by show 3 ≤ sizeLine; decide, fun lt hlt => ⟨lt, rfl, ⟨_, SqL.of upd_same⟩, ?_⟩⟩
      · have : Str.length "\n" = 1 := nl_one
        omega
      have nlt : H18 lt = none := hlt
      have sL := same_new (o := .lst [.str t2, .str t3, .str (t2 ++ "\n")]) hlt
      refine for_it (walk_list (xs := [V.str t2, V.str t3, V.str (t2 ++ "\n")])) (fun i' σ H' => ∃ v11 v12 v13 v14, σ = [some (.ref l0), some (.ref a), some (.ref od), some (.int (0 + (i : Nat))), some (.ref ld), some (.ref lr), v6, some (.str t2), some (.int (k : Nat)), some (.int r3), some (.str t3), v11, v12, v13, v14] ∧ MixAt H' a b ∧ H' od = some (.lst (odd20.map V.str)) ∧ Tabs (Tb PB) H' ∧ H' lt = some (.lst [.str t2, .str t3, .str (t2 ++ "\n")]))
        ⟨v11, v12, v13, v14, rfl, m18.same sL, sL _ _ e18, t18.ext sL, upd_same⟩ (fun i σ H' _ q => by obtain ⟨_, _, _, _, _, _, _, _, e⟩ := q; exact SqL.of e) ?_ ?_
      · rintro i' y σ H0 H19 hi' ⟨v11, v12, v13, v14, rfl, m19, e19, t19, q19⟩ ⟨rfl, ey⟩
        obtain ⟨one, rfl, lone⟩ : ∃ one, y = .str one ∧ one.length ≤ 30000 := by
          have n1 := nl_one
          have w3 : i' = 0 ∨ i' = 1 ∨ i' = 2 := by have : i' < 3 := hi'; omega
          rcases w3 with rfl | rfl | rfl
          · exact ⟨t2, (Option.some.inj ey).symm, by omega⟩
          · exact ⟨t3, (Option.some.inj ey).symm, by omega⟩
          · exact ⟨t2 ++ "\n", (Option.some.inj ey).symm, by rw [Str.length_append]; omega⟩
        refine gn ?_
        have fewr := rowsOf_few one
        suffices go : ∀ (ls : Addr) (H20 : Hp), Same H19 H20 → H20 ls = some (.lst ((rowsOf one).map V.str)) → tSeq _ _ _ [some (.ref l0), some (.ref a), some (.ref od), some (.int (0 + (i : Nat))), some (.ref ld), some (.ref lr), v6, some (.str t2), some (.int (k : Nat)), some (.int r3), some (.str t3), some (.str one), some (.ref ls), v13, v14] H20 by
          refine sa1 ⟨_, rfl, rfl, _, rfl, ?_⟩
          rw [v_str]
          cases c1 : decide (one = "") with
          | true =>
            have e : rowsOf one = [] := if_pos (of_decide_eq_true c1)
            refine iteF ⟨by show 0 ≤ sizeLine; decide, fun ls hls => gn ?_⟩
            exact go ls _ (same_new hls) (by rw [e]; exact upd_same)
          | false =>
            have e : rowsOf one = Txt.split one "\n" := if_neg (of_decide_eq_false c1)
            refine iteT ⟨_, rfl, ⟨_, rfl⟩, one, _, rfl, rfl, by decide +kernel, by omega, fun ls hls => gn ?_⟩
            exact go ls _ (same_new hls) (by rw [e]; exact upd_same)
        intro ls H20 s20 els
        have m20 := m19.same s20
        have t20 := t19.ext s20
        have e20 := s20 _ _ e19
        have q20 := s20 _ _ q19
        refine sa1 ⟨_, rfl, ls, _, rfl, .inl (SqL.of els), _, rfl, by omega, by rw [List.length_map]; omega, fun lb hlb => ?_⟩
        refine lc_it (walk_range (lo := 0) (n := ((((rowsOf one).map V.str).length : Nat) : Int).toNat)) (fun i H' => (∀ b o, b ≠ lb → H20 b = some o → H' b = some o) ∧ H' lb = some (.lst (((List.range i).filter (badRow one)).map fun k : Nat => V.int k)))
          ⟨fun b o n e => by rw [upd_ne n]; exact e, upd_same⟩ (fun i H' _ z => trivial) ?_ ?_
        · rintro i2 y H0 H' hi2 ⟨kp, hd⟩ ⟨rfl, rfl⟩
          have li : i2 < (rowsOf one).length := by rw [List.length_map] at hi2; omega
          obtain ⟨z, ez, ezv⟩ := getMapI li
          have z0 : (0 : Int) + ((i2 : Nat) : Int) = ((i2 : Nat) : Int) := by omega
          have lz := rowsOf_short (List.mem_of_getElem? ez)
          have s' : Same H20 H' := fun b o e => kp b o (ne_of_none e hlb) e
          have bz : badRow one i2 = (readDeed z).isNone := by unfold badRow; rw [ez]
          have nx : (List.range (i2 + 1)).filter (badRow one) = (List.range i2).filter (badRow one) ++ (if badRow one i2 = true then [i2] else []) := by
            rw [List.range_succ, List.filter_append]
            congr 1
            cases h : badRow one i2 <;> simp [h]
          have fw : ((List.range i2).filter (badRow one)).length ≤ i2 := Nat.le_trans (List.length_filter_le _ _) (by rw [List.length_range]; exact Nat.le_refl _)
          refine gn ⟨rfl, _, rfl, _, rfl, ls, _, _, _, rfl, rfl, SqL.of (s' _ _ els), by rw [z0]; exact atI_nat ezv, z, rfl, by omega, fun H2 s2 => ⟨_, rfl, ?_⟩⟩
          have kp2 : ∀ b o, b ≠ lb → H20 b = some o → H2 b = some o := fun b o n e => s2 _ _ (kp b o n e)
          have nb : badRow one i2 = !(readDeed z).isSome := by rw [bz]; cases readDeed z <;> rfl
          cases hz : (readDeed z).isSome with
          | true =>
            have c2 : badRow one i2 = false := by rw [nb, hz]; rfl
            rw [c2, if_neg Bool.false_ne_true, List.append_nil] at nx
            refine iteF ?_
            rw [nx]
            exact ⟨kp2, s2 _ _ hd⟩
          | false =>
            have c2 : badRow one i2 = true := by rw [nb, hz]; rfl
            rw [c2, if_pos rfl] at nx
            refine iteT ⟨_, rfl, _, s2 _ _ hd, by rw [List.length_map]; omega, fun b o n e => by rw [upd_ne n]; exact kp2 b o n e, ?_⟩
            rw [upd_same, nx, List.map_append]
            dsimp only
            rw [z0]; rfl
        rintro H21 ⟨kp21, hd21⟩
        have hd21 : H21 lb = some (.lst (((List.range (rowsOf one).length).filter (badRow one)).map fun k : Nat => V.int k)) := by
          rw [hd21]
          rw [show ((((rowsOf one).map V.str).length : Nat) : Int).toNat = (rowsOf one).length by rw [List.length_map]; omega]
        have s21 : Same H20 H21 := fun b o e => kp21 b o (ne_of_none e hlb) e
        refine gn ?_
        have m21 := m20.same s21
        have t21 := t20.ext s21
        have e21 := s21 _ _ e20
        have q21 := s21 _ _ q20
        have few2 : ((List.range (rowsOf one).length).filter (badRow one)).length ≤ 30001 := Nat.le_trans (List.length_filter_le _ _) (by rw [List.length_range]; omega)
        refine at_stM (σ' := [some (.ref l0), some (.ref a), some (.ref od), some (.int (0 + (i : Nat))), some (.ref ld), some (.ref lr), v6, some (.str t2), some (.int (k : Nat)), some (.int r3), some (.str t3), some (.str one), some (.ref ls), some (.ref lb), v14]) rfl ?_
        refine ifs ?_
        refine peel (te_placeL (k := 5) t21 (fun fl H22 eN nn t22 Q' E' hQ hE => ?_))
        have m22 := m21.ext eN
        have e22 := eN _ _ e21 (fun _ z => by cases z)
        have q22 := eN _ _ q21 (fun _ z => by cases z)
        have b22 := eN _ _ hd21 (fun _ z => by cases z)
        -- behind the place
        have rest : ∀ (n : Int) (H23 : Hp), n = firstBad one → Same H22 H23 → ∀ (Z : VK), (∀ H24, Same H23 H24 → Z (.bl true) H24) →
            tCons (tOp (rIxL K) (tOp rCat (tVar 13) (tLst (tCons (tUn (rU fun i => V.int (-i)) (tC (V.int 1))) tNil))) (tC (V.int 0))) tNil [some (.ref l0), some (.ref a), some (.ref od), some (.int (0 + (i : Nat))), some (.ref ld), some (.ref lr), v6, some (.str t2), some (.int (k : Nat)), some (.int r3), some (.str t3), some (.str one), some (.ref ls), some (.ref lb), v14] H23 (fun xs H2 => spAk K 3 ((.int n :: xs) ++ []) H2 Z E0) := fun n H23 en s23 Z hZ => by
          refine ⟨_, rfl, 1, rfl, by show 1 ≤ sizeLine; decide, fun pm hpm => ⟨lb, pm, _, _, rfl, rfl, same_new hpm _ _ (s23 _ _ b22), upd_same, by rw [List.length_map]; show _ + 1 ≤ sizeLine; omega, fun pc hpc => ?_⟩⟩
          have sx := (same_new (o := .lst [V.int (-1)]) hpm).trans (same_new (o := .lst (((List.range (rowsOf one).length).filter (badRow one)).map (fun k : Nat => V.int k) ++ [V.int (-1)])) hpc)
          refine ⟨pc, _, 0, _, rfl, rfl, SqL.of upd_same, first_at one, _, _, rfl, ?_, fun H24 s24 => hZ H24 (sx.trans s24)⟩
          rw [en]
          exact .inl ⟨rfl, rfl⟩
        have done : ∀ (n : Int) (H23 : Hp), n = firstBad one → Same H22 H23 → MixAt H23 a b ∧ H23 od = some (.lst (odd20.map V.str)) ∧ Tabs (Tb PB) H23 ∧ H23 lt = some (.lst [.str t2, .str t3, .str (t2 ++ "\n")]) := fun n H23 _ s => ⟨m22.same s, s _ _ e22, t22.ext s, s _ _ q22⟩
        refine ⟨_, rfl, one, rfl, by omega, fun ds' e' l' us' H23 nl' s23 hl' pw' => hQ _ _ ?_, fun j row ej bad least => fun dx H23 nx' ex s23 => hE j dx H23 ex ?_⟩
        · exact rest (-1) H23 (first_good e') s23 _ fun H24 s24 => ⟨_, rfl, iteF ⟨_, _, _, _, rfl, done (-1) H24 (first_good e') (s23.trans s24)⟩⟩
        · exact rest j H23 (first_bad ej bad least) s23 _ fun H24 s24 => ⟨_, rfl, iteF ⟨_, _, _, _, rfl, done j H24 (first_bad ej bad least) (s23.trans s24)⟩⟩
      · rintro σ H19 ⟨v11, v12, v13, v14, rfl, m19, e19, t19, q19⟩
        exact ⟨_, _, _, _, _, _, _, _, _, _, _, _, rfl, m19, e19, t19⟩
    · rintro σ H5 ⟨v3, v4, v5, v6, v7, v8, v9, v10, v11, v12, v13, v14, rfl, m5, e5, t5⟩
      dsimp only
      have n0 : rowsOf "" = [] := if_pos rfl
      refine ⟨"", rfl, by decide, fun ds e l us H6 nl s6 hl pw => ⟨by show 0 ≤ sizeLine; decide, fun l2 hl2 => ?_⟩, fun j row ej _ _ => by rw [n0] at ej; cases ej⟩
      rw [n0] at e
      have e : ds = [] := by cases ds with | nil => rfl | cons _ _ => cases e
      subst e
      cases pw
      refine ⟨l, l2, [], rfl, rfl, SqL.of (same_new hl2 _ _ hl), upd_same, _, rfl, iteT ?_⟩
      refine ⟨by show 0 ≤ sizeLine; decide, fun l3 hl3 => ⟨l3, [], [], rfl, SqL.of upd_same, .nil, (fun _ z => by cases z), by decide, fun H7 s7 => ?_⟩⟩
      exact ⟨rfl, kk H7⟩

end
end GS

set_option linter.all false
set_option maxHeartbeats 2000000
namespace GS
open PySem L2 HX
/-! ### the module's dict NUMBERS, by its entries -/
def tabN : List (Str × Int) := ones.map (fun z => (z, 1)) ++ (twos.map (fun z => (z, 2)) ++ noes.map (fun z => (z, 0)))
def entN (e : DictEntry) : Option (Str × Int) := match e.key, e.val with
  | .str x _, .int i _ => some (x, i)
  | _, _ => none
def numB (es : List DictEntry) : Bool := es.map entN == tabN.map some
theorem lookup_const (c : Int) (z : Str) : ∀ l : List Str, (l.map fun x => (x, c)).lookup z = if z ∈ l then some c else none
  | [] => by rw [if_neg List.not_mem_nil]; rfl
  | x :: l => by
    rw [List.map_cons, List.lookup_cons]
    by_cases h : z = x
    · rw [if_pos (by rw [h]; exact List.mem_cons_self ..)]
      have : (z == x) = true := by rw [h]; exact beq_self_eq_true _
      rw [this]
    · have : (z == x) = false := by simpa using h
      rw [this]
      dsimp only
      rw [lookup_const c z l]
      by_cases m : z ∈ l
      · rw [if_pos m, if_pos (List.mem_cons_of_mem _ m)]
      · rw [if_neg m, if_neg (fun q => (List.mem_cons.mp q).elim h m)]
theorem lookup_cat (z : Str) : ∀ a b : List (Str × Int), (a ++ b).lookup z = match a.lookup z with | some c => some c | none => b.lookup z
  | [], b => rfl
  | (x, c) :: a, b => by
    rw [List.cons_append, List.lookup_cons, List.lookup_cons]
    cases z == x with
    | true => rfl
    | false => exact lookup_cat z a b
theorem tabN_numW (z : Str) : tabN.lookup z = (numW z).map fun n : Nat => (n : Int) := by
  unfold tabN numW
  rw [lookup_cat, lookup_cat, lookup_const, lookup_const, lookup_const]
  by_cases h1 : z ∈ ones
  · rw [if_pos h1, if_pos h1]; rfl
  · rw [if_neg h1, if_neg h1]
    by_cases h2 : z ∈ twos
    · rw [if_pos h2, if_pos h2]; rfl
    · rw [if_neg h2, if_neg h2]
      by_cases h3 : z ∈ noes
      · rw [if_pos h3, if_pos h3]; rfl
      · rw [if_neg h3, if_neg h3]; rfl
theorem find_ent (z : Str) : ∀ (es : List DictEntry) (tab : List (Str × Int)), es.map entN = tab.map some →
    (match es.find? (·.key.isStr z) with | some e => ∃ i t, e.val = .int i t ∧ tab.lookup z = some i | none => tab.lookup z = none) ∧ es.any (·.refKey) = false
  | [], [], _ => ⟨rfl, rfl⟩
  | [], _ :: _, h => by cases h
  | _ :: _, [], h => by cases h
  | e :: es, (x, i) :: tab, h => by
    rw [List.map_cons, List.map_cons] at h
    obtain ⟨h1, h2⟩ := List.cons.inj h
    obtain ⟨ih1, ih2⟩ := find_ent z es tab h2
    obtain ⟨t, u, ek, ev⟩ : ∃ t u, e.key = .str x t ∧ e.val = .int i u := by
      unfold entN at h1
      split at h1
      · rename_i x' t' i' u' e1 e2
        cases h1
        exact ⟨_, _, e1, e2⟩
      · cases h1
    have ks : e.key.isStr z = (z == x) := by
      rw [ek]
      show (x == z) = (z == x)
      exact Bool.eq_iff_iff.mpr ⟨fun q => by rw [eq_of_beq q]; exact beq_self_eq_true _, fun q => by rw [eq_of_beq q]; exact beq_self_eq_true _⟩
    refine ⟨?_, ?_⟩
    · rw [List.find?_cons, ks, List.lookup_cons]
      cases q : z == x with
      | true => exact ⟨i, u, ev, rfl⟩
      | false => exact ih1
    · rw [List.any_cons, ih2, Bool.or_false]
      unfold DictEntry.refKey
      rw [ek]
theorem numD_of {K : PySem.W.Frag} {w : World} {d : Addr} {es : Array DictEntry} {n : Nat} (l : K.lookup d = some ⟨.type "dict", none, .dict es n, #[]⟩) (hk : PySem.W.KeysLit w.params es.toList) (hs : (d == sysModules) = false) (h : numB es.toList = true) : NumD K w d := by
  have h : es.toList.map entN = tabN.map some := by unfold numB at h; exact eq_of_beq h
  refine ⟨⟨es, n, l, hk, hs⟩, fun z => ?_⟩
  obtain ⟨f1, f2⟩ := find_ent z es.toList tabN h
  rw [tabN_numW] at f1
  unfold PySem.W.nsIn
  rw [l]
  dsimp only
  cases q : es.toList.find? (·.key.isStr z) with
  | none =>
    rw [q] at f1
    dsimp only
    rw [f2, if_neg Bool.false_ne_true]
    refine ⟨none, rfl, fun _ => rfl, fun k e => ?_⟩
    rw [e] at f1; cases f1
  | some e =>
    rw [q] at f1
    obtain ⟨i, t, e1, e2⟩ := f1
    refine ⟨some e.val, rfl, fun nn => ?_, fun k ek => ⟨e.val, rfl, ?_⟩⟩
    · rw [nn] at e2; cases e2
    · rw [ek] at e2
      have e2 : ((k : Int)) = i := Option.some.inj e2
      rw [e1, ← e2]
      exact ⟨t, rfl⟩
end GS


set_option Elab.async false
set_option maxRecDepth 100000
set_option maxHeartbeats 4000000
namespace GS
open PySem L2 HX
theorem all_mk {l : PySem.W.OpenLaw} {w : World} {K : PySem.W.Frag} {h : Heap} {mg : Str → Option Value} {fa f1 f2 f3 f4 f5 f6 f7 f8 f9 f10 f11 f12 f13 f14 : Addr} (X : K.In h) (G : h.Ns mainGlobals mg) (hfa : mg "law" = some (.ref fa))
    {od1 an1 od2 an2 od3 an3 od4 an4 od5 an5 od6 an6 od7 an7 od8 an8 od9 an9 od10 an10 od11 an11 od12 an12 od13 an13 od14 an14 : Option Addr} {CT CS NT hI cc cda dN cB PB : Addr} {nmT qT : Str} {bsT : List Value} {snT : List Str} {subT : List Value} {abT : Bool} {colT : Option Bool} {ddT : Option Addr} {m0 m1 m2 m3 m5 : Option Value}
    {ocI kVI dcI pmI ctI : Value} {odI anI : Option Addr} {slI : Array (Option Value)} {clC : Value} {cldC : Option Addr} {cslC : Array (Option Value)} {cclD : Value} {cddD : Option Addr} {vsD : Array Value} {ccsD : Array (Option Value)} {fileD : Str} {tfD tF tG : Tok} {cdT : ClassData} {esN : Array DictEntry} {nN : Nat} {sl1 sl2 sl3 sl4 sl5 sl6 sl7 sl8 sl9 sl10 sl11 sl12 sl13 sl14 : Array (Option Value)} {oc1 kV1 dc1 pm1 cd1 ct1 oc2 kV2 dc2 pm2 cd2 ct2 oc3 kV3 dc3 pm3 cd3 ct3 oc4 kV4 dc4 pm4 cd4 ct4 oc5 kV5 dc5 pm5 cd5 ct5 oc6 kV6 dc6 pm6 cd6 ct6 oc7 kV7 dc7 pm7 cd7 ct7 oc8 kV8 dc8 pm8 cd8 ct8 oc9 kV9 dc9 pm9 cd9 ct9 oc10 kV10 dc10 pm10 cd10 ct10 oc11 kV11 dc11 pm11 cd11 ct11 oc12 kV12 dc12 pm12 cd12 ct12 oc13 kV13 dc13 pm13 cd13 ct13 oc14 kV14 dc14 pm14 ct14 : Value}
    (a1 : PySem.W.nsIn K mainGlobals "day_text" = some (some (.ref f1))) (l1 : K.lookup f1 = some ⟨oc1, od1, .func (PySem.W.fnOf "day_text" "day_text" (defArgs s_day_text) (defBody s_day_text) (defScope s_day_text) .none kV1 dc1 pm1 an1 cd1 ct1), sl1⟩) (c1 : PySem.W.codeIn K cd1 "day_text" = true) (k1 : PySem.W.keepIn K (.ref f1) = true)
    (a2 : PySem.W.nsIn K mainGlobals "deed_text" = some (some (.ref f2))) (l2 : K.lookup f2 = some ⟨oc2, od2, .func (PySem.W.fnOf "deed_text" "deed_text" (defArgs s_deed_text) (defBody s_deed_text) (defScope s_deed_text) .none kV2 dc2 pm2 an2 cd2 ct2), sl2⟩) (c2 : PySem.W.codeIn K cd2 "deed_text" = true) (k2 : PySem.W.keepIn K (.ref f2) = true)
    (a3 : PySem.W.nsIn K mainGlobals "read_day" = some (some (.ref f3))) (l3 : K.lookup f3 = some ⟨oc3, od3, .func (PySem.W.fnOf "read_day" "read_day" (defArgs s_read_day) (defBody s_read_day) (defScope s_read_day) .none kV3 dc3 pm3 an3 cd3 ct3), sl3⟩) (c3 : PySem.W.codeIn K cd3 "read_day" = true) (k3 : PySem.W.keepIn K (.ref f3) = true)
    (a4 : PySem.W.nsIn K mainGlobals "read_deed" = some (some (.ref f4))) (l4 : K.lookup f4 = some ⟨oc4, od4, .func (PySem.W.fnOf "read_deed" "read_deed" (defArgs s_read_deed) (defBody s_read_deed) (defScope s_read_deed) .none kV4 dc4 pm4 an4 cd4 ct4), sl4⟩) (c4 : PySem.W.codeIn K cd4 "read_deed" = true) (k4 : PySem.W.keepIn K (.ref f4) = true)
    (a5 : PySem.W.nsIn K mainGlobals "is_number" = some (some (.ref f5))) (l5 : K.lookup f5 = some ⟨oc5, od5, .func (PySem.W.fnOf "is_number" "is_number" (defArgs s_is_number) (defBody s_is_number) (defScope s_is_number) .none kV5 dc5 pm5 an5 cd5 ct5), sl5⟩) (c5 : PySem.W.codeIn K cd5 "is_number" = true) (k5 : PySem.W.keepIn K (.ref f5) = true)
    (a6 : PySem.W.nsIn K mainGlobals "_law_mix" = some (some (.ref f6))) (l6 : K.lookup f6 = some ⟨oc6, od6, .func (PySem.W.fnOf "_law_mix" "_law_mix" (defArgs s_l_mix) (defBody s_l_mix) (defScope s_l_mix) .none kV6 dc6 pm6 an6 cd6 ct6), sl6⟩) (c6 : PySem.W.codeIn K cd6 "_law_mix" = true) (k6 : PySem.W.keepIn K (.ref f6) = true)
    (a7 : PySem.W.nsIn K mainGlobals "_law_next" = some (some (.ref f7))) (l7 : K.lookup f7 = some ⟨oc7, od7, .func (PySem.W.fnOf "_law_next" "_law_next" (defArgs s_l_next) (defBody s_l_next) (defScope s_l_next) .none kV7 dc7 pm7 an7 cd7 ct7), sl7⟩) (c7 : PySem.W.codeIn K cd7 "_law_next" = true) (k7 : PySem.W.keepIn K (.ref f7) = true)
    (a8 : PySem.W.nsIn K mainGlobals "_law_alike" = some (some (.ref f8))) (l8 : K.lookup f8 = some ⟨oc8, od8, .func (PySem.W.fnOf "_law_alike" "_law_alike" (defArgs s_l_alike) (defBody s_l_alike) (defScope s_l_alike) .none kV8 dc8 pm8 an8 cd8 ct8), sl8⟩) (c8 : PySem.W.codeIn K cd8 "_law_alike" = true) (k8 : PySem.W.keepIn K (.ref f8) = true)
    (a9 : PySem.W.nsIn K mainGlobals "_law_place" = some (some (.ref f9))) (l9 : K.lookup f9 = some ⟨oc9, od9, .func (PySem.W.fnOf "_law_place" "_law_place" (defArgs s_l_place) (defBody s_l_place) (defScope s_l_place) .none kV9 dc9 pm9 an9 cd9 ct9), sl9⟩) (c9 : PySem.W.codeIn K cd9 "_law_place" = true) (k9 : PySem.W.keepIn K (.ref f9) = true)
    (a10 : PySem.W.nsIn K mainGlobals "_law_deeds" = some (some (.ref f10))) (l10 : K.lookup f10 = some ⟨oc10, od10, .func (PySem.W.fnOf "_law_deeds" "_law_deeds" (defArgs s_l_deeds) (defBody s_l_deeds) (defScope s_l_deeds) .none kV10 dc10 pm10 an10 cd10 ct10), sl10⟩) (c10 : PySem.W.codeIn K cd10 "_law_deeds" = true) (k10 : PySem.W.keepIn K (.ref f10) = true)
    (a11 : PySem.W.nsIn K mainGlobals "_law_row" = some (some (.ref f11))) (l11 : K.lookup f11 = some ⟨oc11, od11, .func (PySem.W.fnOf "_law_row" "_law_row" (defArgs s_l_row) (defBody s_l_row) (defScope s_l_row) .none kV11 dc11 pm11 an11 cd11 ct11), sl11⟩) (c11 : PySem.W.codeIn K cd11 "_law_row" = true) (k11 : PySem.W.keepIn K (.ref f11) = true)
    (a12 : PySem.W.nsIn K mainGlobals "_law_is_number" = some (some (.ref f12))) (l12 : K.lookup f12 = some ⟨oc12, od12, .func (PySem.W.fnOf "_law_is_number" "_law_is_number" (defArgs s_l_is_number) (defBody s_l_is_number) (defScope s_l_is_number) .none kV12 dc12 pm12 an12 cd12 ct12), sl12⟩) (c12 : PySem.W.codeIn K cd12 "_law_is_number" = true) (k12 : PySem.W.keepIn K (.ref f12) = true)
    (a13 : PySem.W.nsIn K mainGlobals "_law_is_row" = some (some (.ref f13))) (l13 : K.lookup f13 = some ⟨oc13, od13, .func (PySem.W.fnOf "_law_is_row" "_law_is_row" (defArgs s_l_is_row) (defBody s_l_is_row) (defScope s_l_is_row) .none kV13 dc13 pm13 an13 cd13 ct13), sl13⟩) (c13 : PySem.W.codeIn K cd13 "_law_is_row" = true) (k13 : PySem.W.keepIn K (.ref f13) = true)
    (a14 : PySem.W.nsIn K mainGlobals "law" = some (some (.ref f14))) (l14 : K.lookup f14 = some ⟨oc14, od14, .func (PySem.W.fnOf "law" "law" (defArgs s_law) (defBody s_law) (defScope s_law) .none kV14 dc14 pm14 an14 (.ref cB) ct14), sl14⟩) (c14 : PySem.W.codeIn K (.ref cB) "law" = true) (k14 : PySem.W.keepIn K (.ref f14) = true)
    (z_len : PySem.W.nsIn K mainGlobals "len" = some none) (z_range : PySem.W.nsIn K mainGlobals "range" = some none) (z_list : PySem.W.nsIn K mainGlobals "list" = some none) (z_tuple : PySem.W.nsIn K mainGlobals "tuple" = some none) (z_int : PySem.W.nsIn K mainGlobals "int" = some none) (z_isinstance : PySem.W.nsIn K mainGlobals "isinstance" = some none) (z_dict : PySem.W.nsIn K mainGlobals "dict" = some none) (z_bool : PySem.W.nsIn K mainGlobals "bool" = some none) (z_str : PySem.W.nsIn K mainGlobals "str" = some none) (z_min : PySem.W.nsIn K mainGlobals "min" = some none) (z_sorted : PySem.W.nsIn K mainGlobals "sorted" = some none) (z_all : PySem.W.nsIn K mainGlobals "all" = some none) (z_enumerate : PySem.W.nsIn K mainGlobals "enumerate" = some none) (z_max : PySem.W.nsIn K mainGlobals "max" = some none) (z_super : PySem.W.nsIn K mainGlobals "super" = some none) (z_ValueError : PySem.W.nsIn K mainGlobals "ValueError" = some none)
    (aT : PySem.W.nsIn K mainGlobals "BadText" = some (some (.ref CT)))
    (aS : PySem.W.nsIn K mainGlobals "StoreError" = some (some (.ref CS)))
    (xL : K.lookup CT = some (excClassObj nmT qT CT NT bsT [.ref CS, .type "ValueError", .type "Exception", .type "BaseException", .type "object"] true snT subT abT colT ddT m0 m1 m2 m3 m5 "ValueError.__new__"))
    (sa : PySem.W.findIn K (.ref CT) "__setattr__" = some (some (.builtin "object.__setattr__")))
    (bE : PySem.W.subIn K (.ref CT) (.type "BaseException") = some true)
    (tC : PySem.W.typeIn K (.ref CT) = some (.type "type"))
    (kC : PySem.W.keepIn K (.ref CT) = true)
    (iC : PySem.W.findIn K (.ref CT) "__init__" = some (some (.ref hI)))
    (tI2 : PySem.W.typeIn K (.ref hI) = some (.type "function"))
    (np : PySem.W.findIn K (.ref CT) "place" = some none)
    (lI : K.lookup hI = some ⟨ocI, odI, .func (PySem.W.fnX "__init__" "BadText.__init__" (defArgs s_BadText___init__) (defBody s_BadText___init__) (defScope s_BadText___init__) [("__class__", cc)] .none kVI dcI pmI anI (.ref cda) ctI), slI⟩)
    (cI : PySem.W.codeIn K (.ref cda) "BadText.__init__" = true)
    (cell : K.lookup cc = some ⟨clC, cldC, .cell (some (.ref CT)), cslC⟩)
    (code : K.lookup cda = some ⟨cclD, cddD, .fields vsD, ccsD⟩)
    (cod2 : vsD[2]? = some (.str fileD tfD))
    (file : ((l.prog.main.file : Str) == fileD) = true)
    (stat : PySem.W.nsIn K cStatics "thirdparty.any" = some none)
    (clsM : PySem.W.clsIn K CT = some cdT)
    (mroM : PySem.W.alongIn K "__init__" ((cdT.mro.dropWhile (· != .ref CT)).drop 1) = some (some (.builtin "ValueError.__init__")))
    (self : PySem.W.mroIn K CT (.ref CT) = some true)
    (veS : PySem.W.subIn K (.ref CT) (.type "ValueError") = some true)
    (top : (l.prog.main.scope.names.lookup ("super" : Str)).isSome = false)
    (e1 : PySem.W.findIn K (.ref CT) "__getattribute__" = some (some (.builtin "BaseException.__getattribute__")))
    (e2 : PySem.W.findIn K (.ref CT) "__getattr__" = some none)
    (e4 : PySem.W.hasDictIn K CT = true)
    (e5 : PySem.W.findIn K (.ref CT) "__class__" = some (some (.builtin "object.__class__")))
    (e8 : PySem.W.mroIn K CT (.type "object") = some true)
    (sp6 : PySem.W.specialIn K (.builtin "object.__class__") "__get__" = some (some (.builtin "getset_descriptor.__get__")))
    (sp7 : PySem.W.takesIn K (.builtin "object.__class__") = some true)
    (es : PySem.W.exmOne K (.ref CT) (.ref CT) = some true)
    (k1s : PySem.W.kitOne K (.ref CT) (.ref CS) = some true)
    (k2v : PySem.W.kitOne K (.ref CT) (.type "ValueError") = some true)
    (aN : PySem.W.nsIn K mainGlobals "NUMBERS" = some (some (.ref dN)))
    (lN : K.lookup dN = some ⟨.type "dict", none, .dict esN nN, #[]⟩)
    (vN : PySem.W.KeysLit w.params esN.toList)
    (sN : (dN == sysModules) = false)
    (x_nN : numB esN.toList = true)
    (aF : PySem.W.nsIn K mainGlobals "FIGURES" = some (some (.str figs tF)))
    (aG : PySem.W.nsIn K mainGlobals "LONGEST_NUMBER" = some (some (.int 3 tG)))
    (tI : PySem.W.tabIn K "law" = some (cB, PB))
    (nP : K.lookup PB = none)
    (hTab : ∀ c P, PySem.W.tabIn K "law" = some (c, P) → PySem.W.CodeHd h c P ∧ h.get? P = some { cls := .none, data := .fields #[] }) :
    LamX.LawAtS l w K CX0 9 63 "_law_script" mg fa h := by
  have e := hfa.symm.trans (PySem.W.mg_of X G a14)
  cases e
  have m_len : mg "len" = none := PySem.W.mg_none_of X G z_len
  have m_range : mg "range" = none := PySem.W.mg_none_of X G z_range
  have m_list : mg "list" = none := PySem.W.mg_none_of X G z_list
  have m_tuple : mg "tuple" = none := PySem.W.mg_none_of X G z_tuple
  have m_int : mg "int" = none := PySem.W.mg_none_of X G z_int
  have m_isinstance : mg "isinstance" = none := PySem.W.mg_none_of X G z_isinstance
  have m_dict : mg "dict" = none := PySem.W.mg_none_of X G z_dict
  have m_bool : mg "bool" = none := PySem.W.mg_none_of X G z_bool
  have m_str : mg "str" = none := PySem.W.mg_none_of X G z_str
  have m_min : mg "min" = none := PySem.W.mg_none_of X G z_min
  have m_sorted : mg "sorted" = none := PySem.W.mg_none_of X G z_sorted
  have m_all : mg "all" = none := PySem.W.mg_none_of X G z_all
  have m_enumerate : mg "enumerate" = none := PySem.W.mg_none_of X G z_enumerate
  have m_max : mg "max" = none := PySem.W.mg_none_of X G z_max
  have m_super : mg "super" = none := PySem.W.mg_none_of X G z_super
  have m_ValueError : mg "ValueError" = none := PySem.W.mg_none_of X G z_ValueError
  have F1 := fun_mk (st := s_day_text) l1 c1 k1
  have g1 : mg "day_text" = some (.ref f1) := PySem.W.mg_of X G a1
  have b1 := F1.binds (ps := ["deeds"]) fun _ _ _ _ _ _ us hl => match us, hl with | [_], _ => rfl
  have F2 := fun_mk (st := s_deed_text) l2 c2 k2
  have g2 : mg "deed_text" = some (.ref f2) := PySem.W.mg_of X G a2
  have b2 := F2.binds (ps := ["deed"]) fun _ _ _ _ _ _ us hl => match us, hl with | [_], _ => rfl
  have F3 := fun_mk (st := s_read_day) l3 c3 k3
  have g3 : mg "read_day" = some (.ref f3) := PySem.W.mg_of X G a3
  have b3 := F3.binds (ps := ["text"]) fun _ _ _ _ _ _ us hl => match us, hl with | [_], _ => rfl
  have F4 := fun_mk (st := s_read_deed) l4 c4 k4
  have g4 : mg "read_deed" = some (.ref f4) := PySem.W.mg_of X G a4
  have b4 := F4.binds (ps := ["row", "place"]) fun _ _ _ _ _ _ us hl => match us, hl with | [_, _], _ => rfl
  have F5 := fun_mk (st := s_is_number) l5 c5 k5
  have g5 : mg "is_number" = some (.ref f5) := PySem.W.mg_of X G a5
  have b5 := F5.binds (ps := ["word"]) fun _ _ _ _ _ _ us hl => match us, hl with | [_], _ => rfl
  have F6 := fun_mk (st := s_l_mix) l6 c6 k6
  have g6 : mg "_law_mix" = some (.ref f6) := PySem.W.mg_of X G a6
  have b6 := F6.binds (ps := ["_law_script", "_law_seed"]) fun _ _ _ _ _ _ us hl => match us, hl with | [_, _], _ => rfl
  have F7 := fun_mk (st := s_l_next) l7 c7 k7
  have g7 : mg "_law_next" = some (.ref f7) := PySem.W.mg_of X G a7
  have b7 := F7.binds (ps := ["_law_h", "_law_many"]) fun _ _ _ _ _ _ us hl => match us, hl with | [_, _], _ => rfl
  have F8 := fun_mk (st := s_l_alike) l8 c8 k8
  have g8 : mg "_law_alike" = some (.ref f8) := PySem.W.mg_of X G a8
  have b8 := F8.binds (ps := ["_law_found", "_law_due"]) fun _ _ _ _ _ _ us hl => match us, hl with | [_, _], _ => rfl
  have F9 := fun_mk (st := s_l_place) l9 c9 k9
  have g9 : mg "_law_place" = some (.ref f9) := PySem.W.mg_of X G a9
  have b9 := F9.binds (ps := ["_law_call"]) fun _ _ _ _ _ _ us hl => match us, hl with | [_], _ => rfl
  have F10 := fun_mk (st := s_l_deeds) l10 c10 k10
  have g10 : mg "_law_deeds" = some (.ref f10) := PySem.W.mg_of X G a10
  have b10 := F10.binds (ps := ["_law_h", "_law_many"]) fun _ _ _ _ _ _ us hl => match us, hl with | [_, _], _ => rfl
  have F11 := fun_mk (st := s_l_row) l11 c11 k11
  have g11 : mg "_law_row" = some (.ref f11) := PySem.W.mg_of X G a11
  have b11 := F11.binds (ps := ["_law_deed"]) fun _ _ _ _ _ _ us hl => match us, hl with | [_], _ => rfl
  have F12 := fun_mk (st := s_l_is_number) l12 c12 k12
  have g12 : mg "_law_is_number" = some (.ref f12) := PySem.W.mg_of X G a12
  have b12 := F12.binds (ps := ["_law_word"]) fun _ _ _ _ _ _ us hl => match us, hl with | [_], _ => rfl
  have F13 := fun_mk (st := s_l_is_row) l13 c13 k13
  have g13 : mg "_law_is_row" = some (.ref f13) := PySem.W.mg_of X G a13
  have b13 := F13.binds (ps := ["_law_row_here"]) fun _ _ _ _ _ _ us hl => match us, hl with | [_], _ => rfl
  have F14 := fun_mk (st := s_law) l14 c14 k14
  have T : Txt mg := ⟨m_len, m_range, m_list, m_tuple, m_int, m_isinstance, m_dict, m_bool, m_str, m_min, m_sorted⟩
  have ox : OexC K CT := ⟨⟨nmT, qT, NT, bsT, _, snT, subT, abT, colT, ddT, m0, m1, m2, m3, m5, xL, (show PySem.HandSPX.refsVE [.type "ValueError", .type "Exception", .type "BaseException", .type "object"] = true from by decide +kernel)⟩, sa, bE, tC, kC⟩
  have ST : SIX.SupT l.prog K CT cc cda := ⟨⟨_, _, _, cell⟩, ⟨_, _, _, _, _, _, code, cod2, file⟩, stat, ⟨cdT, clsM, mroM⟩, self, veS, ox⟩
  have gT := PySem.W.mg_of X G aT
  have gS := PySem.W.mg_of X G aS
  have PF : PlF K mg CT CS := ⟨⟨e1, e2, bE, e4, e5, sp6, sp7, e8⟩, ⟨e1, e2, bE, e4⟩, es, k1s, k2v, np, gT, gS, m_ValueError⟩
  have ND : NumD K w dN := numD_of lN vN sN x_nN
  have gN := PySem.W.mg_of X G aN
  have gF := PySem.W.mg_of X G aF
  have gG := PySem.W.mg_of X G aG
  have hT2 := hTab cB PB tI
  refine ⟨PySem.W.fnOf "law" "law" (defArgs s_law) (defBody s_law) (defScope s_law) .none kV14 dc14 pm14 an14 (.ref cB) ct14, [(cB, PB)], spLaw K PB, fun p hp => ?_, fun p hp => ?_, fun p hp => ?_, fun s v => .of_eq rfl, fun H a ns hl _ hH hS => ⟨a, ns, rfl, hS, hl, fun p hp => ?_, fun _ => rfl⟩, fun base _ _ TBs => ?_⟩
  · rw [List.mem_singleton.mp hp]; exact hT2.2
  · rw [List.mem_singleton.mp hp]; exact nP
  · rw [List.mem_singleton.mp hp]; exact hT2.1
  · rw [List.mem_singleton.mp hp]; exact LamX.TabS.nil (hH (cB, PB) (List.mem_singleton.mpr rfl))
  have TB := TBs (cB, PB) (List.mem_singleton.mpr rfl)
  have GB := ok_bt (P := l.prog) (w := w) (mg := mg) (base := base) lI cI ST m_super top
  have BB : BtF l.prog w K mg base CT hI _ := ⟨ox, iC, tI2, GB, ⟨fun s us ws _ l1 l2 => match us, ws, l1, l2 with | [_], [_], _, _ => .of_eq rfl, fun r1 r2 => r1.append r2⟩, gT, np⟩
  have Cnu : HX.Cal l.prog w K mg base 1 "is_number" ["word"] spNum f5 _ := ⟨g5, k5, b5, ok_num F5 T m_all gG gF⟩
  have Cdt : HX.Cal l.prog w K mg base 1 "deed_text" ["deed"] (spDt K) f2 _ := ⟨g2, k2, b2, ok_dt F2 T⟩
  have Cdy : HX.Cal l.prog w K mg base 2 "day_text" ["deeds"] (spDy K) f1 _ := ⟨g1, k1, b1, ok_dy F1 (Cdt.mono (by decide))⟩
  have GRd := ok_rd F4 T m_all BB gN ND (Cnu.mono (by decide))
  have GRy := ok_ry F3 T m_enumerate g4 k4 b4 GRd
  have Cmx : HX.Cal l.prog w K mg base 1 "_law_mix" ["_law_script", "_law_seed"] (spMix K) f6 _ := ⟨g6, k6, b6, ok_mix F6 T⟩
  have Cnx : HX.Cal l.prog w K mg base 1 "_law_next" ["_law_h", "_law_many"] (spNx K) f7 _ := ⟨g7, k7, b7, ok_nx F7 T m_max⟩
  have Al0 : HX.Cal l.prog w K mg base 1 "_law_alike" ["_law_found", "_law_due"] (spAk K 0) f8 _ := ⟨g8, k8, b8, ok_ak (n := 0) (j := 0) F8 T (fun _ h => nomatch h)⟩
  have Al1 : HX.Cal l.prog w K mg base 2 "_law_alike" ["_law_found", "_law_due"] (spAk K 1) f8 _ := ⟨g8, k8, b8, ok_ak (n := 1) (j := 1) F8 T (fun m h => by cases h; exact Al0)⟩
  have Al2 : HX.Cal l.prog w K mg base 3 "_law_alike" ["_law_found", "_law_due"] (spAk K 2) f8 _ := ⟨g8, k8, b8, ok_ak (n := 2) (j := 2) F8 T (fun m h => by cases h; exact Al1)⟩
  have Al3 : HX.Cal l.prog w K mg base 4 "_law_alike" ["_law_found", "_law_due"] (spAk K 3) f8 _ := ⟨g8, k8, b8, ok_ak (n := 3) (j := 3) F8 T (fun m h => by cases h; exact Al2)⟩
  have Cpl : HX.Cal l.prog w K mg base 8 "_law_place" ["_law_call"] (spPl l.prog w K mg base 6 CT) f9 _ := ⟨g9, k9, b9, (ok_pl (k := 6) F9 T PF).mono (by decide)⟩
  have Cds : HX.Cal l.prog w K mg base 2 "_law_deeds" ["_law_h", "_law_many"] (spDs K) f10 _ := ⟨g10, k10, b10, ok_ds F10 T Cnx⟩
  have Crw : HX.Cal l.prog w K mg base 1 "_law_row" ["_law_deed"] (spDt K) f11 _ := ⟨g11, k11, b11, ok_rw F11 T⟩
  have Cln : HX.Cal l.prog w K mg base 1 "_law_is_number" ["_law_word"] spNum f12 _ := ⟨g12, k12, b12, ok_ln F12 T⟩
  have Cir : HX.Cal l.prog w K mg base 2 "_law_is_row" ["_law_row_here"] spIr f13 _ := ⟨g13, k13, b13, ok_ir F13 T Cln⟩
  exact ok_law (CT := CT) l14 c14 TB T (Cmx.mono (by decide)) (Cnx.mono (by decide)) (Cds.mono (by decide)) (Crw.mono (by decide)) (Cdy.mono (by decide)) (Al3.mono (by decide)) (Cir.mono (by decide)) Cpl g3 k3 b3 GRy

theorem walk {l : PySem.W.OpenLaw} {q : Program} {loose : List Str} {XP : (Str → Option Value) → Heap → Prop} {YP : World → Heap → Prop} {d : DefRec} {K : Params → PySem.W.Frag} (hn : l.most = some 63) (hdf : d.params.defaults = []) (hrec : ((PyProof.Rows.recsOf q).find? fun e => e.name == (("law" : String) : Str)).isSome = true)
    (hY : ∀ (w : World) (h : Heap), YP w h → (K w.params).In h)
    (F : ∀ (w : World) (mg : Str → Option Value) (fa : Addr) (h : Heap), (K w.params).In h → h.Ns mainGlobals mg → mg d.name = some (.ref fa) → (∀ c P, PySem.W.tabIn (K w.params) "law" = some (c, P) → PySem.W.CodeHd h c P ∧ h.get? P = some { cls := .none, data := .fields #[] }) →
      LamX.LawAtS l w (K w.params) CX0 9 63 "_law_script" mg fa h) :
    PySem.W.WalkO q loose XP YP l.row.toRowW d [] (fun f vs => PySem.call f vs) := by
  refine Att.attach_callB hn hdf fun w s₀ s₁ mg mb fa o pm cd doc a vs ns G Y ho hd hcd hmg hobj hints hlen hbits hg => ?_
  have KX := hY w _ Y
  obtain ⟨dB, hB⟩ := Option.isSome_iff_exists.mp hrec
  obtain ⟨fd, cs, sp, hT, nT, C, hb, hsp, hF⟩ := F w mg fa _ KX G.T.g hmg fun c P ht => PySem.W.tab_of G.T KX hB ht
  exact LamX.law_callTs KX G.T.g G.T.b G.T.builtins G.T.nolimit hg hT nT C G.T.bmain hobj hints (Nat.le_trans hlen (by decide)) ⟨rfl, by decide, by decide⟩ hF hb (fun H hH hS => hsp H a ns hlen hbits hH hS) fun H e s' z => z
end GS

set_option Elab.async false
open PySem PySem.W PyProof.Rows in
set_option maxRecDepth 100000 in
set_option maxHeartbeats 0 in
theorem PySem.Challenge.cw_granary_k72_days_written_and_read_holds : PySem.Challenge.rw_granary_k72_days_written_and_read.Holds := by
  w_on; o_law; k_head; (case hw => w_witness2)
  k_fill
  refine GS.walk (l := PySem.Challenge.rw_granary_k72_days_written_and_read) rfl rfl (by decide +kernel) (fun w h Y => PySem.W.km_in_of Y) ?F
  case F =>
    intro w mg fa h KX G hmg hTab
    refine' GS.all_mk KX G hmg ?a1 ?l1 ?c1 ?k1 ?a2 ?l2 ?c2 ?k2 ?a3 ?l3 ?c3 ?k3 ?a4 ?l4 ?c4 ?k4 ?a5 ?l5 ?c5 ?k5 ?a6 ?l6 ?c6 ?k6 ?a7 ?l7 ?c7 ?k7 ?a8 ?l8 ?c8 ?k8 ?a9 ?l9 ?c9 ?k9 ?a10 ?l10 ?c10 ?k10 ?a11 ?l11 ?c11 ?k11 ?a12 ?l12 ?c12 ?k12 ?a13 ?l13 ?c13 ?k13 ?a14 ?l14 ?c14 ?k14 ?z_len ?z_range ?z_list ?z_tuple ?z_int ?z_isinstance ?z_dict ?z_bool ?z_str ?z_min ?z_sorted ?z_all ?z_enumerate ?z_max ?z_super ?z_ValueError ?aT ?aS ?xL ?sa ?bE ?tC ?kC ?iC ?tI2 ?np ?lI ?cI ?cell ?code ?cod2 ?file ?stat ?clsM ?mroM ?self ?veS ?top ?e1 ?e2 ?e4 ?e5 ?e8 ?sp6 ?sp7 ?es ?k1s ?k2v ?aN ?lN ?vN ?sN ?x_nN ?aF ?aG ?tI ?nP hTab
    (case a1 => k_is)
    (case l1 => k_is)
    (case c1 => k_is)
    (case k1 => k_is)
    (case a2 => k_is)
    (case l2 => k_is)
    (case c2 => k_is)
    (case k2 => k_is)
    (case a3 => k_is)
    (case l3 => k_is)
    (case c3 => k_is)
    (case k3 => k_is)
    (case a4 => k_is)
    (case l4 => k_is)
    (case c4 => k_is)
    (case k4 => k_is)
    (case a5 => k_is)
    (case l5 => k_is)
    (case c5 => k_is)
    (case k5 => k_is)
    (case a6 => k_is)
    (case l6 => k_is)
    (case c6 => k_is)
    (case k6 => k_is)
    (case a7 => k_is)
    (case l7 => k_is)
    (case c7 => k_is)
    (case k7 => k_is)
    (case a8 => k_is)
    (case l8 => k_is)
    (case c8 => k_is)
    (case k8 => k_is)
    (case a9 => k_is)
    (case l9 => k_is)
    (case c9 => k_is)
    (case k9 => k_is)
    (case a10 => k_is)
    (case l10 => k_is)
    (case c10 => k_is)
    (case k10 => k_is)
    (case a11 => k_is)
    (case l11 => k_is)
    (case c11 => k_is)
    (case k11 => k_is)
    (case a12 => k_is)
    (case l12 => k_is)
    (case c12 => k_is)
    (case k12 => k_is)
    (case a13 => k_is)
    (case l13 => k_is)
    (case c13 => k_is)
    (case k13 => k_is)
    (case a14 => k_is)
    (case l14 => k_is)
    (case c14 => k_is)
    (case k14 => k_is)
    (case z_len => k_is)
    (case z_range => k_is)
    (case z_list => k_is)
    (case z_tuple => k_is)
    (case z_int => k_is)
    (case z_isinstance => k_is)
    (case z_dict => k_is)
    (case z_bool => k_is)
    (case z_str => k_is)
    (case z_min => k_is)
    (case z_sorted => k_is)
    (case z_all => k_is)
    (case z_enumerate => k_is)
    (case z_max => k_is)
    (case z_super => k_is)
    (case z_ValueError => k_is)
    (case aT => k_is)
    (case aS => k_is)
    (case xL => k_is)
    (case sa => k_is)
    (case bE => k_is)
    (case tC => k_is)
    (case kC => k_is)
    (case iC => k_is)
    (case tI2 => k_is)
    (case np => k_is)
    (case lI => k_is)
    (case cI => k_is)
    (case cell => k_is)
    (case code => k_is)
    (case cod2 => rfl)
    (case file => first | rfl | decide +kernel)
    (case stat => k_is)
    (case clsM => first | k_is | rfl | decide +kernel)
    (case mroM => first | k_is | rfl | decide +kernel)
    (case self => first | k_is | rfl | decide +kernel)
    (case veS => k_is)
    (case top => first | rfl | decide +kernel)
    (case e1 => k_is)
    (case e2 => k_is)
    (case e4 => k_is)
    (case e5 => k_is)
    (case e8 => k_is)
    (case sp6 => k_is)
    (case sp7 => k_is)
    (case es => first | k_is | rfl | decide +kernel)
    (case k1s => first | k_is | rfl | decide +kernel)
    (case k2v => first | k_is | rfl | decide +kernel)
    (case aN => k_is)
    (case lN => k_is)
    (case vN => exact ⟨⟨_, _, rfl, rfl⟩, ⟨_, _, rfl, rfl⟩, ⟨_, _, rfl, rfl⟩, ⟨_, _, rfl, rfl⟩, ⟨_, _, rfl, rfl⟩, ⟨_, _, rfl, rfl⟩, ⟨_, _, rfl, rfl⟩, ⟨_, _, rfl, rfl⟩, ⟨_, _, rfl, rfl⟩, ⟨_, _, rfl, rfl⟩, ⟨_, _, rfl, rfl⟩, ⟨_, _, rfl, rfl⟩, ⟨_, _, rfl, rfl⟩, ⟨_, _, rfl, rfl⟩, ⟨_, _, rfl, rfl⟩, ⟨_, _, rfl, rfl⟩, trivial⟩)
    (case sN => first | rfl | decide +kernel)
    (case x_nN => first | rfl | decide +kernel)
    (case aF => k_is)
    (case aG => k_is)
    (case tI => first | k_is | rfl)
    (case nP => first | k_is | rfl)

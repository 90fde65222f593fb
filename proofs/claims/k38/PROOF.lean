import PyProof.Rows.All
import Wide.All
import OpenK.AllK
import Wide.FinOn
import HandS.ForMost
import HandS.IsInst
import HandS.TupAny
import HandS.Deep
import HandS.Flow
import HandS.Style
import HandS.Exc
import HandS.TryOnly
import HandS.Lambda
import HandS.Nested
import PySem.Challenge.RW_granary_k38_disks_step_by_step
import HandS.WideMore
import HandS.ForExc
import HandS.ExcOwn
import HandS.WordsExc
import HandS.BoundList
import HandS.ExcIs
import HandS.EndTab
import HandS.EndOwn
set_option Elab.async false
namespace RK
open PySem L2
section
variable {X : Cx} {K : PySem.W.Frag}
theorem ixL (h : X.K = K := by rfl) : IxR X (rIxL K) := by subst h; exact ix_list
theorem ixT (h : X.K = K := by rfl) : IxR X (rIxT K) := by subst h; exact ix_tup
theorem ixQ (h : X.K = K := by rfl) : IxR X (rIx K) := by subst h; exact ix_seq
theorem eqD (hu : X.A.units + 64 < cLine) (h : X.K = K := by rfl) : OpR X (compareOp .Eq) (rEqD K) := by subst h; exact op_eqD hu
theorem neD (hu : X.A.units + 64 < cLine) (h : X.K = K := by rfl) : OpR X (compareOp .NotEq) (rNeD K) := by subst h; exact op_neD hu
theorem inQ (h : X.K = K := by rfl) : OpR X (compareOp .In) (rIn K false) := by subst h; exact op_in_seq
theorem notInQ (h : X.K = K := by rfl) : OpR X (compareOp .NotIn) (rIn K true) := by subst h; exact op_notIn_seq
def rLenQ (K : PySem.W.Frag) : List V → Hp → VK → Prop := fun xs H Q => ∃ p ys, xs = [.ref p] ∧ (SqL K H p ys ∨ SqT K H p ys) ∧ Q (.int ys.length) H
theorem lenQ (h : X.K = K := by rfl) : CallR X (.builtin "len") (rLenQ K) := by subst h; exact call_len_seq
def rListQ (K : PySem.W.Frag) : List V → Hp → VK → Prop := fun xs H Q => ∃ p ys, xs = [.ref p] ∧ (SqL K H p ys ∨ SqT K H p ys) ∧ ∀ l, H l = none → Q (.ref l) (upd H l (.lst ys))
theorem listQ (h : X.K = K := by rfl) : CallR X (.type "list") (rListQ K) := by subst h; exact call_list_of
def rTupQ (K : PySem.W.Frag) : List V → Hp → VK → Prop := fun xs H Q => ∃ p ys, xs = [.ref p] ∧ ((SqL K H p ys ∧ ∀ l, H l = none → Q (.ref l) (upd H l (.tup ys))) ∨ (SqT K H p ys ∧ Q (.ref p) H))
theorem tupQ (h : X.K = K := by rfl) : CallR X (.type "tuple") (rTupQ K) := by subst h; exact call_tuple_of
theorem slL (h : X.K = K := by rfl) : SlR X (rSlL K) := by subst h; exact sl_list
theorem slT (h : X.K = K := by rfl) : SlR X (rSlA K) := by subst h; exact sl_tupA
theorem catT (h : X.K = K := by rfl) : OpR X (binaryOp .Add) (rCatA K) := by subst h; exact op_catA
theorem isi (h : X.K = K := by rfl) : CallR X (.builtin "isinstance") (rIsi K) := by subst h; exact call_isi
theorem isiT (h : X.K = K := by rfl) : CallR X (.builtin "isinstance") (rIsiT K) := by subst h; exact call_isiT
theorem piL {tg l : Expr} {tl : TE} (hl : PE X l tl) (h : X.K = K := by rfl) : PI X tg l (iList K tl) := by subst h; exact pi_list hl
theorem piT {tg l : Expr} {tl : TE} (hl : PE X l tl) (h : X.K = K := by rfl) : PI X tg l (iTup K tl) := by subst h; exact pi_tup hl
def rAllQ (K : PySem.W.Frag) : List V → Hp → VK → Prop := fun xs H Q => ∃ (a : Addr) (bs : List Bool), xs = [.ref a] ∧ SqL K H a (bs.map V.bl) ∧ Q (.bl (bs.all id)) H
def rAnyQ (K : PySem.W.Frag) : List V → Hp → VK → Prop := fun xs H Q => ∃ (a : Addr) (bs : List Bool), xs = [.ref a] ∧ SqL K H a (bs.map V.bl) ∧ Q (.bl (bs.any id)) H
theorem allQ (hc : X.calm = true) (h : X.K = K := by rfl) : CallR X (.builtin "all") (rAllQ K) := by subst h; exact cr_all hc
theorem anyQ (hc : X.calm = true) (h : X.K = K := by rfl) : CallR X (.builtin "any") (rAnyQ K) := by subst h; exact cr_any hc
theorem pgTup {es : List Expr} {kk n : Nat} {pos : Pos} {t : TGs} (hc : X.calm = true) (ht : PGs X es t) (h : X.K = K := by rfl) (hn : (assignEach es X.env).length = n := by rfl) (hst : (assignEach es X.env).findIdx? (·.1) = none := by rfl) :
    PG X (.Tuple es kk pos) (gTup K n t) := by subst h; exact pg_tup hc ht hn hst
end
end RK

set_option Elab.async false
namespace RK
open PySem L2
section
variable {X : Cx} {K : PySem.W.Frag} {o e : Expr} {es : List Expr} {to : TE} {t : TA} {name : Str} {apos cpos : Pos} {T id : String} {r : V → List V → Hp → VK → Prop}
/-- a method of a list, in a comprehension too -/
theorem bm (pa : PlainAttrs T) (slot : Slot T name id) (ty : typeOf (.builtin id) = pure (.type "method_descriptor")) (mt : MtR X id r) (ho : PE X o to) (ha : PA X (e :: es) t) (hK : X.K = K := by rfl)
    (h1 : attributeBase o name X.env (eval o X.env) = eval o X.env := by rfl)
    (h2 : ((backTo cpos (starEach (e :: es) X.env)).all (fun y => !y.1) && (backToKw cpos (keywordEach [] X.env)).all (fun y => y.1.isSome)
      && decide ((e :: es).length + ([] : List Keyword).length + (if ([] : List Keyword).isEmpty then 0 else 1) < 30)) = true := by rfl)
    (h3 : (apos.endLine == cpos.line) = true := by rfl) (h4 : starEach (e :: es) X.env = (false, eval e X.env) :: starEach es X.env := by rfl) (h5 : (backTo cpos (starEach es X.env)).any (·.1) = false := by rfl) :
    PE X (.Call (.Attribute o name apos) (e :: es) [] cpos) (tBM K T r to t) := by subst hK; exact pe_bm pa slot ty mt ho ha h1 h2 h3 h4 h5
theorem bm0 (pa : PlainAttrs T) (slot : Slot T name id) (ty : typeOf (.builtin id) = pure (.type "method_descriptor")) (mt : MtR X id r) (ho : PE X o to) (hK : X.K = K := by rfl)
    (h1 : attributeBase o name X.env (eval o X.env) = eval o X.env := by rfl) (h2 : (apos.endLine == cpos.line) = true := by rfl) : PE X (.Call (.Attribute o name apos) [] [] cpos) (tBM0 K T r to) := by subst hK; exact pe_bm0 pa slot ty mt ho h1 h2
def rDictQ (K : PySem.W.Frag) : List V → Hp → VK → Prop := fun xs H Q => ∃ (a : Addr) (ps : List Addr) (kvs : List (Key × V)), xs = [.ref a] ∧ SqL K H a (ps.map V.ref) ∧ Paired (fun q kv => SqT K H q [kV kv.1, kv.2]) ps kvs ∧ ∀ q, H q = none → Q (.ref q) (upd H q (.dK (mergeK [] kvs)))
theorem dictQ (hc : X.calm = true) (h : X.K = K := by rfl) : CallR X (.type "dict") (rDictQ K) := by subst h; exact call_dictP hc
theorem minQ (hc : X.calm = true) (h : X.K = K := by rfl) : CallR X (.builtin "min") (rMin K) := by subst h; exact cr_min hc
theorem indexQ (h : X.K = K := by rfl) : MtR X "list.index" (rIndex K) := by subst h; exact mt_index
theorem inD (hu : X.A.units + 65 < cLine) (h : X.K = K := by rfl) : OpR X (compareOp .In) (rInD K) := by subst h; exact op_inD hu
end
end RK

set_option Elab.async false
set_option maxRecDepth 100000
namespace HX
open PySem L2
theorem same_new {H : Hp} {p : Addr} {o : HO} (hp : H p = none) : Same H (upd H p o) := fun b u e => by rw [upd_ne (ne_of_none e hp)]; exact e
theorem gn {i : Nat} {x : V} {σ : L2.St} {H : Hp} {Q : L2.St → Hp → Prop} (h : Q (σ.set i (some x)) H) : gName i x σ H Q := h
theorem sa1 {te : TE} {g : TG} {u : TS} {D : Ends} {σ : L2.St} {H : Hp} (h : te σ H fun x H1 => g x σ H1 (u D)) : tSeq (tAsg te g) u D σ H := h
theorem sq1 {te : TE} {u : TS} {D : Ends} {σ : L2.St} {H : Hp} (h : te σ H fun _ H1 => u D σ H1) : tSeq (tDrop te) u D σ H := h
theorem op1 {r : R2} {ta : TE} {y : V} {σ : L2.St} {H : Hp} {Q : VK} (h : ta σ H fun x H1 => r x y H1 Q) : tOp r ta (tC y) σ H Q := h
theorem par1 {i j : Nat} {ta tb : TE} {u : TS} {D : Ends} {σ : L2.St} {H : Hp} (h : ta σ H fun x H1 => tb σ H1 fun y H2 => ∃ v w, [x, y] = [v, w] ∧ u D ((σ.set i (some v)).set j (some w)) H2) : tSeq (tPar i j (tCons ta (tCons tb tNil))) u D σ H := h
theorem rg1 {te : TE} {g : TG} {tb u : TS} {D : Ends} {σ : L2.St} {H : Hp} (h : te σ H fun x H1 => ∃ j : Int, [x] = [V.int j] ∧ -(2 ^ 62) ≤ j ∧ j < 2 ^ 62 ∧ (tFor (fun _ H R => R (Itr 0 j.toNat) H) g tb) { D with nx := u D } σ H1) : tSeq (tFor (iRng1 (tCons te tNil)) g tb) u D σ H := h
theorem sif {c : TT} {t e u : TS} {D : Ends} {σ : L2.St} {H : Hp} (h : c σ H fun b H1 => if b = true then t { D with nx := u D } σ H1 else e { D with nx := u D } σ H1) : tSeq (tIfS c t e) u D σ H := h
theorem sifR {c : TT} {t e u : TS} {D : Ends} {σ : L2.St} {H : Hp} (R : L2.St → Hp → Prop) (h1 : ∀ σ' H', R σ' H' → u D σ' H') (h : (∀ σ' H', R σ' H' → u D σ' H') → c σ H fun b H1 => if b = true then t { D with nx := u D } σ H1 else e { D with nx := u D } σ H1) : tSeq (tIfS c t e) u D σ H := h h1
theorem ifs {c : TT} {t e : TS} {D : Ends} {σ : L2.St} {H : Hp} (h : c σ H fun b H1 => if b = true then t D σ H1 else e D σ H1) : tIfS c t e D σ H := h
theorem at0 {x : V} {xs : List V} : atI (x :: xs) 0 = some x := atI_nat (j := 0) rfl
theorem room66 {k : Nat} {A : Around} (hr : Room k A) : A.units + 66 < cLine := by
  have z := hr.un
  omega
theorem pw_imp {α β : Type} {R S : α → β → Prop} (h : ∀ x y, R x y → S x y) : ∀ {xs : List α} {ys : List β}, Paired R xs ys → Paired S xs ys
  | _, _, .nil => .nil
  | _, _, .cons a r => .cons (h _ _ a) (pw_imp h r)
theorem pw_len {α β : Type} {R : α → β → Prop} : ∀ {xs : List α} {ys : List β}, Paired R xs ys → xs.length = ys.length
  | _, _, .nil => rfl
  | _, _, .cons _ r => by rw [List.length_cons, List.length_cons, pw_len r]
theorem pw_get {α β : Type} {R : α → β → Prop} : ∀ {xs : List α} {ys : List β} {i : Nat} {y : β}, Paired R xs ys → ys[i]? = some y → ∃ x, xs[i]? = some x ∧ R x y
  | _, _, i, y, .nil, e => by simp at e
  | _, _, 0, y, .cons h _, e => ⟨_, rfl, by simp at e; subst e; exact h⟩
  | _, _, i + 1, y, .cons _ r, e => pw_get (i := i) r (by simpa using e)
theorem pw_app {α β : Type} {R : α → β → Prop} : ∀ {xs xs' : List α} {ys ys' : List β}, Paired R xs ys → Paired R xs' ys' → Paired R (xs ++ xs') (ys ++ ys')
  | _, _, _, _, .nil, r => r
  | _, _, _, _, .cons a q, r => .cons a (pw_app q r)
theorem pw_take {α β : Type} {R : α → β → Prop} : ∀ {xs : List α} {ys : List β} (i : Nat), Paired R xs ys → Paired R (xs.take i) (ys.take i)
  | _, _, 0, _ => .nil
  | _, _, _ + 1, .nil => .nil
  | _, _, i + 1, .cons a q => .cons a (pw_take i q)
theorem pw_snoc {α β : Type} {R : α → β → Prop} {ds : List α} {i : Nat} {e : α} {ys : List β} {y : β} (h : Paired R (ds.take i) ys) (he : ds[i]? = some e) (r : R e y) : Paired R (ds.take (i + 1)) (ys ++ [y]) := by
  have z : ds.take (i + 1) = ds.take i ++ [e] := by rw [List.take_add_one, he]; rfl
  rw [z]
  exact pw_app h (.cons r .nil)
structure Cal (P : Program) (w : World) (K : PySem.W.Frag) (mg : Str → Option Value) (base : Heap) (k : Nat) (x : Str) (ps : List Str) (sp : Sp) (f : Addr) (fd : FuncData) : Prop where
  g : mg x = some (.ref f)
  kp : PySem.W.keepIn K (.ref f) = true
  b : Binds K fd ps []
  G : FnOk P w K mg base CX0 k f fd ps sp
theorem Cal.mono {P : Program} {w : World} {K : PySem.W.Frag} {mg : Str → Option Value} {base : Heap} {j k : Nat} {x : Str} {ps : List Str} {sp : Sp} {f : Addr} {fd : FuncData} (C : Cal P w K mg base j x ps sp f fd) (h : j ≤ k) : Cal P w K mg base k x ps sp f fd := ⟨C.g, C.kp, C.b, C.G.mono h⟩
/-- what is new in H' -/
def fresh (H H' : Hp) : Hp := fun b => match H b with
  | some _ => none
  | none => H' b
theorem fresh_at {H H' : Hp} {b : Addr} {o : HO} : fresh H H' b = some o ↔ H b = none ∧ H' b = some o := by
  unfold fresh
  cases H b with
  | none => exact ⟨fun h => ⟨rfl, h⟩, fun h => h.2⟩
  | some u => exact ⟨fun h => (by cases h), fun h => (by cases h.1)⟩
theorem none_of_same {H H' : Hp} (s : Same H H') {b : Addr} (h : H' b = none) : H b = none := by
  cases e : H b with
  | none => rfl
  | some o => rw [s b o e] at h; cases h
end HX

set_option Elab.async false
set_option maxRecDepth 100000
set_option maxHeartbeats 4000000
namespace TH
open PySem PySem.Spec PyProof.Rows L2 LamX NdefX
/-- cells are shut into the abstract heap, frozen as they stand; and taken out of it again -/
def addC (cs : List (Addr × Obj)) (H : Hp) : Hp := fun b => match cs.lookup b with | some o => some (.frz o (.own b)) | none => H b
def subC (cs : List (Addr × Obj)) (H : Hp) : Hp := fun b => match cs.lookup b with | some _ => none | none => H b
theorem addC_in {cs : List (Addr × Obj)} {H : Hp} {b : Addr} {o : Obj} (h : cs.lookup b = some o) : addC cs H b = some (.frz o (.own b)) := by unfold addC; rw [h]
theorem addC_out {cs : List (Addr × Obj)} {H : Hp} {b : Addr} (h : cs.lookup b = none) : addC cs H b = H b := by unfold addC; rw [h]
theorem subC_in {cs : List (Addr × Obj)} {H : Hp} {b : Addr} {o : Obj} (h : cs.lookup b = some o) : subC cs H b = none := by unfold subC; rw [h]
theorem subC_out {cs : List (Addr × Obj)} {H : Hp} {b : Addr} (h : cs.lookup b = none) : subC cs H b = H b := by unfold subC; rw [h]
/-- they stand in the heap, untracked -/
def CsAt (cs : List (Addr × Obj)) (H : Hp) (h : Heap) : Prop := ∀ b o, cs.lookup b = some o → h.get? b = some o ∧ H b = none
/-- they are shut in -/
def CsIn (cs : List (Addr × Obj)) (H : Hp) : Prop := ∀ b o, cs.lookup b = some o → H b = some (.frz o (.own b))
theorem csIn_add (cs : List (Addr × Obj)) (H : Hp) : CsIn cs (addC cs H) := fun _ _ h => addC_in h
/-- what is no cell is seen alike -/
theorem out_of {cs : List (Addr × Obj)} {H : Hp} {b : Addr} (i : CsIn cs H) (n : ∀ o, H b ≠ some (.frz o (.own b))) : cs.lookup b = none := by
  cases e : cs.lookup b with
  | none => rfl
  | some o => exact absurd (i b o e) (n o)
theorem out_none {cs : List (Addr × Obj)} {H : Hp} {b : Addr} (i : CsIn cs H) (n : H b = none) : cs.lookup b = none := out_of i fun o z => by rw [n] at z; cases z
section
variable {P : Program} {w : World} {cs : List (Addr × Obj)} {H H' : Hp} {h h' B : Heap} {fs : List Addr}
theorem out_own (a : CsAt cs H h) {b x : Addr} (e : H b = some (.own x)) : cs.lookup b = none := by
  cases q : cs.lookup b with
  | none => rfl
  | some o => rw [(a b o q).2] at e; cases e
theorem out_tup (a : CsAt cs H h) {b : Addr} {xs : List V} (e : H b = some (.tup xs)) : cs.lookup b = none := by
  cases q : cs.lookup b with
  | none => rfl
  | some o => rw [(a b o q).2] at e; cases e
theorem out_some (a : CsAt cs H h) {b : Addr} {u : HO} (e : H b = some u) : cs.lookup b = none := by
  cases q : cs.lookup b with
  | none => rfl
  | some o => rw [(a b o q).2] at e; cases e
theorem hok_add (x : HOk P w H h) (a : CsAt cs H h) : HOk P w (addC cs H) h := fun b u e => by
  cases q : cs.lookup b with
  | some o =>
    rw [addC_in q] at e
    cases e
    exact ⟨(a b o q).1, o, (a b o q).1⟩
  | none =>
    rw [addC_out q] at e
    exact (x b u e).stay (fun _ _ _ z => z) (fun c z => by rw [addC_out (out_own a z)]; exact z) fun c xs z => by rw [addC_out (out_tup a z)]; exact z
theorem hok_sub (x : HOk P w H h) (i : CsIn cs H) : HOk P w (subC cs H) h := fun b u e => by
  cases q : cs.lookup b with
  | some o =>
    rw [subC_in q] at e
    cases e
  | none =>
    rw [subC_out q] at e
    refine (x b u e).stay (fun _ _ _ z => z) (fun c z => ?_) fun c xs z => ?_
    · rw [subC_out (out_of i fun o y => by rw [z] at y; cases y)]; exact z
    · rw [subC_out (out_of i fun o y => by rw [z] at y; cases y)]; exact z
theorem csAt_sub (x : HOk P w H h) (i : CsIn cs H) : CsAt cs (subC cs H) h := fun b o q => ⟨(x b _ (i b o q)).1, subC_in q⟩
/-- a call's end, seen from without: the cells were shut in for it -/
theorem un_add (u : Un fs [] (addC cs H) H' h h') (a : CsAt cs H h) (x : HOk P w H' h') : Un fs [] H (subC cs H') h h' where
  keep := fun b o e n hb hx => by
    cases q : cs.lookup b with
    | some o' =>
      have e1 := (a b o' q).1
      rw [e] at e1
      cases e1
      exact (x b _ (u.frzs b o _ (addC_in q))).1
    | none => exact u.keep b o e (by rw [addC_out q]; exact n) hb hx
  slot := fun b o e n hb hx => by
    cases q : cs.lookup b with
    | some o' =>
      have e1 := (a b o' q).1
      rw [e] at e1
      cases e1
      exact ⟨o.slots, (x b _ (u.frzs b o _ (addC_in q))).1⟩
    | none => exact u.slot b o e (by rw [addC_out q]; exact n) hb hx
  free := fun b o e n hx => by
    cases q : cs.lookup b with
    | some o' => exact subC_in q
    | none =>
      rw [subC_out q]
      exact u.free b o e (by rw [addC_out q]; exact n) hx
  there := u.there
  tups := fun b xs e => by
    have q := out_some a e
    rw [subC_out q]
    exact u.tups b xs (by rw [addC_out q]; exact e)
  frzs := fun b o v e => by
    have q := out_some a e
    rw [subC_out q]
    exact u.frzs b o v (by rw [addC_out q]; exact e)
  tbls := fun b ps e => by
    have q := out_some a e
    rw [subC_out q]
    exact u.tbls b ps (by rw [addC_out q]; exact e)
theorem csIn_of (u : Un fs [] (addC cs H) H' h h') : CsIn cs H' := fun b o q => u.frzs b o _ (addC_in q)
/-- a call's end, seen from without: the cells were taken out for it -/
theorem un_sub (u : Un fs [] (subC cs H) H' h h') (i : CsIn cs H) : Un fs [] H (addC cs H') h h' where
  keep := fun b o e n hb hx => u.keep b o e (by rw [subC_out (out_none i n)]; exact n) hb hx
  slot := fun b o e n hb hx => u.slot b o e (by rw [subC_out (out_none i n)]; exact n) hb hx
  free := fun b o e n hx => by
    have q := out_none i n
    rw [addC_out q]
    exact u.free b o e (by rw [subC_out q]; exact n) hx
  there := u.there
  tups := fun b xs e => by
    have q : cs.lookup b = none := out_of i fun o z => by rw [e] at z; cases z
    rw [addC_out q]
    exact u.tups b xs (by rw [subC_out q]; exact e)
  frzs := fun b o v e => by
    cases q : cs.lookup b with
    | some o' =>
      have e1 := i b o' q
      rw [e] at e1
      cases e1
      exact addC_in q
    | none =>
      rw [addC_out q]
      exact u.frzs b o v (by rw [subC_out q]; exact e)
  tbls := fun b ps e => by
    have q : cs.lookup b = none := out_of i fun o z => by rw [e] at z; cases z
    rw [addC_out q]
    exact u.tbls b ps (by rw [subC_out q]; exact e)
theorem csAt_of (u : Un fs [] (subC cs H) H' h h') (a : CsAt cs (subC cs H) h) (nf : ∀ b o, cs.lookup b = some o → b ∉ fs) : CsAt cs H' h' := fun b o q =>
  ⟨u.keep b o (a b o q).1 (a b o q).2 (nf b o q) (by simp), u.free b o (a b o q).1 (a b o q).2 (by simp)⟩
/-- the same of an exception's ground -/
theorem ub_add (u : UB fs (addC cs H) H' h B h') (a : CsAt cs H h) (x : HOk P w H' B) : UB fs H (subC cs H') h B h' where
  keep := fun b o e n hb => by
    cases q : cs.lookup b with
    | some o' =>
      have e1 := (a b o' q).1
      rw [e] at e1
      cases e1
      exact (x b _ (u.frzs b o _ (addC_in q))).1
    | none => exact u.keep b o e (by rw [addC_out q]; exact n) hb
  slot := u.slot
  free := fun b o e n => by
    cases q : cs.lookup b with
    | some o' => exact subC_in q
    | none =>
      rw [subC_out q]
      exact u.free b o e (by rw [addC_out q]; exact n)
  there := u.there
  tups := fun b xs e => by
    have q := out_some a e
    rw [subC_out q]
    exact u.tups b xs (by rw [addC_out q]; exact e)
  frzs := fun b o v e => by
    have q := out_some a e
    rw [subC_out q]
    exact u.frzs b o v (by rw [addC_out q]; exact e)
  tbls := fun b ps e => by
    have q := out_some a e
    rw [subC_out q]
    exact u.tbls b ps (by rw [addC_out q]; exact e)
theorem ub_sub (u : UB fs (subC cs H) H' h B h') (i : CsIn cs H) : UB fs H (addC cs H') h B h' where
  keep := fun b o e n hb => u.keep b o e (by rw [subC_out (out_none i n)]; exact n) hb
  slot := u.slot
  free := fun b o e n => by
    have q := out_none i n
    rw [addC_out q]
    exact u.free b o e (by rw [subC_out q]; exact n)
  there := u.there
  tups := fun b xs e => by
    have q : cs.lookup b = none := out_of i fun o z => by rw [e] at z; cases z
    rw [addC_out q]
    exact u.tups b xs (by rw [subC_out q]; exact e)
  frzs := fun b o v e => by
    cases q : cs.lookup b with
    | some o' =>
      have e1 := i b o' q
      rw [e] at e1
      cases e1
      exact addC_in q
    | none =>
      rw [addC_out q]
      exact u.frzs b o v (by rw [subC_out q]; exact e)
  tbls := fun b ps e => by
    have q : cs.lookup b = none := out_of i fun o z => by rw [e] at z; cases z
    rw [addC_out q]
    exact u.tbls b ps (by rw [subC_out q]; exact e)
theorem csAt_ub (u : UB fs (subC cs H) H' h B h') (a : CsAt cs (subC cs H) h) (nf : ∀ b o, cs.lookup b = some o → b ∉ fs) : CsAt cs H' B := fun b o q =>
  ⟨u.keep b o (a b o q).1 (a b o q).2 (nf b o q), u.free b o (a b o q).1 (a b o q).2⟩
end
/-! ### thunks -/
/-- what a function that was handed on leans on -/
def KeepC (H H1 : Hp) : Prop := (∀ b o u, H b = some (.frz o u) → H1 b = some (.frz o u)) ∧ (∀ b xs, H b = some (.tup xs) → H1 b = some (.tup xs)) ∧ ∀ b φ, H b = some (.ext φ) → H1 b = some (.ext φ)
theorem KeepC.of {H H1 : Hp} (e : ∀ b o, H b = some o → (∃ ob u, o = .frz ob u) ∨ (∃ xs, o = .tup xs) ∨ (∃ φ, o = .ext φ) → H1 b = some o) : KeepC H H1 :=
  ⟨fun b o u h => e b _ h (.inl ⟨o, u, rfl⟩), fun b xs h => e b _ h (.inr (.inl ⟨xs, rfl⟩)), fun b φ h => e b _ h (.inr (.inr ⟨φ, rfl⟩))⟩
theorem KeepC.refl (H : Hp) : KeepC H H := ⟨fun _ _ _ h => h, fun _ _ h => h, fun _ _ h => h⟩
theorem KeepC.trans {H H1 H2 : Hp} (a : KeepC H H1) (b : KeepC H1 H2) : KeepC H H2 := ⟨fun c o u h => b.1 c o u (a.1 c o u h), fun c xs h => b.2.1 c xs (a.2.1 c xs h), fun c φ h => b.2.2 c φ (a.2.2 c φ h)⟩
abbrev TK := Hp → VK → XK → Prop
/-- the function at f, called without arguments, does T -/
structure Thunk (P : Program) (w : World) (K : PySem.W.Frag) (mg : Str → Option Value) (base : Heap) (k : Nat) (H : Hp) (f : Addr) (T : TK) : Prop where
  fn : ∃ fd : FuncData, H f = some (.frz { cls := .type "function", data := .func fd } (.own f))
  run : ∀ (A : Around) (outer : List Env) (s : Shared) (H1 : Hp) (Q : VK) (E : XK), Room k A → Env0 P w K mg base A outer s H1 → KeepC H H1 → T H1 Q E →
    codeAny (model P w) A (.call (.ref f) ⟨[], []⟩) (CR (CX P w) outer P w H1 s Q E) s
section
variable {P : Program} {w : World} {K : PySem.W.Frag} {mg : Str → Option Value} {base : Heap} {k j : Nat} {H H' : Hp} {f : Addr} {T T' : TK}
theorem Thunk.keep (t : Thunk P w K mg base k H f T) (kc : KeepC H H') : Thunk P w K mg base k H' f T :=
  ⟨t.fn.elim fun fd h => ⟨fd, kc.1 _ _ _ h⟩, fun A outer s H1 Q E hr e0 k1 q => t.run A outer s H1 Q E hr e0 (kc.trans k1) q⟩
theorem Thunk.mono (t : Thunk P w K mg base j H f T) (h : j ≤ k) : Thunk P w K mg base k H f T := ⟨t.fn, fun A outer s H1 Q E hr => t.run A outer s H1 Q E (hr.mono h)⟩
theorem Thunk.imp (t : Thunk P w K mg base k H f T) (h : ∀ H1 Q E, KeepC H H1 → T' H1 Q E → T H1 Q E) : Thunk P w K mg base k H f T' := ⟨t.fn, fun A outer s H1 Q E hr e0 kc q => t.run A outer s H1 Q E hr e0 kc (h H1 Q E kc q)⟩
end
/-- a(), a a name that holds such a function -/
theorem pe_thunk {X : Cx} {W : WX} {i k : Nat} {a : Str} {p1 p2 : Pos} (tk : Takes X W) (hr : Room k X.A) (hN : X.N[i]? = some a) (hv : Vis X.env.scope a) (hd : (a == ("__debug__" : Str)) = false := by decide) (hcd : (a == ("__classdict__" : Str)) = false := by decide) :
    PE X (.Call (.Name a p1) [] [] p2) (fun σ H Q => ∃ f T Eb, σ[i]? = some (some (.ref f)) ∧ Thunk X.prog X.w X.K X.mg X.base k H f T ∧ T H Q Eb ∧ ∀ cls d H', Eb cls d H' → W cls d σ H') := by
  refine ⟨fun pins s σ H Q I h => ?_⟩
  obtain ⟨f, T, Eb, hs, th, q, hE⟩ := h
  refine wpAny_Call_Name_kw (thn ((pe_var (pos := p1) (i := i) hN hv hd hcd).run pins s σ H (fun v H1 => v = .ref f ∧ H1 = H) I ⟨.ref f, hs, rfl, rfl⟩) fun u s1 ⟨v, H1, I1, r1, q1⟩ => ?_)
  obtain ⟨ev, eH⟩ := q1
  subst ev
  rw [eH] at I1
  obtain rfl : u = Value.ref f := r1
  obtain ⟨fd, hf⟩ := th.fn
  have of1 := (I1.hok f _ hf).1
  refine PySem.W.callWith_F0 ⟨_, _, _, _, of1⟩ ?_
  refine wpAny_call (codeAny_mono (th.run X.A X.stack s1 H Q Eb hr I1.env0 (KeepC.refl H) q) fun r s' hq => ?_)
  cases r with
  | error e => exact tk e s' (XE.of_call (pins := pins) (σ := σ) I1 hE hq)
  | ok fl =>
    cases fl with
    | ret u => exact I1.after hq
    | next => exact False.elim hq
    | brk => exact False.elim hq
    | cont => exact False.elim hq
end TH

set_option Elab.async false
set_option maxRecDepth 100000
set_option maxHeartbeats 4000000
namespace TH
open PySem PySem.Spec PyProof.Rows L2 LamX NdefX
/-- a lambda's function, dv: where its defaults stand -/
abbrev lamFd (F : NF) (body : Expr) (dv pm ctv : Value) : FuncData := ⟨F.name, F.qual, F.params, .expr body, F.scope, mainGlobals, F.cl, dv, .none, .none, pm, none, .ref F.c, ctv, builtinsNs⟩
abbrev lamO (F : NF) (body : Expr) (dv pm ctv : Value) : Obj := { cls := .type "function", data := .func (lamFd F body dv pm ctv) }
section
variable {M : Model} {A : Around} {E : Value → Shared → Prop} {s : Shared} {nm ql : Str} {params : Arguments} {body : Expr} {scope : Scope} {env : Env} {c P : Addr} {ps : Array Value} {pos : Pos} {ln : Nat} {mg : Str → Option Value} {clos : List (Str × Addr)} {dv : Value} {Q : Value → Shared → Prop}
theorem tail_new (e1 : closureFor scope env = pure clos) (e2 : env.globals = mainGlobals) (hg : s.heap.Ns mainGlobals mg) (e3 : env.code = .ref c) (C : PySem.W.CodeHd s.heap c P) (hP : s.heap.get? P = some (PySem.W.tabObj ps)) (ht : TriplesOk ps.toList)
    (nf : codeAmong pos ps.toList = none) (gP : mainGlobals ≠ P) (hb : s.heap.BuiltinsAt mg P)
    (h : ∀ c' ctv h' tk, Heap.ExtBut P s.heap h' → s.heap.objs.size ≤ c' → c' < h'.objs.size → h'.CodeRec (.ref c') ql → h'.get? P = some (PySem.W.tabObj (ps ++ #[rawInt pos.line, rawInt pos.col, .ref c'])) →
      Q (.ref h'.objs.size) { s with heap := h'.push (lamO ⟨nm, ql, params, [], scope, clos, c'⟩ body dv ((mg "__name__").getD .none) ctv), toks := tk }) :
    wpAny M A (makeTail nm ql params (.expr body) scope env dv .none none pos ln) Q E s := by
  obtain ⟨bm, ob, b1, b2, _, b4, b5, b6, b7, b8⟩ := hb
  unfold makeTail
  rw [e1, e2]
  refine wpAny_bind (wpAny_pure ?_)
  cases clos with
  | nil =>
    rw [show (([] : List (Str × Addr)).isEmpty) = true from rfl, if_pos rfl]
    refine wpAny_bind (wpAny_pure (wpAny_bind (wpAny_functionCodeX e3 (C.code hP ht) (C.tab hP) nf fun c' h' tk x1 x2 x3 _ x5 x6 _ => ?_)))
    have g1 := hg.extBut x1 gP
    refine wpAny_bind (wpAny_builtinsFor g1 b1 b2 (x1 _ _ b4 b5) b6 b7 b8 (wpAny_bind (wpAny_nsGet g1 ?_)))
    exact wpAny_bind (wpAny_pure (wpAny_newObj_type (h c' .none h' tk x1 x2 x3 x5 x6.2) (by size_fits)))
  | cons q r =>
    rw [show ((q :: r).isEmpty) = false from rfl, if_neg Bool.false_ne_true]
    have kp : ∀ b o, s.heap.get? b = some o → (s.heap.push ({ cls := .type "tuple", data := .seq ((((q :: r).mergeSort fun a b => a.1.cps.toList ≤ b.1.cps.toList).map fun x => Value.ref x.2).toArray) } : Obj)).get? b = some o := fun b o e => Heap.get?_push_of_some _ e
    refine wpAny_bind (wpAny_newTextTuple (wpAny_bind (wpAny_functionCodeX e3 ((C.keeps kp).code (kp _ _ hP) ht) ((C.keeps kp).tab (kp _ _ hP)) nf fun c' h' tk x1 x2 x3 _ x5 x6 _ => ?_)))
    have g1 := (hg.push _).extBut x1 gP
    have y1 : Heap.ExtBut P s.heap h' := fun b o n e => x1 b o n (kp b o e)
    have y2 : s.heap.objs.size ≤ c' := Nat.le_trans (by rw [Heap.size_push]; omega) x2
    refine wpAny_bind (wpAny_builtinsFor g1 b1 b2 (y1 _ _ b4 b5) b6 b7 b8 (wpAny_bind (wpAny_nsGet g1 ?_)))
    exact wpAny_bind (wpAny_pure (wpAny_newObj_type (h c' _ h' tk y1 y2 x3 x5 x6.2) (by size_fits)))
theorem tail_hit {c' : Addr} (e1 : closureFor scope env = pure clos) (e2 : env.globals = mainGlobals) (hg : s.heap.Ns mainGlobals mg) (e3 : env.code = .ref c) (C : PySem.W.CodeHd s.heap c P) (hP : s.heap.get? P = some (PySem.W.tabObj ps)) (ht : TriplesOk ps.toList)
    (hf : codeAmong pos ps.toList = some (.ref c')) (hb : s.heap.BuiltinsAt mg P)
    (h : ∀ (ctv : Value) (h' : Heap) (tk : Tok), (∀ b o, s.heap.get? b = some o → h'.get? b = some o) → s.heap.objs.size ≤ h'.objs.size →
      Q (.ref h'.objs.size) { s with heap := h'.push (lamO ⟨nm, ql, params, [], scope, clos, c'⟩ body dv ((mg "__name__").getD .none) ctv), toks := tk }) :
    wpAny M A (makeTail nm ql params (.expr body) scope env dv .none none pos ln) Q E s := by
  obtain ⟨bm, ob, b1, b2, _, b4, b5, b6, b7, b8⟩ := hb
  unfold makeTail
  rw [e1, e2]
  refine wpAny_bind (wpAny_pure ?_)
  cases clos with
  | nil =>
    rw [show (([] : List (Str × Addr)).isEmpty) = true from rfl, if_pos rfl]
    refine wpAny_bind (wpAny_pure (wpAny_bind (wpAny_functionCode_hit e3 (C.code hP ht) hf ?_)))
    refine wpAny_bind (wpAny_builtinsFor hg b1 b2 b5 b6 b7 b8 (wpAny_bind (wpAny_nsGet hg ?_)))
    exact wpAny_bind (wpAny_pure (wpAny_newObj_type (h .none s.heap s.toks (fun _ _ e => e) (Nat.le_refl _)) (by size_fits)))
  | cons q r =>
    rw [show ((q :: r).isEmpty) = false from rfl, if_neg Bool.false_ne_true]
    have kp : ∀ b o, s.heap.get? b = some o → (s.heap.push ({ cls := .type "tuple", data := .seq ((((q :: r).mergeSort fun a b => a.1.cps.toList ≤ b.1.cps.toList).map fun x => Value.ref x.2).toArray) } : Obj)).get? b = some o := fun b o e => Heap.get?_push_of_some _ e
    refine wpAny_bind (wpAny_newTextTuple (wpAny_bind (wpAny_functionCode_hit e3 ((C.keeps kp).code (kp _ _ hP) ht) hf ?_)))
    refine wpAny_bind (wpAny_builtinsFor (hg.push _) b1 b2 (kp _ _ b5) b6 b7 b8 (wpAny_bind (wpAny_nsGet (hg.push _) ?_)))
    exact wpAny_bind (wpAny_pure (wpAny_newObj_type (h _ _ s.toks kp (by rw [Heap.size_push]; omega)) (by size_fits)))
end
/-- a lambda stands at f, ds its defaults -/
def LamAt (H : Hp) (f : Addr) (mk : Addr → NF) (body : Expr) (ds : List V) : Prop := ∃ (c' : Addr) (dv pm ctv : Value), H f = some (.frz (lamO (mk c') body dv pm ctv) (.own f)) ∧ H c' = some (CodeO c' (mk c').qual) ∧
  ((ds = [] ∧ dv = .none) ∨ ∃ d y, ds = [y] ∧ dv = .ref d ∧ H d = some (.tup [y]))
theorem LamAt.keep {H H' : Hp} {f : Addr} {mk : Addr → NF} {body : Expr} {ds : List V} (l : LamAt H f mk body ds) (kc : KeepC H H') : LamAt H' f mk body ds := by
  obtain ⟨c', dv, pm, ctv, h1, h2, h3⟩ := l
  refine ⟨c', dv, pm, ctv, kc.1 _ _ _ h1, ?_, ?_⟩
  · unfold CodeO at h2 ⊢
    exact kc.2.2 _ _ h2
  · rcases h3 with h3 | ⟨d, y, e1, e2, e3⟩
    · exact .inl h3
    · exact .inr ⟨d, y, e1, e2, kc.2.1 _ _ e3⟩
abbrev mkLam (X : Cx) (params : Arguments) (scope : Scope) : Addr → NF := fun c' => ⟨"<lambda>", X.env.qual ++ "<lambda>", params, [], scope, cloFrom X.env.cells scope.names [], c'⟩
section
variable {X : Cx} {pins : List (Addr × Obj)} {σ : L2.St} {H : Hp} {s : Shared}
/-- the function's object is new, and known from now on -/
theorem inv_lam {F : NF} {body : Expr} {dv pm ctv : Value} {t' : Nat} {o : Obj} (I : Inv X pins σ H s) (e : o = lamO F body dv pm ctv) :
    Inv X pins σ (upd H s.heap.objs.size (.frz (lamO F body dv pm ctv) (.own s.heap.objs.size))) { s with heap := s.heap.push o, toks := t' } := by
  subst e
  refine I.laid (a := s.heap.objs.size) (fun b u z => Heap.get?_push_of_some _ z) (Nat.le_refl _) ?_
  have z : (s.heap.push (lamO F body dv pm ctv)).get? s.heap.objs.size = some (lamO F body dv pm ctv) := Heap.get?_push_size _ rfl
  exact ⟨z, _, z⟩
theorem lam_tail {T : List (Addr × Str)} {c P : Addr} {params : Arguments} {body : Expr} {scope : Scope} {pos : Pos} {dv : Value} {E : Value → Shared → Prop} {Q : Value → Shared → Prop} (I : Inv X pins σ H s) (TB : TabB X.base X.mg c P) (hcode : X.env.code = .ref c)
    (hm : (P, X.env.qual ++ "<lambda>") ∈ T) (hu : ∀ p ∈ T, p.1 = P → p.2 = X.env.qual ++ "<lambda>") (hT : Tabs T H) (hfree : ∀ y ∈ scope.names, y.2 = .free → ∃ c, X.env.cells.lookup y.1 = some c)
    (h : ∀ (f c' : Addr) (pm ctv : Value) (H1 : Hp) (s' : Shared), Inv X pins σ H1 s' → ExtN H H1 → (∀ b, H1 b = Option.none → H b = Option.none) → Tabs T H1 → H f = none →
      H1 f = some (.frz (lamO (mkLam X params scope c') body dv pm ctv) (.own f)) → H1 c' = some (CodeO c' (X.env.qual ++ "<lambda>")) → Q (.ref f) s') :
    wpAny (model X.prog X.w) X.A (makeTail "<lambda>" (X.env.qual ++ "<lambda>") params (.expr body) scope X.env dv .none none pos pos.line) Q E s := by
  obtain ⟨ps, hP, ht, ha⟩ := hT _ hm
  have bP : s.heap.BuiltinsAt X.mg P := TB.bm.keeps I.bk
  have gtP : s.heap.get? P = some { cls := .none, data := .fields ps } := I.hok P _ hP
  cases hc : codeAmong pos ps.toList with
  | none =>
    refine tail_new (mg := X.mg) (c := c) (P := P) (ps := ps) (closure_ok hfree) I.ok.glob (I.mod.glob.keeps I.bk) hcode (TB.code.keeps I.bk) gtP ht hc TB.gP bP fun c' ctv h' tk hx hge hlt hrec htb => ?_
    obtain ⟨c2, oc, vs, t, z0, hoc, hd, hv⟩ := hrec
    cases z0
    have nC : H c' = none := I.hok.fresh hge
    have I1 := inv_table (t' := tk) (more := #[rawInt pos.line, rawInt pos.col, .ref c']) (h' := h') I hP (fun b o hb e => hx b o hb e) htb hge ⟨oc, vs, t, hoc, hd, hv⟩
    have eE : ExtN H (upd (upd H P (.tbl (ps ++ #[rawInt pos.line, rawInt pos.col, .ref c']))) c' (CodeO c' (X.env.qual ++ "<lambda>"))) := fun b o z n => by
      rw [upd_ne (ne_of_none z nC), upd_ne (fun y => n ps (Option.some.inj (z.symm.trans (by rw [y]; exact hP))))]
      exact z
    have eT : Tabs T (upd (upd H P (.tbl (ps ++ #[rawInt pos.line, rawInt pos.col, .ref c']))) c' (CodeO c' (X.env.qual ++ "<lambda>"))) := fun p hp => by
      by_cases hb : p.1 = P
      · rw [hu p hp hb, hb]
        have eL : (ps ++ #[rawInt pos.line, rawInt pos.col, .ref c']).toList = ps.toList ++ [rawInt pos.line, rawInt pos.col, .ref c'] := by simp
        refine ⟨_, by rw [upd_ne (ne_of_none hP nC), upd_same], by rw [eL]; exact PySem.TriplesOk_snoc _ _ _ _ ht, fun p' cv hcv => ?_⟩
        rw [eL] at hcv
        rcases among_app _ ht hcv with z | z
        · obtain ⟨c0, z1, z2⟩ := ha p' cv z
          exact ⟨c0, z1, eE _ _ z2 codeO_ne⟩
        · exact ⟨c', z, upd_same⟩
      · obtain ⟨ps', a1, a2, a3⟩ := hT p hp
        refine ⟨ps', by rw [upd_ne (ne_of_none a1 nC), upd_ne hb]; exact a1, a2, fun p' cv hcv => ?_⟩
        obtain ⟨c0, z1, z2⟩ := a3 p' cv hcv
        exact ⟨c0, z1, eE _ _ z2 codeO_ne⟩
    have nF := I1.hok.fresh (Nat.le_refl _)
    have I2 := inv_lam (F := mkLam X params scope c') (body := body) (dv := dv) (pm := (X.mg "__name__").getD .none) (ctv := ctv) (t' := tk) I1 rfl
    refine h h'.objs.size c' _ _ _ _ I2 (fun b o z n => ?_) (fun b z => upd_none (upd_none (upd_none z))) (eT.ext fun b o z => ?_) (I.hok.fresh (Nat.le_trans hge (Nat.le_of_lt hlt))) upd_same ?_
    · have z1 := eE b o z n
      exact (upd_ne (ne_of_none z1 nF)).trans z1
    · exact (upd_ne (ne_of_none z nF)).trans z
    · exact (upd_ne (Nat.ne_of_lt hlt)).trans upd_same
  | some cv =>
    obtain ⟨c', z0, hco⟩ := ha pos cv hc
    subst z0
    refine tail_hit (mg := X.mg) (c := c) (P := P) (ps := ps) (closure_ok hfree) I.ok.glob (I.mod.glob.keeps I.bk) hcode (TB.code.keeps I.bk) gtP ht hc bP fun ctv h' tk hx hsz => ?_
    have I1 : Inv X pins σ H { s with heap := h', toks := tk } := I.kept hx
    have nF : H h'.objs.size = none := I1.hok.fresh (Nat.le_refl _)
    have I2 := inv_lam (F := mkLam X params scope c') (body := body) (dv := dv) (pm := (X.mg "__name__").getD .none) (ctv := ctv) (t' := tk) I1 rfl
    refine h h'.objs.size c' _ _ _ _ I2 (fun b o z n => ?_) (fun b z => upd_none z) (hT.ext fun b o z => ?_) nF upd_same ?_
    · exact (upd_ne (ne_of_none z nF)).trans z
    · exact (upd_ne (ne_of_none z nF)).trans z
    · exact (upd_ne (ne_of_none hco nF)).trans hco
/-- a lambda, as a value -/
def tLamV (X : Cx) (T : List (Addr × Str)) (params : Arguments) (body : Expr) (scope : Scope) : TE := fun _ H Q => Tabs T H ∧
  ∀ f H1, ExtN H H1 → (∀ b, H1 b = Option.none → H b = Option.none) → Tabs T H1 → H f = none → LamAt H1 f (mkLam X params scope) body [] → Q (.ref f) H1
/-- .. with a default -/
def tLamD (T : List (Addr × Str)) (R : Hp → Addr → V → Prop) (te : TE) : TE := fun σ H Q => te σ H fun v H0 => Tabs T H0 ∧
  ∀ f H1, ExtN H0 H1 → (∀ b, H1 b = Option.none → H0 b = Option.none) → Tabs T H1 → H0 f = none → R H1 f v → Q (.ref f) H1
theorem pe_lamV {T : List (Addr × Str)} {c P : Addr} {params : Arguments} {body : Expr} {scope : Scope} {pos : Pos} (TB : TabB X.base X.mg c P) (hcode : X.env.code = .ref c) (hm : (P, X.env.qual ++ "<lambda>") ∈ T) (hu : ∀ p ∈ T, p.1 = P → p.2 = X.env.qual ++ "<lambda>")
    (hfree : ∀ y ∈ scope.names, y.2 = .free → X.env.scope.names.lookup y.1 = some .cell ∨ X.env.scope.names.lookup y.1 = some .free) (hdef : defaultsOf params X.env = ([], [])) :
    PE X (.Lambda params body scope pos) (tLamV X T params body scope) := by
  refine ⟨fun pins s σ H Q I h => ?_⟩
  obtain ⟨hT, h⟩ := h
  refine PySem.W.kla_eval hdef ?_
  rw [makeFunction_eq]
  simp only [List.zip_nil_right, List.filterMap_nil, List.isEmpty_nil, if_true, pure_bind]
  refine lam_tail I TB hcode hm hu hT (fun y hy e => (hfree y hy e).elim (fun z => I.ok.has _ (.inl z)) fun z => I.ok.has _ (.inr z)) fun f c' pm ctv H1 s' I1 eN nn T1 f0 f1 c1 => ?_
  exact ⟨.ref f, H1, I1, rfl, h f H1 eN nn T1 f0 ⟨c', .none, pm, ctv, f1, c1, .inl ⟨rfl, rfl⟩⟩⟩
theorem pe_lamD {T : List (Addr × Str)} {c P : Addr} {params : Arguments} {body e : Expr} {scope : Scope} {pos : Pos} {te : TE} (TB : TabB X.base X.mg c P) (hcode : X.env.code = .ref c) (hm : (P, X.env.qual ++ "<lambda>") ∈ T) (hu : ∀ p ∈ T, p.1 = P → p.2 = X.env.qual ++ "<lambda>")
    (hfree : ∀ y ∈ scope.names, y.2 = .free → X.env.scope.names.lookup y.1 = some .cell ∨ X.env.scope.names.lookup y.1 = some .free) (hdef : defaultsOf params X.env = ([eval e X.env], [])) (he : PE X e te)
    {R : Hp → Addr → V → Prop} (hR : ∀ (v : V) (f : Addr) (H1 : Hp), LamAt H1 f (mkLam X params scope) body [v] → R H1 f v) :
    PE X (.Lambda params body scope pos) (tLamD T R te) := by
  refine ⟨fun pins s σ H Q I h => ?_⟩
  rw [arm_eval_Lambda, hdef]
  show wpAny _ _ (do let dv ← evalAll [eval e X.env]; let kdv ← holding dv (evalAllOpt []); makeFunction "<lambda>" (X.env.qual ++ "<lambda>") params (.expr body) scope X.env dv kdv [] pos pos.line) _ _ _
  unfold evalAll
  refine wpAny_bind (wpAny_bind (thn (he.run pins s σ H _ I h) fun u s1 ⟨v, H0, I0, r, hT, h⟩ => wpAny_bind (wpAny_holding ?_)))
  unfold evalAll
  refine wpAny_pure (wpAny_pure (wpAny_bind (wpAny_holding ?_)))
  unfold evalAllOpt
  refine wpAny_pure ?_
  rw [makeFunction_eq]
  simp only [List.zip_nil_right, List.filterMap_nil, List.isEmpty_nil, List.isEmpty_cons, if_true, Bool.false_eq_true, if_false, pure_bind]
  refine wpAny_bind (wpAny_newTextTuple ?_)
  have nD : H0 s1.heap.objs.size = none := I0.hok.fresh (Nat.le_refl _)
  have I1 : Inv X pins σ (upd H0 s1.heap.objs.size (.tup [v])) { s1 with heap := s1.heap.push { cls := .type "tuple", data := .seq [u].toArray } } := I0.laid (t' := s1.toks) (fun b o z => Heap.get?_push_of_some _ z) (Nat.le_refl _)
    ⟨by show 1 ≤ sizeLine; rw [sizeLine_eq]; decide, [u], .cons r .nil, ⟨_, Heap.get?_push_size _ rfl, rfl, _, rfl⟩⟩
  have T1 : Tabs T (upd H0 s1.heap.objs.size (.tup [v])) := hT.ext fun b o z => (upd_ne (ne_of_none z nD)).trans z
  refine lam_tail I1 TB hcode hm hu T1 (fun y hy e => (hfree y hy e).elim (fun z => I.ok.has _ (.inl z)) fun z => I.ok.has _ (.inr z)) fun f c' pm ctv H1 s' I2 eN nn T2 f0 f1 c1 => ?_
  refine ⟨.ref f, H1, I2, rfl, h f H1 (fun b o z n => eN b o ((upd_ne (ne_of_none z nD)).trans z) n) (fun b z => upd_none (nn b z)) T2 (upd_none f0) (hR _ _ _ ⟨c', _, pm, ctv, f1, c1, .inr ⟨s1.heap.objs.size, v, rfl, rfl, eN _ _ upd_same fun q z => by cases z⟩⟩)⟩
end
end TH

set_option Elab.async false
set_option maxRecDepth 100000
set_option maxHeartbeats 4000000
namespace TH
open PySem PySem.Spec PyProof.Rows L2 LamX NdefX
/-! ### the running frame's cells -/
/-- cs: the cells of X's frame, as they stand -/
def Opened (X : Cx) (σ : L2.St) (H : Hp) (cs : List (Addr × Obj)) : Prop := ∃ (pins : List (Addr × Obj)) (s : Shared), Inv X pins σ H s ∧ ∀ b o, cs.lookup b = some o ↔ ((∃ x, X.env.cells.lookup x = some b) ∧ s.heap.get? b = some o)
theorem lookup_mem {l : List (Addr × Obj)} {b : Addr} {o : Obj} (h : l.lookup b = some o) : (b, o) ∈ l := by
  induction l with
  | nil => cases h
  | cons p r ih =>
    obtain ⟨k, v⟩ := p
    rw [List.lookup_cons] at h
    cases e : b == k with
    | true =>
      rw [e] at h
      have e2 : b = k := by simpa using e
      rw [e2, ← Option.some.inj h]
      exact List.mem_cons_self
    | false =>
      rw [e] at h
      exact List.mem_cons_of_mem _ (ih h)
theorem lookup_has {l : List (Addr × Obj)} {b : Addr} {o : Obj} (h : (b, o) ∈ l) : ∃ o', l.lookup b = some o' := by
  induction l with
  | nil => cases h
  | cons p r ih =>
    obtain ⟨k, v⟩ := p
    rw [List.lookup_cons]
    cases e : b == k with
    | true => exact ⟨v, rfl⟩
    | false =>
      rcases List.mem_cons.mp h with z | z
      · injection z with z1 z2
        rw [z1, beq_self_eq_true] at e
        cases e
      · exact ih z
def cellsOf (cells : List (Str × Addr)) (h : Heap) : List (Addr × Obj) := cells.filterMap fun p => if cells.lookup p.1 = some p.2 then (h.get? p.2).map fun o => (p.2, o) else none
theorem cellsOf_iff {cells : List (Str × Addr)} {h : Heap} (b : Addr) (o : Obj) : (cellsOf cells h).lookup b = some o ↔ ((∃ x, cells.lookup x = some b) ∧ h.get? b = some o) := by
  have m1 : ∀ {b o}, (b, o) ∈ cellsOf cells h → (∃ x, cells.lookup x = some b) ∧ h.get? b = some o := fun {b o} hm => by
    obtain ⟨p, hp, hq⟩ := List.mem_filterMap.mp hm
    by_cases e : cells.lookup p.1 = some p.2
    · rw [if_pos e] at hq
      cases e2 : h.get? p.2 with
      | none => rw [e2] at hq; cases hq
      | some o' =>
        rw [e2] at hq
        injection (Option.some.inj hq) with z1 z2
        subst z1 z2
        exact ⟨⟨p.1, e⟩, e2⟩
    · rw [if_neg e] at hq
      cases hq
  refine ⟨fun e => m1 (lookup_mem e), fun ⟨⟨x, e⟩, g⟩ => ?_⟩
  have hm : (b, o) ∈ cellsOf cells h := List.mem_filterMap.mpr ⟨(x, b), PySem.mem_of_lookup e, by rw [if_pos e, g]; rfl⟩
  obtain ⟨o', e'⟩ := lookup_has hm
  have g' := (m1 (lookup_mem e')).2
  rw [g] at g'
  cases g'
  exact e'
section
variable {X : Cx} {pins : List (Addr × Obj)} {σ : L2.St} {H : Hp} {s : Shared} {cs : List (Addr × Obj)}
theorem csAt_cells (I : Inv X pins σ H s) (e : ∀ b o, cs.lookup b = some o ↔ ((∃ x, X.env.cells.lookup x = some b) ∧ s.heap.get? b = some o)) : CsAt cs H s.heap := fun b o q => by
  obtain ⟨⟨x, hx⟩, g⟩ := (e b o).mp q
  exact ⟨g, I.freeC x b hx⟩
theorem Opened.at (O : Opened X σ H cs) {b : Addr} {u : HO} (e : H b = some u) : addC cs H b = some u := by
  obtain ⟨pins, s, I, h⟩ := O
  rw [addC_out (out_some (csAt_cells I h) e)]
  exact e
theorem Opened.keepC (O : Opened X σ H cs) : KeepC H (addC cs H) := .of fun _ _ e _ => O.at e
/-- the cells are above all that stood at the frame's entry -/
theorem cells_above (I : Inv X pins σ H s) (hfn : ∀ x, X.fn x = true) {x : Str} {c : Addr} (e : X.env.cells.lookup x = some c) : X.s_0.heap.objs.size ≤ c := I.ok.cab x c (hfn x) e
theorem cells_nostk (I : Inv X pins σ H s) (hfn : ∀ x, X.fn x = true) {x : Str} {c : Addr} (e : X.env.cells.lookup x = some c) : c ∉ frs X.stack := fun hm => by
  rcases List.mem_cons.mp (I.stkSub c hm) with z | z
  · exact I.cne x c e z
  · obtain ⟨_, o, ho, _⟩ := I.ok.funs.mem z
    exact absurd (Nat.lt_of_lt_of_le (Heap.lt_size ho) (cells_above I hfn e)) (Nat.lt_irrefl _)
theorem env0_add (I : Inv X pins σ H s) (hfn : ∀ x, X.fn x = true) (e : ∀ b o, cs.lookup b = some o ↔ ((∃ x, X.env.cells.lookup x = some b) ∧ s.heap.get? b = some o)) : Env0 X.prog X.w X.K X.mg X.base X.A X.stack s (addC cs H) := by
  have E := I.env0
  have ca := csAt_cells I e
  refine ⟨E.frames, E.mod, fun b o hb => ⟨(E.bs b o hb).1, ?_⟩, E.bsz, E.funs, fun b hb => ?_, hok_add E.hok ca, E.bare⟩
  · cases q : cs.lookup b with
    | none => rw [addC_out q]; exact (E.bs b o hb).2
    | some o' =>
      obtain ⟨⟨x, hx⟩, _⟩ := (e b o').mp q
      have h1 := cells_above I hfn hx
      have h2 := Heap.lt_size hb
      have h3 := I.ok.bsz
      exact absurd (Nat.lt_of_lt_of_le h2 (Nat.le_trans h3 h1)) (Nat.lt_irrefl _)
  · cases q : cs.lookup b with
    | none => rw [addC_out q]; exact E.frf b hb
    | some o' =>
      obtain ⟨⟨x, hx⟩, _⟩ := (e b o').mp q
      exact absurd hb (cells_nostk I hfn hx)
theorem opened_of (I : Inv X pins σ H s) : Opened X σ H (cellsOf X.env.cells s.heap) := ⟨pins, s, I, cellsOf_iff⟩
/-- g(..), g told of the frame's cells -/
def tCallC (X : Cx) (sp : Sp) (dvs : List V) (E : XK) (t : TA) : TE := fun σ H Q => t σ H fun vs H1 => ∀ cs, Opened X σ H1 cs → sp (vs ++ dvs) (addC cs H1) (fun v H2 => CsIn cs H2 → Q v (subC cs H2)) E
theorem pe_callC {k : Nat} {f : Addr} {fd : FuncData} {ps : List Str} {sp : Sp} {dvs : List V} {ds : List Value} {E : XK} {x : Str} {p pos : Pos} {e : Expr} {es : List Expr} {t : TA} (F : FnOk X.prog X.w X.K X.mg X.base C8.CX0 k f fd ps sp) (hr : Room k X.A) (hg : Gl X x) (hm : X.mg x = some (.ref f)) (hk : PySem.W.keepIn X.K (.ref f) = true)
    (hb : Binds X.K fd ps ds) (hd : Vals dvs ds) (hfn : ∀ x, X.fn x = true) (ha : PA X (e :: es) t) (hdb : (x == ("__debug__" : Str)) = false := by decide)
    (he : starEach (e :: es) X.env = (false, eval e X.env) :: starEach es X.env := by rfl) (hpl : (backTo pos (starEach es X.env)).any (·.1) = false := by rfl) :
    PE X (.Call (.Name x p) (e :: es) [] pos) (tCallC X sp dvs E t) := by
  refine ⟨fun pins s σ H Q I h => ?_⟩
  refine wpAny_Call_Name_kw (ld_glob I hg hm ?_ hdb)
  refine PySem.W.callWith_K (h₀ := X.base) I.ok.mod.kin hk (thn (ha.run pos pins s σ H _ I h) fun us s1 ⟨vs, H1, I1, r, q⟩ => ⟨I1.kIn, ?_⟩) he hpl
  have r2 : Vals (vs ++ dvs) (us ++ ds) := r.append hd
  have q := q _ (opened_of I1)
  have hl : (us ++ ds).length = ps.length := by rw [← r2.length]; exact F.len _ _ _ _ q
  show wpAny _ _ (call (.ref f) us) _ _ _
  refine wpAny_call (codeAny_mono (F.run X.A X.stack s1 _ ⟨us, []⟩ (us ++ ds) (vs ++ dvs) _ E hr (env0_add I1 hfn cellsOf_iff) (hb s1 us I1.kIn hl) r2 q) fun r s' hq => ?_)
  cases r with
  | error e => exact False.elim hq
  | ok fl =>
    cases fl with
    | ret u =>
      obtain ⟨v, H', os, bare, un, hok, rv, q⟩ := hq
      have ci := csIn_of un
      exact I1.after ⟨v, _, os, bare, un_add un (csAt_cells I1 cellsOf_iff) hok, hok_sub hok ci, rv, q ci⟩
    | next => exact False.elim hq
    | brk => exact False.elim hq
    | cont => exact False.elim hq
end
/-! ### a lambda of the frame X, its body read -/
structure Lamb (X : Cx) (k : Nat) (H : Hp) (f : Addr) (N : List Str) (js : List Nat) (ds : List V) (tb : XK → TE) : Prop where
  ex : ∃ (params : Arguments) (scope : Scope) (body : Expr) (ps fr : List Str), LamAt H f (mkLam X params scope) body ds ∧ NScope N ps fr scope ∧ ds.length = ps.length ∧
    (X.Ok → Caps X (cloFrom X.env.cells scope.names []) fr js) ∧
    (∀ (c' : Addr) (dv pm ctv : Value) (s : Shared) (us : List Value), us.length = ps.length → ((ps = [] ∧ dv = .none) ∨ (ps ≠ [] ∧ ∃ d o n, dv = .ref d ∧ s.heap.get? d = some o ∧ o.data = .seq us.toArray n)) →
      BindsTo s (lamFd (mkLam X params scope c') body dv pm ctv) ⟨[], []⟩ (ps.zip us)) ∧
    ∀ (c' : Addr) (A : Around) (outer : List Env) (s : Shared) (H : Hp) (E : XK), Room k (A.deeper (envF (mkLam X params scope c') f s.heap.objs.size)) → PE (ncx (L2.CX X.prog X.w) X.prog X.w X.K X.mg X.base N (mkLam X params scope c') f A outer s H E) body (tb E)
theorem Lamb.keep {X : Cx} {k : Nat} {H H' : Hp} {f : Addr} {N : List Str} {js : List Nat} {ds : List V} {tb : XK → TE} (l : Lamb X k H f N js ds tb) (kc : KeepC H H') : Lamb X k H' f N js ds tb := by
  obtain ⟨params, scope, body, ps, fr, h1, h2⟩ := l.ex
  exact ⟨params, scope, body, ps, fr, h1.keep kc, h2⟩
def CsNone (cs : List (Addr × Obj)) (H : Hp) : Prop := ∀ b o, cs.lookup b = some o → H b = none
/-- what it does, called from wherever -/
theorem Lamb.thunk {X : Cx} {k : Nat} {H : Hp} {f : Addr} {N : List Str} {js : List Nat} {ds : List V} {tb : XK → TE} {σ : L2.St} {cs : List (Addr × Obj)} (l : Lamb X k H f N js ds tb) (O : Opened X σ H cs) :
    Thunk X.prog X.w X.K X.mg X.base (k + 1) (addC cs H) f (fun H1 Q E => CsIn cs H1 → tb (fun cls d H2 => CsNone cs H2 → E cls d (addC cs H2)) (startF N ds (js.map (slotAt σ))) (subC cs H1) (fun v H2 => CsNone cs H2 → Q v (addC cs H2))) := by
  obtain ⟨params, scope, body, ps, fr, L, S, hds, cp, hb, hbody⟩ := l.ex
  have OK := O.keepC
  obtain ⟨pins, s0, I, hcs⟩ := id O
  have C := cells_of I (cp I.ok)
  have L2 := L.keep OK
  obtain ⟨c', dv, pm, ctv, h1, h2, h3⟩ := L2
  have hc0 : CsIn cs (addC cs H) := csIn_add cs H
  refine ⟨⟨_, h1⟩, fun A outer s H1 Q E hr e0 kc q => ?_⟩
  have ci : CsIn cs H1 := fun b o e => kc.1 _ _ _ (hc0 b o e)
  have q := q ci
  have fo := (e0.hok f _ (kc.1 _ _ _ h1)).1
  have hcode : s.heap.CodeRec (.ref c') (mkLam X params scope c').qual := codeO_at e0.hok (by unfold CodeO at h2 ⊢; exact kc.2.2 _ _ h2)
  have lim : s.heap.NoLimit := e0.mod.nolimit.keeps fun b o e => (e0.bs b o e).1
  have ca : CsAt cs (subC cs H1) s.heap := csAt_sub e0.hok ci
  have nf : ∀ b o, cs.lookup b = some o → b ∉ frs outer := fun b o e hm => by
    have z := e0.frf b hm
    rw [ci b o e] at z
    cases z
  have e1 : Env0 X.prog X.w X.K X.mg X.base A outer s (subC cs H1) := by
    refine ⟨e0.frames, e0.mod, fun b o hb => ⟨(e0.bs b o hb).1, ?_⟩, e0.bsz, e0.funs, fun b hm => ?_, hok_sub e0.hok ci, e0.bare⟩
    · have z := (e0.bs b o hb).2
      rw [subC_out (out_none ci z)]
      exact z
    · have z := e0.frf b hm
      rw [subC_out (out_none ci z)]
      exact z
  have atc : ∀ y c, (cloFrom X.env.cells scope.names []).lookup y = some c → ∀ o, s0.heap.get? c = some o → cs.lookup c = some o := fun y c e o g => (hcs c o).mpr ⟨⟨y, (cp I.ok).sub y c e⟩, g⟩
  have C1 : CellsAt (cloFrom X.env.cells scope.names []) fr (js.map (slotAt σ)) s.heap (subC cs H1) := by
    refine ⟨C.len, fun y c e => ?_, C.inj, fun i y e => ?_⟩
    · obtain ⟨_, v, o, g, d⟩ := C.all y c e
      have z := atc y c e o g
      exact ⟨subC_in z, v, o, (ca c o z).1, d⟩
    · obtain ⟨c, hc, hv⟩ := C.has i y e
      refine ⟨c, hc, fun v ev => ?_⟩
      obtain ⟨u, r, o, g, d⟩ := hv v ev
      exact ⟨u, r, o, (ca c o (atc y c hc o g)).1, d⟩
  obtain ⟨us, ru, hbi⟩ : ∃ us : List Value, Vals ds us ∧ BindsTo s (lamFd (mkLam X params scope c') body dv pm ctv) ⟨[], []⟩ (ps.zip us) := by
    rcases h3 with ⟨z1, z2⟩ | ⟨d, y, z1, z2, z3⟩
    · subst z1
      refine ⟨[], .nil, hb c' dv pm ctv s [] ?_ (.inl ⟨?_, z2⟩)⟩
      · exact hds
      · exact List.length_eq_zero_iff.mp hds.symm
    · subst z1
      obtain ⟨_, its, rv, ob, g, _, n, hd⟩ := e0.hok d _ (kc.2.1 _ _ z3)
      refine ⟨its, rv, hb c' dv pm ctv s its (by rw [← rv.length]; exact hds) (.inr ⟨fun z => ?_, d, ob, n, z2, g, hd⟩)⟩
      rw [z] at hds
      have hds : (1 : Nat) = 0 := hds
      exact absurd hds (by decide)
  refine PySem.W.kla_callFunE hr.depth fo rfl S.co S.gen rfl hcode ?_
  refine hbi _ _ _ _ ?_
  refine wpAny_newFunctionEnv S.nocell (fun ⟨n, _⟩ hy => S.par n (List.of_mem_zip hy).1) (fun h₁ hns hsb => ⟨lim.fresh _ hsb, ?_⟩) S.kind
  show codeAny _ _ (.expr body (envF (mkLam X params scope c') f s.heap.objs.size)) _ _
  have kp : ∀ b o, s.heap.get? b = some o → h₁.get? b = some o := fun b o e => hsb.extBut b o (Nat.ne_of_lt (Heap.lt_size e)) (Heap.get?_push_of_some _ e)
  have J : Inv (ncx (L2.CX X.prog X.w) X.prog X.w X.K X.mg X.base N (mkLam X params scope c') f A outer s (subC cs H1) (fun cls d H2 => CsNone cs H2 → E cls d (addC cs H2))) [] (startF N ds (js.map (slotAt σ))) (subC cs H1) { s with heap := h₁, toks := s.toks + (ps.zip us).length } :=
    inv_startN S hr.hd e1 hds ru C1 hns kp
  have fin : ∀ e s', L2.CX X.prog X.w outer (subC cs H1) s (fun cls d H2 => CsNone cs H2 → E cls d (addC cs H2)) e s' → L2.CX X.prog X.w outer H1 s E e s' := fun e s' ⟨a, B, H', cls, d, z, fl, hok, ub, na, os, ag, hE⟩ => by
    have cb := csAt_ub ub ca nf
    refine ⟨a, B, addC cs H', cls, d, z, fl, hok_add hok cb, ub_sub ub ci, ?_, os, ag, hE fun b o e => (cb b o e).2⟩
    cases y : cs.lookup a with
    | none => rw [addC_out y]; exact na
    | some o =>
      have z1 := (cb a o y).1
      rw [fl.2.1] at z1
      cases z1
  refine PySem.W.kla_codeExpr (wpAny_mono ((hbody c' A outer s (subC cs H1) _ (hr.deeper _)).run [] _ _ (subC cs H1) _ J q) (fun v s' hq => ?_) fun e s' hq => ?_)
  · obtain ⟨w', H', J', rv, q⟩ := hq
    exact ⟨w', _, J'.os, J'.bare, un_sub J'.base ci, hok_add J'.hok (csAt_of J'.base ca nf), rv, q fun b o e => (csAt_of J'.base ca nf b o e).2⟩
  · exact wpAny_mono hq (fun _ s'' z => fin _ _ z) fun e' s'' z => fin _ _ z
end TH

set_option Elab.async false
set_option maxRecDepth 100000
set_option maxHeartbeats 4000000
namespace TH
open PySem PySem.Spec PyProof.Rows L2 LamX NdefX
section
variable {X : Cx}
/-- lambda: body, no parameters -/
def tLam0 (X : Cx) (k : Nat) (T : List (Addr × Str)) (N : List Str) (js : List Nat) (tb : XK → TE) : TE := fun _ H Q => Tabs T H ∧
  ∀ f H1, ExtN H H1 → (∀ b, H1 b = Option.none → H b = Option.none) → Tabs T H1 → H f = none → Lamb X k H1 f N js [] tb → Q (.ref f) H1
/-- lambda a=e: body -/
def tLam1 (X : Cx) (k : Nat) (T : List (Addr × Str)) (N : List Str) (js : List Nat) (te : TE) (tb : XK → TE) : TE := fun σ H Q => te σ H fun v H0 => Tabs T H0 ∧
  ∀ f H1, ExtN H0 H1 → (∀ b, H1 b = Option.none → H0 b = Option.none) → Tabs T H1 → H0 f = none → Lamb X k H1 f N js [v] tb → Q (.ref f) H1
theorem pe_lam0 {T : List (Addr × Str)} {c P : Addr} {k : Nat} {N : List Str} {js : List Nat} {tb : XK → TE} {params : Arguments} {body : Expr} {scope : Scope} {pos : Pos} (TB : TabB X.base X.mg c P) (hcode : X.env.code = .ref c) (hm : (P, X.env.qual ++ "<lambda>") ∈ T)
    (hu : ∀ p ∈ T, p.1 = P → p.2 = X.env.qual ++ "<lambda>") (S : NScope N [] N scope) (hfree : ndefB X.env.scope scope N = true) (hjs : js.map (fun j => X.N[j]?) = N.map some) (hdef : defaultsOf params X.env = ([], []))
    (hbind : ∀ (c' : Addr) (pm ctv : Value), bindArgs (lamFd (mkLam X params scope c') body .none pm ctv) ⟨[], []⟩ = pure [])
    (hbody : ∀ (f c' : Addr) (A : Around) (outer : List Env) (s : Shared) (H : Hp) (E : XK), Room k (A.deeper (envF (mkLam X params scope c') f s.heap.objs.size)) → PE (ncx (L2.CX X.prog X.w) X.prog X.w X.K X.mg X.base N (mkLam X params scope c') f A outer s H E) body (tb E)) :
    PE X (.Lambda params body scope pos) (tLam0 X k T N js tb) := by
  refine ⟨fun pins s σ H Q I h => (pe_lamV TB hcode hm hu (ndef_free hfree) hdef).run pins s σ H Q I ⟨h.1, fun f H1 eN nn T1 f0 L => h.2 f H1 eN nn T1 f0 ⟨params, scope, body, [], N, L, S, rfl, fun ok => Caps.made ok (ndef_free hfree) (ndef_fr hfree) hjs, ?_, hbody f⟩⟩⟩
  intro c' dv pm ctv s us hl z
  obtain rfl : us = [] := List.length_eq_zero_iff.mp hl
  rcases z with ⟨_, rfl⟩ | ⟨z, _⟩
  · exact .of_eq (hbind c' pm ctv)
  · exact absurd rfl z
theorem pe_lam1 {T : List (Addr × Str)} {c P : Addr} {k : Nat} {p : Str} {N fr : List Str} {js : List Nat} {te : TE} {tb : XK → TE} {params : Arguments} {body e : Expr} {scope : Scope} {pos : Pos} (TB : TabB X.base X.mg c P) (hcode : X.env.code = .ref c) (hm : (P, X.env.qual ++ "<lambda>") ∈ T)
    (hu : ∀ p ∈ T, p.1 = P → p.2 = X.env.qual ++ "<lambda>") (S : NScope N [p] fr scope) (hfree : ndefB X.env.scope scope fr = true) (hjs : js.map (fun j => X.N[j]?) = fr.map some) (hdef : defaultsOf params X.env = ([eval e X.env], []))
    (hbind : ∀ (c' d : Addr) (pm ctv : Value), ∃ k, bindArgs (lamFd (mkLam X params scope c') body (.ref d) pm ctv) ⟨[], []⟩ = seqItems? (.ref d) >>= k ∧ ∀ u, k (some #[u]) = pure [(p, u)]) (he : PE X e te)
    (hbody : ∀ (f c' : Addr) (A : Around) (outer : List Env) (s : Shared) (H : Hp) (E : XK), Room k (A.deeper (envF (mkLam X params scope c') f s.heap.objs.size)) → PE (ncx (L2.CX X.prog X.w) X.prog X.w X.K X.mg X.base N (mkLam X params scope c') f A outer s H E) body (tb E)) :
    PE X (.Lambda params body scope pos) (tLam1 X k T N js te tb) := by
  refine ⟨fun pins s σ H Q I h => (pe_lamD TB hcode hm hu (ndef_free hfree) hdef he (R := fun H1 f v => Lamb X k H1 f N js [v] tb) fun v f H1 L => ⟨params, scope, body, [p], fr, L, S, rfl, fun ok => Caps.made ok (ndef_free hfree) (ndef_fr hfree) hjs, ?_, hbody f⟩).run pins s σ H Q I h⟩
  intro c' dv pm ctv s us hl z
  rcases z with ⟨z, _⟩ | ⟨_, d, o, n, rfl, g, hd⟩
  · cases z
  · obtain ⟨k, e1, e2⟩ := hbind c' d pm ctv
    match us, hl with
    | [u], _ => exact BindsTo.of_defaults rfl g hd e1 (e2 u)
end
/-- a(), its reading in plain letters -/
def tThunk (P : Program) (w : World) (K : PySem.W.Frag) (mg : Str → Option Value) (base : Heap) (k i : Nat) (W : WX) : TE := fun σ H Q => ∃ f T Eb, σ[i]? = some (some (.ref f)) ∧ Thunk P w K mg base k H f T ∧ T H Q Eb ∧ ∀ cls d H', Eb cls d H' → W cls d σ H'
theorem pe_thunkE {X : Cx} {W : WX} {P : Program} {w : World} {K : PySem.W.Frag} {mg : Str → Option Value} {base : Heap} {i k : Nat} {a : Str} {p1 p2 : Pos} (tk : Takes X W) (hr : Room k X.A) (hN : X.N[i]? = some a) (hv : Vis X.env.scope a) (hd : (a == ("__debug__" : Str)) = false := by decide) (hcd : (a == ("__classdict__" : Str)) = false := by decide)
    (h1 : X.prog = P := by rfl) (h2 : X.w = w := by rfl) (h3 : X.K = K := by rfl) (h4 : X.mg = mg := by rfl) (h5 : X.base = base := by rfl) : PE X (.Call (.Name a p1) [] [] p2) (tThunk P w K mg base k i W) := by
  subst h1 h2 h3 h4 h5
  exact pe_thunk tk hr hN hv hd hcd
end TH

set_option Elab.async false
set_option maxRecDepth 100000
set_option maxHeartbeats 4000000
namespace G38
open PySem L2 HX
def top (i : Nat) : Stmt := PySem.Challenge.pw_granary_k38_disks_step_by_step.main.body.getD i (.Pass ⟨0, 0, 0, 0⟩)
abbrev sCopied : Stmt := top 1
abbrev sDInit : Stmt := inClass (top 14) 0
abbrev sWrite : Stmt := inClass (top 14) 1
abbrev sSettle : Stmt := inClass (top 14) 2
abbrev sNeed : Stmt := inClass (top 14) 3
abbrev sRefuse : Stmt := inClass (top 14) 4
abbrev sUnits : Stmt := inClass (top 14) 5
abbrev sArm : Stmt := inClass (top 14) 6
abbrev sFall : Stmt := inClass (top 14) 7
abbrev sBegun : Stmt := top 16
abbrev sTake : Stmt := top 17
abbrev sAlike : Stmt := top 18
abbrev sTold : Stmt := top 19
abbrev sAll : Stmt := top 20
abbrev sLaw : Stmt := top 21
/-- data: what stands for itself, tuples, lists -/
inductive D where
  | s (v : V) | t (ds : List D) | l (ds : List D)
def leaf : V → Bool
  | .non => true
  | .int _ => true
  | .str _ => true
  | _ => false
/-- the value v is the data d, n deep -/
def DAt (H : Hp) : Nat → D → V → Prop
  | 0, d, v => d = .s v ∧ leaf v = true
  | n + 1, d, v => (d = .s v ∧ leaf v = true) ∨ (∃ a ds xs, v = .ref a ∧ d = .t ds ∧ H a = some (.tup xs) ∧ ds ≠ [] ∧ ds.length ≤ 1000 ∧ Paired (DAt H n) ds xs) ∨
    ∃ a ds xs, v = .ref a ∧ d = .l ds ∧ H a = some (.lst xs) ∧ ds.length ≤ 1000 ∧ Paired (DAt H n) ds xs
/-- what data lean on stays -/
def DKeep (H H' : Hp) : Prop := ∀ a o, H a = some o → (∃ xs, o = .tup xs) ∨ (∃ xs, o = .lst xs) → H' a = some o
theorem DKeep.same {H H' : Hp} (s : Same H H') : DKeep H H' := fun a o h _ => s a o h
theorem DAt.keep {H H' : Hp} (k : DKeep H H') : ∀ {n : Nat} {d : D} {v : V}, DAt H n d v → DAt H' n d v
  | 0, _, _, h => h
  | n + 1, _, _, h => by
    rcases h with h | ⟨a, ds, xs, h1, h2, h3, h4, h5, h6⟩ | ⟨a, ds, xs, h1, h2, h3, h5, h6⟩
    · exact .inl h
    · exact .inr (.inl ⟨a, ds, xs, h1, h2, k _ _ h3 (.inl ⟨xs, rfl⟩), h4, h5, pw_imp (fun _ _ q => q.keep k) h6⟩)
    · exact .inr (.inr ⟨a, ds, xs, h1, h2, k _ _ h3 (.inr ⟨xs, rfl⟩), h5, pw_imp (fun _ _ q => q.keep k) h6⟩)
theorem DAt.of_fresh {H H' : Hp} {n : Nat} {d : D} {v : V} (h : DAt (fresh H H') n d v) : DAt H' n d v := h.keep fun _ _ e _ => (fresh_at.mp e).2
theorem DAt.same {H H' : Hp} {n : Nat} {d : D} {v : V} (h : DAt H n d v) (s : Same H H') : DAt H' n d v := h.keep (DKeep.same s)
theorem DAt.up {H : Hp} : ∀ {n : Nat} {d : D} {v : V}, DAt H n d v → DAt H (n + 1) d v
  | 0, _, _, h => .inl h
  | n + 1, _, _, h => by
    rcases h with h | ⟨a, ds, xs, h1, h2, h3, h4, h5, h6⟩ | ⟨a, ds, xs, h1, h2, h3, h5, h6⟩
    · exact .inl h
    · exact .inr (.inl ⟨a, ds, xs, h1, h2, h3, h4, h5, pw_imp (fun _ _ q => q.up) h6⟩)
    · exact .inr (.inr ⟨a, ds, xs, h1, h2, h3, h5, pw_imp (fun _ _ q => q.up) h6⟩)

structure Txt (mg : Str → Option Value) : Prop where
  len : mg "len" = none
  range : mg "range" = none
  list : mg "list" = none
  tuple : mg "tuple" = none
  int : mg "int" = none
  isinstance : mg "isinstance" = none
  dict : mg "dict" = none
  bool : mg "bool" = none
  str : mg "str" = none
/-- the copy: the same data, new -/
def spCopied (n : Nat) : Sp := fun vs H Q _ => ∃ v d, vs = [v] ∧ DAt H n d v ∧ ∀ v' H', Same H H' → DAt (fresh H H') n d v' → Q v' H'
/-- the type that isinstance sees -/
theorem leaf_ty {K : PySem.W.Frag} {H : Hp} {v : V} (h : leaf v = true) : ∃ T : String, TyX K H v (.type T) ∧ PySem.W.kitOne K (.type T) (.type "list") = some false ∧ PySem.W.kitOne K (.type T) (.type "tuple") = some false ∧ PySem.W.kitOne K (.type T) (.type "dict") = some false := by
  cases v with
  | non => exact ⟨_, .base .non, by first | rfl | decide +kernel, by first | rfl | decide +kernel, by first | rfl | decide +kernel⟩
  | int i => exact ⟨_, .base (.int i), by first | rfl | decide +kernel, by first | rfl | decide +kernel, by first | rfl | decide +kernel⟩
  | str x => exact ⟨_, .base (.str x), by first | rfl | decide +kernel, by first | rfl | decide +kernel, by first | rfl | decide +kernel⟩
  | _ => cases h
end G38

set_option linter.all false
set_option maxHeartbeats 4000000
namespace G38
open PySem L2 HX
section
variable {P : Program} {w : World} {K : PySem.W.Frag} {mg : Str → Option Value} {base : Heap}
theorem scCp : FnScope ["value", "part", "key"] ["value"] (defScope sCopied) := ⟨rfl, rfl, rfl, by decide +kernel, rfl, by decide +kernel, by decide +kernel⟩
theorem upd_none' {H : Hp} {a b : Addr} {o : HO} (e : upd H a o b = none) : H b = none := by
  unfold upd at e
  split at e
  · cases e
  · exact e
theorem grow {H H' H2 : Hp} {D0 : Addr} {m i : Nat} {ds : List D} {e : D} {ys : List V} {v' : V} (hD : H D0 = none) (sm : Same H H') (hy : H' D0 = some (.lst ys)) (s2 : Same H' H2) (pw : Paired (DAt (fresh (upd H D0 (.lst [])) H') m) (ds.take i) ys) (he : ds[i]? = some e) (d2 : DAt (fresh H' H2) m e v') :
    Paired (DAt (fresh (upd H D0 (.lst [])) (upd H2 D0 (.lst (ys ++ [v'])))) m) (ds.take (i + 1)) (ys ++ [v']) := by
  have k1 : DKeep (fresh (upd H D0 (.lst [])) H') (fresh (upd H D0 (.lst [])) (upd H2 D0 (.lst (ys ++ [v'])))) := fun b o z _ => by
    obtain ⟨e1, e2⟩ := fresh_at.mp z
    have nb : b ≠ D0 := fun q => by rw [q, upd_same] at e1; cases e1
    exact fresh_at.mpr ⟨e1, by rw [upd_ne nb]; exact s2 _ _ e2⟩
  have k2 : DKeep (fresh H' H2) (fresh (upd H D0 (.lst [])) (upd H2 D0 (.lst (ys ++ [v'])))) := fun b o z _ => by
    obtain ⟨e1, e2⟩ := fresh_at.mp z
    have nb : b ≠ D0 := fun q => by rw [q, hy] at e1; cases e1
    exact fresh_at.mpr ⟨by rw [upd_ne nb]; exact none_of_same sm e1, by rw [upd_ne nb]; exact e2⟩
  exact pw_snoc (pw_imp (fun _ _ q => q.keep k1) pw) he (d2.keep k2)
theorem kTl : PySem.W.kitOne K (.type "tuple") (.type "list") = some false := by first | rfl | decide +kernel
theorem kTT : PySem.W.kitOne K (.type "tuple") (.type "tuple") = some true := by unfold PySem.W.kitOne; rw [if_pos (by decide)]
theorem kLL : PySem.W.kitOne K (.type "list") (.type "list") = some true := by unfold PySem.W.kitOne; rw [if_pos (by decide)]
theorem ok_copied {n j : Nat} {f : Addr} {fd : FuncData} (F : Fun K "copied" "copied" sCopied f fd) (T : Txt mg) (Cc : ∀ m, n = m + 1 → Cal P w K mg base j "copied" ["value"] (spCopied m) f fd) : FnOk P w K mg base CX0 (j + 1) f fd ["value"] (spCopied n) := by
  refine F.ok scCp (fun vs H Q E h => ?_) (fun cdv A outer s H vs Q E hr h => ?_)
  · obtain ⟨v, d, rfl, _⟩ := h
    rfl
  · obtain ⟨v, d, rfl, hd, k⟩ := h
    have hr1 : Room j _ := hr
    have leafCase : (d = .s v ∧ leaf v = true) → ∃ t, PSs (cxOf CX0 P w K mg base ["value", "part", "key"] "copied" (defScope sCopied) f cdv A outer s H E).nox (defBody sCopied) t ∧ t { nx := fun _ H' => Q .non H', rt := Q } (L2.start ["value", "part", "key"] [v]) H := by
      rintro ⟨rfl, hl⟩
      obtain ⟨ty, t0, t1, t2, t3⟩ := leaf_ty (K := K) (H := H) hl
      refine ⟨_, (pss_cons (ps_if (pt_val (pe_callB (RK.isi (K := K)) (by rfl) T.isinstance (by decide +kernel) (pa_cons (pv 0) (pa_cons (pe_bltn (v := .ty "list") (u := .type "list") (by rfl) T.list (by decide +kernel) rfl) pa_nil)))) (pss_one ps_never) pss_nil)
        (pss_cons (ps_if (pt_val (pe_callB (RK.isi (K := K)) (by rfl) T.isinstance (by decide +kernel) (pa_cons (pv 0) (pa_cons (pe_bltn (v := .ty "tuple") (u := .type "tuple") (by rfl) T.tuple (by decide +kernel) rfl) pa_nil)))) (pss_one ps_never) pss_nil)
        (pss_cons (ps_if (pt_val (pe_callB (RK.isi (K := K)) (by rfl) T.isinstance (by decide +kernel) (pa_cons (pv 0) (pa_cons (pe_bltn (v := .ty "dict") (u := .type "dict") (by rfl) T.dict (by decide +kernel) rfl) pa_nil)))) (pss_one ps_never) pss_nil)
        (pss_one (ps_ret (pv 0)))))), ?_⟩
      refine sif ⟨_, rfl, _, _, _, _, false, rfl, .ty "list", t0, t1, _, rfl, iteF ?_⟩
      dsimp only [tNext]
      refine sif ⟨_, rfl, _, _, _, _, false, rfl, .ty "tuple", t0, t2, _, rfl, iteF ?_⟩
      dsimp only [tNext]
      refine sif ⟨_, rfl, _, _, _, _, false, rfl, .ty "dict", t0, t3, _, rfl, iteF ?_⟩
      dsimp only [tNext]
      exact ⟨_, rfl, k _ _ (Same.refl H) (by cases n <;> first | exact ⟨rfl, hl⟩ | exact .inl ⟨rfl, hl⟩)⟩
    cases n with
    | zero => exact leafCase hd
    | succ m =>
      have Ccopied := Cc m rfl
      rcases hd with hd | ⟨a, ds, xs, rfl, rfl, h3, h4, h5, h6⟩ | ⟨a, ds, xs, rfl, rfl, h3, h5, h6⟩
      · exact leafCase hd
      · have ty : TyX K H (.ref a) (.type "tuple") := .base (.tup h3)
        have len := pw_len h6
        refine ⟨_, (pss_cons (ps_if (pt_val (pe_callB (RK.isi (K := K)) (by rfl) T.isinstance (by decide +kernel) (pa_cons (pv 0) (pa_cons (pe_bltn (v := .ty "list") (u := .type "list") (by rfl) T.list (by decide +kernel) rfl) pa_nil)))) (pss_one ps_never) pss_nil)
          (pss_cons (ps_if (pt_val (pe_callB (RK.isi (K := K)) (by rfl) T.isinstance (by decide +kernel) (pa_cons (pv 0) (pa_cons (pe_bltn (v := .ty "tuple") (u := .type "tuple") (by rfl) T.tuple (by decide +kernel) rfl) pa_nil)))) (pss_one (ps_ret (pe_callTy (RK.tupQ (K := K)) (by rfl) T.tuple (by decide +kernel) (pa_cons (pe_lc (own := [("part", 1)]) rfl scCp.nd (RK.piT (K := K) (pv 0)) (blkOk_by (N := ["value", "part", "key"]) (sc := defScope sCopied) (by decide +kernel)) (fun _ _ _ _ _ => (pg_name (i := 1) scCp.nd rfl (Or.inl rfl))) (fun _ _ _ _ _ => pts_nil) (fun _ _ _ _ _ => (pe_call Ccopied.G hr1 rfl Ccopied.g Ccopied.kp Ccopied.b .nil pass0 (pa_cons (pv 1) pa_nil)))) pa_nil)))) pss_nil)
          (pss_cons ps_never (pss_one ps_never)))), ?_⟩
        refine sif ⟨_, rfl, _, _, _, _, false, rfl, .ty "list", ty, kTl, _, rfl, iteF ?_⟩
        dsimp only [tNext]
        refine sif ⟨_, rfl, _, _, _, _, true, rfl, .ty "tuple", ty, kTT, _, rfl, iteT ?_⟩
        refine ⟨_, rfl, a, rfl, ⟨xs, SqT.of h3⟩, fun D hD => ?_⟩
        refine lc_tup (K := K) (a := a) (xs := xs) (fun i H' => Same H H' ∧ ∃ ys, H' D = some (.lst ys) ∧ ys.length = i ∧ Paired (DAt (fresh (upd H D (.lst [])) H') m) (ds.take i) ys) ⟨same_new hD, [], upd_same, rfl, .nil⟩ (fun i H' _ ⟨sm, _⟩ => SqT.of (sm _ _ h3)) ?_ ?_
        · rintro i y H' hi ⟨sm, ys, hy, ly, pw⟩
          obtain ⟨e, he, hv⟩ := pw_get h6 hi
          have li : i < ds.length := (List.getElem?_eq_some_iff.mp he).1
          refine gn ?_
          refine ⟨rfl, ?_⟩
          refine ⟨_, rfl, y, e, rfl, hv.same sm, fun v' H2 s2 d2 => ?_⟩
          have hy2 := s2 _ _ hy
          refine ⟨ys, hy2, Nat.lt_of_lt_of_le (by omega : ys.length < 1001) (by show 1001 ≤ sizeLine; decide), fun b o eb => ?_, ys ++ [v'], upd_same, by rw [List.length_append, ly]; rfl, ?_⟩
          · rw [upd_ne (ne_of_none eb hD)]
            exact s2 _ _ (sm _ _ eb)
          · exact grow hD sm hy s2 pw he d2
        · rintro H' ⟨sm, ys, hy, ly, pw⟩
          rw [← len, List.take_length] at pw
          refine ⟨D, ys, rfl, .inl ⟨SqL.of hy, fun l hl => ?_⟩⟩
          refine k _ _ (sm.trans (same_new hl)) (.inr (.inl ⟨l, ds, ys, rfl, rfl, fresh_at.mpr ⟨none_of_same sm hl, upd_same⟩, h4, h5, pw_imp (fun _ _ q => q.keep fun b o e _ => ?_) pw⟩))
          obtain ⟨e1, e2⟩ := fresh_at.mp e
          exact fresh_at.mpr ⟨upd_none' e1, by rw [upd_ne (ne_of_none e2 hl)]; exact e2⟩
      · have ty : TyX K H (.ref a) (.type "list") := .base (.lst h3)
        have len := pw_len h6
        refine ⟨_, (pss_cons (ps_if (pt_val (pe_callB (RK.isi (K := K)) (by rfl) T.isinstance (by decide +kernel) (pa_cons (pv 0) (pa_cons (pe_bltn (v := .ty "list") (u := .type "list") (by rfl) T.list (by decide +kernel) rfl) pa_nil)))) (pss_one (ps_ret (pe_lc (own := [("part", 1)]) rfl scCp.nd (RK.piL (K := K) (pv 0)) (blkOk_by (N := ["value", "part", "key"]) (sc := defScope sCopied) (by decide +kernel)) (fun _ _ _ _ _ => (pg_name (i := 1) scCp.nd rfl (Or.inl rfl))) (fun _ _ _ _ _ => pts_nil) (fun _ _ _ _ _ => (pe_call Ccopied.G hr1 rfl Ccopied.g Ccopied.kp Ccopied.b .nil pass0 (pa_cons (pv 1) pa_nil)))))) pss_nil)
          (pss_cons ps_never (pss_cons ps_never (pss_one ps_never)))), ?_⟩
        refine sif ⟨_, rfl, _, _, _, _, true, rfl, .ty "list", ty, kLL, _, rfl, iteT ?_⟩
        refine ⟨_, rfl, a, rfl, ⟨xs, SqL.of h3⟩, fun D hD => ?_⟩
        refine lc_list (K := K) (a := a) (xs := xs) (fun i H' => Same H H' ∧ ∃ ys, H' D = some (.lst ys) ∧ ys.length = i ∧ Paired (DAt (fresh (upd H D (.lst [])) H') m) (ds.take i) ys) ⟨same_new hD, [], upd_same, rfl, .nil⟩ (fun i H' _ ⟨sm, _⟩ => SqL.of (sm _ _ h3)) ?_ ?_
        · rintro i y H' hi ⟨sm, ys, hy, ly, pw⟩
          obtain ⟨e, he, hv⟩ := pw_get h6 hi
          have li : i < ds.length := (List.getElem?_eq_some_iff.mp he).1
          refine gn ?_
          refine ⟨rfl, ?_⟩
          refine ⟨_, rfl, y, e, rfl, hv.same sm, fun v' H2 s2 d2 => ?_⟩
          have hy2 := s2 _ _ hy
          refine ⟨ys, hy2, Nat.lt_of_lt_of_le (by omega : ys.length < 1001) (by show 1001 ≤ sizeLine; decide), fun b o eb => ?_, ys ++ [v'], upd_same, by rw [List.length_append, ly]; rfl, ?_⟩
          · rw [upd_ne (ne_of_none eb hD)]
            exact s2 _ _ (sm _ _ eb)
          · exact grow hD sm hy s2 pw he d2
        · rintro H' ⟨sm, ys, hy, ly, pw⟩
          rw [← len, List.take_length] at pw
          refine k _ _ sm (.inr (.inr ⟨D, ds, ys, rfl, rfl, fresh_at.mpr ⟨hD, hy⟩, h5, pw_imp (fun _ _ q => q.keep fun b o e _ => ?_) pw⟩))
          obtain ⟨e1, e2⟩ := fresh_at.mp e
          exact fresh_at.mpr ⟨upd_none' e1, e2⟩
end
end G38

set_option linter.all false
set_option maxHeartbeats 4000000
namespace TH
open PySem PySem.Spec PyProof.Rows L2
section
variable {X : Cx}
/-- X(), X an own exception class without __init__ -/
theorem pmk_own0 {C : Addr} {bmB : List Value} {B newId initId : String} {x : Str} {p pos : Pos} (F : ExcBaseFacts B newId initId bmB) (q : PySem.W.excIn X.K C bmB newId = true) (gC : X.mg x = some (.ref C)) (kC : PySem.W.keepIn X.K (.ref C) = true) (r : Raises X (.ref C)) (hg : Gl X x)
    (hdb : (x == ("__debug__" : Str)) = false := by decide) : PMk X (.Call (.Name x p) [] [] pos) (fun _ H Q => Q (.ref C) none H) := by
  intro pins s σ H Q I h
  refine wpAny_Call_Name_kw (ld_glob I hg gC ?_ hdb)
  refine PySem.W.callWith_K0 I.kIn kC ?_
  show wpAny _ _ (call (.ref C) []) _ _ _
  obtain ⟨bm, N, nm, qn, bs, hdct, sn, sub, ab, col, dd, k0, k1, k2, k3, k5, mN, hC, hN, hni, T⟩ := exc_obj I.kIn q
  refine wpAny_call_exc_subT F T hC hN hni (fun h' e hm => ?_) (by show 0 ≤ sizeLine; exact Nat.zero_le _)
  exact mk_of I hm r h (I.hok.gone hm.new)
end
end TH
namespace G38
open PySem L2 HX
/-- a unit: its turn, its number -/
abbrev U := Int × Int
def uD (u : U) : D := .t [.s (.str "unit"), .s (.int u.1), .t [.s (.int u.2), .s .non]]
def UAt (H : Hp) (u : U) (v : V) : Prop := ∃ a b, v = .ref a ∧ H a = some (.tup [.str "unit", .int u.1, .ref b]) ∧ H b = some (.tup [.int u.2, .non])
/-- tuples stay -/
def TK (H H' : Hp) : Prop := ∀ a xs, H a = some (.tup xs) → H' a = some (.tup xs)
theorem TK.same {H H' : Hp} (s : Same H H') : TK H H' := fun a xs h => s a _ h
theorem UAt.keep {H H' : Hp} {u : U} {v : V} (h : UAt H u v) (k : TK H H') : UAt H' u v := by
  obtain ⟨a, b, e, h1, h2⟩ := h
  exact ⟨a, b, e, k _ _ h1, k _ _ h2⟩
theorem UAt.data {H : Hp} {u : U} {v : V} (h : UAt H u v) : DAt H 2 (uD u) v := by
  obtain ⟨a, b, e, h1, h2⟩ := h
  refine .inr (.inl ⟨a, _, _, e, rfl, h1, by simp, by show 3 ≤ 1000; decide, .cons (.inl ⟨rfl, rfl⟩) (.cons (.inl ⟨rfl, rfl⟩) (.cons (.inr (.inl ⟨b, _, _, rfl, rfl, h2, by simp, by show 2 ≤ 1000; decide, .cons ⟨rfl, rfl⟩ (.cons ⟨rfl, rfl⟩ .nil)⟩)) .nil))⟩)
theorem UAt.of {H : Hp} {u : U} {v : V} (h : DAt H 2 (uD u) v) : UAt H u v := by
  rcases h with ⟨e, _⟩ | ⟨a, ds, xs, e1, e2, h1, _, _, pw⟩ | ⟨a, ds, xs, e1, e2, _⟩
  · cases e
  · injection e2 with e2
    subst e2
    cases pw with
    | cons p1 pw => cases pw with
      | cons p2 pw => cases pw with
        | cons p3 pw =>
          cases pw
          rcases p1 with ⟨q1, _⟩ | ⟨_, _, _, _, q, _⟩ | ⟨_, _, _, _, q, _⟩
          · injection q1 with q1
            subst q1
            rcases p2 with ⟨q2, _⟩ | ⟨_, _, _, _, q, _⟩ | ⟨_, _, _, _, q, _⟩
            · injection q2 with q2
              subst q2
              rcases p3 with ⟨q, _⟩ | ⟨b, ds, ys, e3, e4, h2, _, _, pw⟩ | ⟨_, _, _, _, q, _⟩
              · cases q
              · injection e4 with e4
                subst e4
                cases pw with
                | cons p4 pw => cases pw with
                  | cons p5 pw =>
                    cases pw
                    obtain ⟨q4, _⟩ := p4
                    obtain ⟨q5, _⟩ := p5
                    injection q4 with q4
                    injection q5 with q5
                    subst q4 q5 e3
                    exact ⟨a, b, e1, h1, h2⟩
              · cases q
            · cases q
            · cases q
          · cases q
          · cases q
  · cases e2
/-- a disk's state -/
structure DS where
  us : List U
  la : Nat
  le : Option Int
  go : Bool
def oV : Option Int → V
  | none => .non
  | some i => .int i
abbrev dfl (r : Addr) (st : DS) : List (Str × V) := [("_units", .ref r), ("_lasting", .int (st.la : Int)), ("_left", oV st.le), ("_gone", .bl st.go)]
structure DiskAt (C : Addr) (H : Hp) (p r : Addr) (st : DS) : Prop where
  ob : ∃ dx, H p = some (.ins C dx (dfl r st))
  ls : ∃ vs, H r = some (.lst vs) ∧ Paired (UAt H) st.us vs
  few : st.us.length ≤ 200
  lal : st.la ≤ st.us.length
/-- all but p and r stays -/
def KP (p r : Addr) (H H' : Hp) : Prop := ∀ b o, b ≠ p → b ≠ r → H b = some o → H' b = some o
theorem KP.same {p r : Addr} {H H' : Hp} (s : Same H H') : KP p r H H' := fun b o _ _ h => s b o h
theorem KP.trans {p r : Addr} {H H1 H2 : Hp} (a : KP p r H H1) (b : KP p r H1 H2) : KP p r H H2 := fun c o n1 n2 h => b c o n1 n2 (a c o n1 n2 h)
theorem DiskAt.ne {C : Addr} {H : Hp} {p r : Addr} {st : DS} (d : DiskAt C H p r st) : p ≠ r := by
  obtain ⟨⟨dx, h1⟩, ⟨vs, h2, _⟩, _⟩ := d
  exact ne_of h1 h2 (by intro z; cases z)
theorem KP.tk {C : Addr} {p r : Addr} {H H' : Hp} {st : DS} (d : DiskAt C H p r st) (k : KP p r H H') : TK H H' := fun a xs h => by
  obtain ⟨⟨dx, h1⟩, ⟨vs, h2, _⟩, _⟩ := d
  exact k a _ (ne_of h h1 (by intro z; cases z)) (ne_of h h2 (by intro z; cases z)) h
theorem pw_keep {H H' : Hp} (k : TK H H') {us : List U} {vs : List V} (h : Paired (UAt H) us vs) : Paired (UAt H') us vs := pw_imp (fun _ _ q => q.keep k) h
/-- the fields are written anew -/
theorem DiskAt.fld {C : Addr} {H : Hp} {p r dx : Addr} {st st' : DS} (d : DiskAt C H p r st) (e : st'.us = st.us) (l : st'.la ≤ st'.us.length) : DiskAt C (upd H p (.ins C dx (dfl r st'))) p r st' := by
  obtain ⟨⟨dx0, h1⟩, ⟨vs, h2, pw⟩, few, _⟩ := d
  have n1 : r ≠ p := ne_of h2 h1 (by intro z; cases z)
  refine ⟨⟨dx, upd_same⟩, ⟨vs, by rw [upd_ne n1]; exact h2, ?_⟩, by rw [e]; exact few, l⟩
  rw [e]
  exact pw_keep (fun a xs h => by rw [upd_ne (ne_of h h1 (by intro z; cases z))]; exact h) pw
theorem kp_fld {p r : Addr} {H : Hp} {o : HO} : KP p r H (upd H p o) := fun b u n1 _ h => by rw [upd_ne n1]; exact h
/-- the facts of an own exception class -/
structure ExT (K : PySem.W.Frag) (mg : Str → Option Value) (x : Str) (C : Addr) : Prop where
  g : mg x = some (.ref C)
  x : PySem.W.excIn K C [.type "ValueError", .type "Exception", .type "BaseException", .type "object"] "ValueError.__new__" = true
  k : PySem.W.keepIn K (.ref C) = true
  b : PySem.W.subIn K (.ref C) (.type "BaseException") = some true
  t : PySem.W.typeIn K (.ref C) = some (.type "type")
structure TxtD (K : PySem.W.Frag) (mg : Str → Option Value) (C CG CB : Addr) : Prop extends Txt mg where
  cl : Cls K C
  nU : NoAttr K C "_units"
  nA : NoAttr K C "_lasting"
  nE : NoAttr K C "_left"
  nG : NoAttr K C "_gone"
  gone : ExT K mg "Gone" CG
  bad : ExT K mg "BadNumber" CB
def out (st : DS) : Bool := st.go || decide (st.le = some 0)
def tick (st : DS) : DS := { st with le := st.le.map (· - 1) }
def spDInit (C : Addr) : Sp := fun vs H Q _ => ∃ (p dx : Addr), vs = [.ref p] ∧ H p = some (.ins C dx []) ∧ ∀ (r : Addr) (H' : Hp), H r = none → DiskAt C H' p r ⟨[], 0, none, false⟩ → (∀ b o, H b = some o → b ≠ p → H' b = some o) → Q .non H'
def spRefuse (C CG : Addr) : Sp := fun vs H Q E => ∃ (p r : Addr) (st : DS), vs = [.ref p] ∧ DiskAt C H p r st ∧ (st.go = true → E (.ref CG) none H) ∧ (st.go = false → Q .non H)
def spNeed (C CG : Addr) : Sp := fun vs H Q E => ∃ (p r : Addr) (st : DS), vs = [.ref p] ∧ DiskAt C H p r st ∧
  (out st = true → ∀ H', KP p r H H' → DiskAt C H' p r { st with go := true } → E (.ref CG) none H') ∧ (out st = false → ∀ H', KP p r H H' → DiskAt C H' p r (tick st) → Q .non H')
section
variable {P : Program} {w : World} {K : PySem.W.Frag} {mg : Str → Option Value} {base : Heap} {C CG CB : Addr}
theorem scDI : FnScope ["self"] ["self"] (defScope sDInit) := ⟨rfl, rfl, rfl, by decide +kernel, rfl, by decide +kernel, by decide +kernel⟩
theorem ok_dinit {f : Addr} {fd : FuncData} (F : Fun K "__init__" "Disk.__init__" sDInit f fd) (T : TxtD K mg C CG CB) : FnOk P w K mg base CX0 1 f fd ["self"] (spDInit C) := by
  refine F.ok scDI (fun vs H Q E h => ?_) (fun cdv A outer s H vs Q E hr h => ?_)
  · obtain ⟨p, dx, rfl, _⟩ := h
    rfl
  · obtain ⟨p, dx, rfl, hp, k⟩ := h
    refine ⟨_, (pss_cons (ps_fld (pv 0) (pe_lst pa_nil) rfl) (pss_cons (ps_fld (pv 0) pe_int rfl) (pss_cons (ps_fld (pv 0) pe_non rfl) (pss_one (ps_fld (pv 0) pe_bl rfl))))), ?_⟩
    refine ⟨(by show 0 ≤ sizeLine; decide), fun r hr0 => ?_⟩
    have npr : p ≠ r := ne_of_none hp hr0
    refine ⟨_, rfl, p, C, dx, [], rfl, (by rw [upd_ne npr]; exact hp), T.cl, T.nU, (by show 0 < 1000; decide), ?_⟩
    refine ⟨_, rfl, p, C, dx, _, rfl, upd_same, T.cl, T.nA, (by show 1 < 1000; decide), ?_⟩
    refine ⟨_, rfl, p, C, dx, _, rfl, upd_same, T.cl, T.nE, (by show 2 < 1000; decide), ?_⟩
    refine ⟨_, rfl, p, C, dx, _, rfl, upd_same, T.cl, T.nG, (by show 3 < 1000; decide), ?_⟩
    rw [upd_upd, upd_upd, upd_upd]
    refine k r _ hr0 ⟨⟨dx, upd_same⟩, ⟨[], by rw [upd_ne npr.symm, upd_same], .nil⟩, by show 0 ≤ 200; decide, Nat.le_refl _⟩ fun b o e hb => ?_
    rw [upd_ne hb, upd_ne (ne_of_none e hr0)]
    exact e
theorem scRf : FnScope ["self"] ["self"] (defScope sRefuse) := ⟨rfl, rfl, rfl, by decide +kernel, rfl, by decide +kernel, by decide +kernel⟩
theorem ok_refuse {f : Addr} {fd : FuncData} (F : Fun K "_refuse_gone" "Disk._refuse_gone" sRefuse f fd) (T : TxtD K mg C CG CB) : FnOk P w K mg base (L2.CX P w) 1 f fd ["self"] (spRefuse C CG) := by
  refine F.okX scRf (fun vs H Q E h => ?_) (fun cdv A outer s H vs Q E hr h => ?_)
  · obtain ⟨p, r, st, rfl, _⟩ := h
    rfl
  · obtain ⟨p, r, st, rfl, d, k1, k2⟩ := h
    refine ⟨_, (pss_one (ps_if (pt_val (pe_fld (pv 0) rfl)) (pss_one (ps_raise rfl (takes_of rfl rfl rfl rfl) (TH.pmk_own0 PySem.F.excBase_ValueError T.gone.x T.gone.g T.gone.k (raises_own T.gone.b T.gone.t) (by exact rfl)))) pss_nil)), ?_⟩
    obtain ⟨⟨dx, ob⟩, _⟩ := id d
    refine ⟨_, rfl, p, C, dx, _, _, rfl, ob, T.cl, T.nG, rfl, _, rfl, ?_⟩
    cases e : st.go with
    | true => exact iteT (k1 e)
    | false => exact iteF (k2 e)
end
end G38

set_option linter.all false
set_option maxHeartbeats 4000000
namespace G38
open PySem L2 HX
/-- what a raising callee hands on -/
theorem passX {CX' : CXT} {P : Program} {w : World} {K : PySem.W.Frag} {mg : Str → Option Value} {base : Heap} {N : List Str} {q : Str} {sc : Scope} {f : Addr} {cd : Value} {A : Around} {outer : List Env} {s : Shared} {H : Hp} {E : XK} :
    Passes (L2.CX P w) (cxOf (L2.CX P w) P w K mg base N q sc f cd A outer s H E) E := passes_call (takes_of rfl rfl rfl rfl) fun _ _ _ _ h => h
def spWrite (C CG : Addr) : Sp := fun vs H Q E => ∃ (p r : Addr) (st : DS) (v : V) (u : U), vs = [.ref p, v] ∧ DiskAt C H p r st ∧ UAt H u v ∧ st.us.length < 200 ∧
  (out st = true → ∀ H', KP p r H H' → DiskAt C H' p r { st with go := true } → E (.ref CG) none H') ∧ (out st = false → ∀ H', KP p r H H' → DiskAt C H' p r { tick st with us := st.us ++ [u] } → Q .non H')
def spSettle (C CG : Addr) : Sp := fun vs H Q E => ∃ (p r : Addr) (st : DS), vs = [.ref p] ∧ DiskAt C H p r st ∧
  (out st = true → ∀ H', KP p r H H' → DiskAt C H' p r { st with go := true } → E (.ref CG) none H') ∧ (out st = false → ∀ H', KP p r H H' → DiskAt C H' p r { tick st with la := st.us.length } → Q .non H')
def spUnits (C CG : Addr) : Sp := fun vs H Q E => ∃ (p r : Addr) (st : DS), vs = [.ref p] ∧ DiskAt C H p r st ∧ (st.go = true → E (.ref CG) none H) ∧
  (st.go = false → ∀ l H' ws, Same H H' → H l = none → H' l = some (.lst ws) → Paired (UAt H') st.us ws → Q (.ref l) H')
def spArm (C CB : Addr) : Sp := fun vs H Q E => ∃ (p r : Addr) (st : DS) (m : Int), vs = [.ref p, .int m] ∧ DiskAt C H p r st ∧ (m < 0 → E (.ref CB) none H) ∧
  (0 ≤ m → ∀ H', KP p r H H' → DiskAt C H' p r { st with le := some m } → Q .non H')
def spFall (C CB : Addr) : Sp := fun vs H Q E => ∃ (p r : Addr) (st : DS) (m : Int), vs = [.ref p, .int m] ∧ DiskAt C H p r st ∧ m < 1000 ∧ (m < 0 → E (.ref CB) none H) ∧
  (0 ≤ m → ∀ H' r', H r' = none → KP p r H H' → DiskAt C H' p r' ⟨st.us.take (st.la + m.toNat), (st.us.take (st.la + m.toNat)).length, none, false⟩ → Q .non H')
theorem TK.trans' {H H1 H2 : Hp} (a : TK H H1) (b : TK H1 H2) : TK H H2 := fun c xs h => b c xs (a c xs h)
theorem pw_map {α β γ : Type} {R : γ → β → Prop} {g : α → γ} : ∀ {xs : List α} {ys : List β}, Paired (fun x y => R (g x) y) xs ys → Paired R (xs.map g) ys
  | _, _, .nil => .nil
  | _, _, .cons h r => .cons h (pw_map r)
theorem pw_unmap {α β γ : Type} {R : γ → β → Prop} {S : α → β → Prop} {g : α → γ} (h : ∀ x y, R (g x) y → S x y) : ∀ {xs : List α} {ys : List β}, Paired R (xs.map g) ys → Paired S xs ys
  | [], _, .nil => .nil
  | _ :: _, _, .cons a r => .cons (h _ _ a) (pw_unmap h r)
theorem cut_to {xs : List V} {k : Int} (h : 0 ≤ k) : cutV xs none (some k) = xs.take k.toNat := by
  have z : HT.sIx xs.length xs.length (some k) = min k.toNat xs.length := by
    unfold HT.sIx
    simp only
    rw [if_neg (by omega)]
  unfold cutV
  rw [z, show HT.sIx xs.length 0 none = 0 from rfl, List.drop_zero, Nat.sub_zero]
  by_cases c : k.toNat ≤ xs.length
  · rw [Nat.min_eq_left c]
  · rw [Nat.min_eq_right (by omega), List.take_length, List.take_of_length_le (by omega)]
section
variable {P : Program} {w : World} {K : PySem.W.Frag} {mg : Str → Option Value} {base : Heap} {C CG CB : Addr}
theorem scNd : FnScope ["self"] ["self"] (defScope sNeed) := ⟨rfl, rfl, rfl, by decide +kernel, rfl, by decide +kernel, by decide +kernel⟩
theorem ok_need {f fR : Addr} {fd fdR : FuncData} (F : Fun K "_need_power" "Disk._need_power" sNeed f fd) (T : TxtD K mg C CG CB) (MR : Meth K C "_refuse_gone" fR) (GR : FnOk P w K mg base (L2.CX P w) 1 fR fdR ["self"] (spRefuse C CG)) (bR : Binds K fdR ["self"] []) :
    FnOk P w K mg base (L2.CX P w) 2 f fd ["self"] (spNeed C CG) := by
  refine F.okX scNd (fun vs H Q E h => ?_) (fun cdv A outer s H vs Q E hr h => ?_)
  · obtain ⟨p, r, st, rfl, _⟩ := h
    rfl
  · obtain ⟨p, r, st, rfl, d, k1, k2⟩ := h
    have hr1 : Room 1 _ := hr
    refine ⟨_, (pss_cons (ps_if (pt_cmpR op_eq (pe_fld (pv 0) rfl) pe_int (nomark _)) (pss_one (ps_fld (pv 0) pe_bl rfl)) pss_nil)
      (pss_cons (ps_expr (pe_meth0 (pv 0) T.cl MR GR hr1 bR .nil (passX (CX' := CX0))))
      (pss_one (ps_if (pt_cmpR op_notN (pe_fld (pv 0) rfl) pe_non (nomark _)) (pss_one (ps_fldaug (pv 0) pe_int in_sub)) pss_nil)))), ?_⟩
    obtain ⟨⟨dx, ob⟩, _⟩ := id d
    refine sifR (fun σ' H' => σ' = [some (.ref p)] ∧ KP p r H H' ∧ DiskAt C H' p r { st with go := out st }) ?_ fun Rest => ?_
    · rintro σ' H1 ⟨rfl, kp1, d1⟩
      obtain ⟨⟨dx1, ob1⟩, _⟩ := id d1
      refine sq1 ?_
      refine ⟨_, rfl, p, dx1, _, rfl, ob1, rfl, p, r, _, rfl, d1, fun e => k1 e _ kp1 (by have e : out st = true := e; rw [e] at d1; exact d1), fun e => ?_⟩
      have e : out st = false := e
      rw [e] at d1 ob1
      have k2 := k2 e
      have ego : st.go = false := by
        unfold out at e
        cases q : st.go with
        | true => rw [q] at e; cases e
        | false => rfl
      refine ifs ⟨_, rfl, p, C, dx1, _, _, rfl, ob1, T.cl, T.nE, rfl, rfl, _, rfl, ?_⟩
      cases el : st.le with
      | none =>
        refine iteF (k2 H1 kp1 ?_)
        have z : tick st = { st with go := false } := by
          obtain ⟨us, la, le, go⟩ := st
          cases ego
          cases el
          rfl
        rw [z]
        exact d1
      | some i =>
        refine iteT ?_
        refine ⟨_, rfl, p, C, dx1, _, .int i, rfl, ob1, T.cl, T.nE, by show some (oV st.le) = _; rw [el]; rfl, i, 1, rfl, rfl, dx1, _, ob1, by show 4 < 1000; decide, ?_⟩
        have z : putF "_left" (.int (i - 1)) (dfl r { st with go := false }) = dfl r (tick st) := by
          obtain ⟨us, la, le, go⟩ := st
          cases ego
          cases el
          rfl
        rw [z]
        exact k2 _ (kp1.trans kp_fld) (d1.fld rfl d1.lal)
    · refine ⟨_, rfl, p, C, dx, _, _, rfl, ob, T.cl, T.nE, rfl, (by cases st.le <;> rfl), _, rfl, ?_⟩
      by_cases c : st.le = some 0
      · have z1 : decide (oV st.le = V.int 0) = true := by rw [c]; rfl
        have z2 : out st = true := by unfold out; rw [c]; simp
        rw [z1]
        refine iteT ?_
        refine ⟨_, rfl, p, C, dx, _, rfl, ob, T.cl, T.nG, (by show 4 < 1000; decide), Rest _ _ ⟨rfl, kp_fld, ?_⟩⟩
        have z := d.fld (dx := dx) (st' := { st with go := out st }) rfl d.lal
        rw [z2] at z ⊢
        exact z
      · have z1 : decide (oV st.le = V.int 0) = false := by
          refine decide_eq_false fun z => c ?_
          cases el : st.le with
          | none => rw [el] at z; cases z
          | some i => rw [el] at z; injection z with z; rw [z]
        have z2 : out st = st.go := by unfold out; rw [decide_eq_false c, Bool.or_false]
        rw [z1]
        refine iteF (Rest _ _ ⟨rfl, KP.same (Same.refl H), ?_⟩)
        rw [z2]
        exact d
theorem out_go {st : DS} (e : out st = false) : st.go = false := by
  unfold out at e
  cases q : st.go with
  | true => rw [q] at e; cases e
  | false => rfl
theorem scWr : FnScope ["self", "unit"] ["self", "unit"] (defScope sWrite) := ⟨rfl, rfl, rfl, by decide +kernel, rfl, by decide +kernel, by decide +kernel⟩
theorem ok_write {f fN fc : Addr} {fd fdN fdc : FuncData} (F : Fun K "write" "Disk.write" sWrite f fd) (T : TxtD K mg C CG CB) (MN : Meth K C "_need_power" fN) (GN : FnOk P w K mg base (L2.CX P w) 2 fN fdN ["self"] (spNeed C CG)) (bN : Binds K fdN ["self"] [])
    (Cc : Cal P w K mg base 3 "copied" ["value"] (spCopied 2) fc fdc) : FnOk P w K mg base (L2.CX P w) 4 f fd ["self", "unit"] (spWrite C CG) := by
  refine F.okX scWr (fun vs H Q E h => ?_) (fun cdv A outer s H vs Q E hr h => ?_)
  · obtain ⟨p, r, st, v, u, rfl, _⟩ := h
    rfl
  · obtain ⟨p, r, st, v, u, rfl, d, hu, few, k1, k2⟩ := h
    have hr3 : Room 3 _ := hr
    have hr2 := hr3.mono (j := 2) (by decide)
    refine ⟨_, (pss_cons (ps_expr (pe_meth0 (pv 0) T.cl MN GN hr2 bN .nil (passX (CX' := CX0))))
      (pss_one (ps_expr (pe_bm PySem.F.plainAttrs_list PySem.F.slot_list_append PySem.F.type_list_append mt_append (pe_fld (pv 0) rfl) (pa_cons (pe_call Cc.G hr3 (by rfl) Cc.g Cc.kp Cc.b .nil pass0 (pa_cons (pv 1) pa_nil)) pa_nil))))), ?_⟩
    obtain ⟨⟨dx, ob⟩, _⟩ := id d
    refine sq1 ⟨_, rfl, p, dx, _, rfl, ob, rfl, p, r, st, rfl, d, k1, fun eo H1 kp1 d1 => ?_⟩
    have k2 := k2 eo
    have tk1 := KP.tk d kp1
    obtain ⟨⟨dx1, ob1⟩, ⟨vs, h2, pw⟩, _, lal⟩ := id d1
    refine ⟨_, rfl, p, C, dx1, _, _, rfl, ob1, T.cl, T.nU, rfl, .inl ⟨rfl, _, SqL.of h2⟩, _, rfl, v, uD u, rfl, (hu.keep tk1).data, fun v' H2 s2 d2 => ?_⟩
    have hv2 := UAt.of d2.of_fresh
    have h3 := s2 _ _ h2
    have lv : vs.length = st.us.length := (pw_len pw).symm
    refine ⟨r, vs, v', rfl, rfl, h3, Nat.lt_of_lt_of_le (by omega : vs.length < 200) (by show 200 ≤ sizeLine; decide), ?_⟩
    have npr := d1.ne
    have tk2 : TK H2 (upd H2 r (.lst (vs ++ [v']))) := fun a xs h => by rw [upd_ne (ne_of h h3 (by intro z; cases z))]; exact h
    refine k2 _ (kp1.trans ((KP.same s2).trans fun b o _ n2 h => by rw [upd_ne n2]; exact h)) ⟨⟨dx1, by rw [upd_ne npr]; exact s2 _ _ ob1⟩, ⟨_, upd_same, pw_app (pw_keep ((TK.same s2).trans' tk2) pw) (.cons (hv2.keep tk2) .nil)⟩, ?_, ?_⟩
    · show (st.us ++ [u]).length ≤ 200
      rw [List.length_append]
      show st.us.length + 1 ≤ 200
      omega
    · show (tick st).la ≤ (st.us ++ [u]).length
      rw [List.length_append]
      exact Nat.le_trans lal (Nat.le_add_right _ _)
theorem scSt : FnScope ["self"] ["self"] (defScope sSettle) := ⟨rfl, rfl, rfl, by decide +kernel, rfl, by decide +kernel, by decide +kernel⟩
theorem ok_settle {f fN : Addr} {fd fdN : FuncData} (F : Fun K "settle" "Disk.settle" sSettle f fd) (T : TxtD K mg C CG CB) (MN : Meth K C "_need_power" fN) (GN : FnOk P w K mg base (L2.CX P w) 2 fN fdN ["self"] (spNeed C CG)) (bN : Binds K fdN ["self"] []) :
    FnOk P w K mg base (L2.CX P w) 4 f fd ["self"] (spSettle C CG) := by
  refine F.okX scSt (fun vs H Q E h => ?_) (fun cdv A outer s H vs Q E hr h => ?_)
  · obtain ⟨p, r, st, rfl, _⟩ := h
    rfl
  · obtain ⟨p, r, st, rfl, d, k1, k2⟩ := h
    have hr3 : Room 3 _ := hr
    have hr2 := hr3.mono (j := 2) (by decide)
    refine ⟨_, (pss_cons (ps_expr (pe_meth0 (pv 0) T.cl MN GN hr2 bN .nil (passX (CX' := CX0))))
      (pss_one (ps_fld (pv 0) (pe_callB call_len_seq (by rfl) T.len PySem.boot_len (pa_cons (pe_fld (pv 0) rfl) pa_nil)) rfl))), ?_⟩
    obtain ⟨⟨dx, ob⟩, _⟩ := id d
    refine sq1 ⟨_, rfl, p, dx, _, rfl, ob, rfl, p, r, st, rfl, d, k1, fun eo H1 kp1 d1 => ?_⟩
    have k2 := k2 eo
    obtain ⟨⟨dx1, ob1⟩, ⟨vs, h2, pw⟩, few, lal⟩ := id d1
    refine ⟨_, rfl, p, C, dx1, _, _, rfl, ob1, T.cl, T.nU, rfl, r, vs, rfl, .inl (SqL.of h2), _, rfl, p, C, dx1, _, rfl, ob1, T.cl, T.nA, (by show 4 < 1000; decide), ?_⟩
    have lv : vs.length = st.us.length := (pw_len pw).symm
    have z : putF "_lasting" (.int (vs.length : Nat)) (dfl r (tick st)) = dfl r { tick st with la := st.us.length } := by rw [lv]; rfl
    rw [z]
    exact k2 _ (kp1.trans kp_fld) (d1.fld rfl (Nat.le_refl _))
theorem scUn : FnScope ["self"] ["self"] (defScope sUnits) := ⟨rfl, rfl, rfl, by decide +kernel, rfl, by decide +kernel, by decide +kernel⟩
theorem ok_units {f fR fc : Addr} {fd fdR fdc : FuncData} (F : Fun K "units" "Disk.units" sUnits f fd) (T : TxtD K mg C CG CB) (MR : Meth K C "_refuse_gone" fR) (GR : FnOk P w K mg base (L2.CX P w) 1 fR fdR ["self"] (spRefuse C CG)) (bR : Binds K fdR ["self"] [])
    (Cc : Cal P w K mg base 4 "copied" ["value"] (spCopied 3) fc fdc) : FnOk P w K mg base (L2.CX P w) 5 f fd ["self"] (spUnits C CG) := by
  refine F.okX scUn (fun vs H Q E h => ?_) (fun cdv A outer s H vs Q E hr h => ?_)
  · obtain ⟨p, r, st, rfl, _⟩ := h
    rfl
  · obtain ⟨p, r, st, rfl, d, k1, k2⟩ := h
    have hr4 : Room 4 _ := hr
    have hr1 := hr4.mono (j := 1) (by decide)
    refine ⟨_, (pss_cons (ps_expr (pe_meth0 (pv 0) T.cl MR GR hr1 bR .nil (passX (CX' := CX0))))
      (pss_one (ps_ret (pe_call Cc.G hr4 (by rfl) Cc.g Cc.kp Cc.b .nil pass0 (pa_cons (pe_fld (pv 0) rfl) pa_nil))))), ?_⟩
    obtain ⟨⟨dx, ob⟩, ⟨vs, h2, pw⟩, few, lal⟩ := id d
    refine sq1 ⟨_, rfl, p, dx, _, rfl, ob, rfl, p, r, st, rfl, d, k1, fun eg => ?_⟩
    refine ⟨_, rfl, p, C, dx, _, _, rfl, ob, T.cl, T.nU, rfl, .ref r, .l (st.us.map uD), rfl, .inr (.inr ⟨r, _, vs, rfl, rfl, h2, by rw [List.length_map]; omega, pw_map (pw_imp (fun _ _ q => q.data) pw)⟩), fun v' H1 s1 d1 => ?_⟩
    rcases d1 with ⟨z, _⟩ | ⟨_, _, _, _, z, _⟩ | ⟨l, ds, ws, rfl, z, h1, _, pw1⟩
    · cases z
    · cases z
    · injection z with z
      subst z
      obtain ⟨f1, f2⟩ := fresh_at.mp h1
      exact k2 eg l H1 ws s1 f1 f2 (pw_unmap (fun _ _ q => UAt.of q.of_fresh) pw1)
theorem scAr : FnScope ["self", "many"] ["self", "many"] (defScope sArm) := ⟨rfl, rfl, rfl, by decide +kernel, rfl, by decide +kernel, by decide +kernel⟩
theorem ok_arm {f : Addr} {fd : FuncData} (F : Fun K "arm" "Disk.arm" sArm f fd) (T : TxtD K mg C CG CB) : FnOk P w K mg base (L2.CX P w) 5 f fd ["self", "many"] (spArm C CB) := by
  refine F.okX scAr (fun vs H Q E h => ?_) (fun cdv A outer s H vs Q E hr h => ?_)
  · obtain ⟨p, r, st, m, rfl, _⟩ := h
    rfl
  · obtain ⟨p, r, st, m, rfl, d, k1, k2⟩ := h
    refine ⟨_, (pss_cons (ps_if (pt_cmpR op_lt (pv 1) pe_int (nomark _)) (pss_one (ps_raise rfl (takes_of rfl rfl rfl rfl) (TH.pmk_own0 PySem.F.excBase_ValueError T.bad.x T.bad.g T.bad.k (raises_own T.bad.b T.bad.t) (by exact rfl)))) pss_nil)
      (pss_one (ps_fld (pv 0) (pv 1) rfl))), ?_⟩
    obtain ⟨⟨dx, ob⟩, _⟩ := id d
    refine sif ⟨_, rfl, _, _, rfl, rfl, _, rfl, ?_⟩
    by_cases c : m < 0
    · rw [decide_eq_true c]
      exact iteT (k1 c)
    · rw [decide_eq_false c]
      refine iteF ⟨_, rfl, _, rfl, p, C, dx, _, rfl, ob, T.cl, T.nE, (by show 4 < 1000; decide), ?_⟩
      exact k2 (by omega) _ kp_fld (d.fld (st' := { st with le := some m }) rfl d.lal)
theorem scFl : FnScope ["self", "cut"] ["self", "cut"] (defScope sFall) := ⟨rfl, rfl, rfl, by decide +kernel, rfl, by decide +kernel, by decide +kernel⟩
theorem ok_fall {f : Addr} {fd : FuncData} (F : Fun K "fall" "Disk.fall" sFall f fd) (T : TxtD K mg C CG CB) : FnOk P w K mg base (L2.CX P w) 5 f fd ["self", "cut"] (spFall C CB) := by
  refine F.okX scFl (fun vs H Q E h => ?_) (fun cdv A outer s H vs Q E hr h => ?_)
  · obtain ⟨p, r, st, m, rfl, _⟩ := h
    rfl
  · obtain ⟨p, r, st, m, rfl, d, small, k1, k2⟩ := h
    refine ⟨_, (pss_cons (ps_if (pt_cmpR op_lt (pv 1) pe_int (nomark _)) (pss_one (ps_raise rfl (takes_of rfl rfl rfl rfl) (TH.pmk_own0 PySem.F.excBase_ValueError T.bad.x T.bad.g T.bad.k (raises_own T.bad.b T.bad.t) (by exact rfl)))) pss_nil)
      (pss_cons (ps_fld (pv 0) (pe_slice sl_list (pe_fld (pv 0) rfl) po_none (po_some (pe_op op_add (pe_fld (pv 0) rfl) (pv 1)))) rfl)
      (pss_cons (ps_fld (pv 0) (pe_callB call_len_seq (by rfl) T.len PySem.boot_len (pa_cons (pe_fld (pv 0) rfl) pa_nil)) rfl)
      (pss_cons (ps_fld (pv 0) pe_non rfl) (pss_one (ps_fld (pv 0) pe_bl rfl)))))), ?_⟩
    obtain ⟨⟨dx, ob⟩, ⟨vs, h2, pw⟩, few, lal⟩ := id d
    refine sif ⟨_, rfl, _, _, rfl, rfl, _, rfl, ?_⟩
    by_cases c : m < 0
    · rw [decide_eq_true c]
      exact iteT (k1 c)
    · rw [decide_eq_false c]
      refine iteF ?_
      dsimp only [tNext]
      have h0 : 0 ≤ m := by omega
      refine ⟨_, rfl, p, C, dx, _, _, rfl, ob, T.cl, T.nU, rfl, _, rfl, p, C, dx, _, _, rfl, ob, T.cl, T.nA, rfl, _, rfl, st.la, m, rfl, rfl, _, rfl, r, vs, rfl, SqL.of h2, fun r' hr' => ?_⟩
      have zc : cutV vs none (some ((st.la : Int) + m)) = vs.take (st.la + m.toNat) := by
        rw [cut_to (by omega)]
        congr 1
        omega
      rw [zc]
      have npr' : p ≠ r' := ne_of_none ob hr'
      refine ⟨_, rfl, p, C, dx, _, rfl, (by rw [upd_ne npr']; exact ob), T.cl, T.nU, (by show 4 < 1000; decide), ?_⟩
      refine ⟨_, rfl, p, C, dx, _, _, rfl, upd_same, T.cl, T.nU, rfl, r', vs.take (st.la + m.toNat), rfl, .inl (SqL.of (by rw [upd_ne npr'.symm]; exact upd_same)), _, rfl, p, C, dx, _, rfl, upd_same, T.cl, T.nA, (by show 4 < 1000; decide), ?_⟩
      refine ⟨_, rfl, p, C, dx, _, rfl, upd_same, T.cl, T.nE, (by show 4 < 1000; decide), ?_⟩
      refine ⟨_, rfl, p, C, dx, _, rfl, upd_same, T.cl, T.nG, (by show 4 < 1000; decide), ?_⟩
      rw [upd_upd, upd_upd, upd_upd]
      have pw2 := pw_take (st.la + m.toNat) pw
      have len := pw_len pw2
      have z : putF "_gone" (.bl false) (putF "_left" .non (putF "_lasting" (.int ((vs.take (st.la + m.toNat)).length : Nat)) (putF "_units" (.ref r') (dfl r st)))) = dfl r' ⟨st.us.take (st.la + m.toNat), (st.us.take (st.la + m.toNat)).length, none, false⟩ := by rw [← len]; rfl
      rw [z]
      have nr : ∀ b o, H b = some o → b ≠ r' := fun b o e => ne_of_none e hr'
      refine k2 h0 _ r' hr' (fun b o n1 _ e => by rw [upd_ne n1, upd_ne (nr b o e)]; exact e) ⟨⟨dx, upd_same⟩, ⟨_, by rw [upd_ne npr'.symm]; exact upd_same, pw_keep (fun a xs e => ?_) pw2⟩, ?_, Nat.le_refl _⟩
      · rw [upd_ne (ne_of e ob (by intro z; cases z)), upd_ne (nr a _ e)]
        exact e
      · show (st.us.take _).length ≤ 200
        rw [List.length_take]
        omega
end
end G38

set_option linter.all false
set_option maxHeartbeats 4000000
namespace G38
open PySem L2 HX
/-- the box: its cells (a list of ints) and a number -/
def BoxAt (H : Hp) (a b : Addr) : Prop := ∃ (z : Int) (cs : List Int), H a = some (.lst [.ref b, .int z]) ∧ H b = some (.lst (cs.map V.int)) ∧ cs.length ≤ 63
/-- all but the box stays -/
def Keep (a b : Addr) (H H' : Hp) : Prop := ∀ x o, x ≠ a → x ≠ b → H x = some o → H' x = some o

def spBegun (K : PySem.W.Frag) : Sp := fun vs H Q _ => ∃ (l : Addr) (ns : List Int), vs = [.ref l] ∧ SqL K H l (ns.map V.int) ∧ ns.length ≤ 63 ∧
  ∀ (a b : Addr) (H' : Hp), H a = none → H b = none → BoxAt H' a b → Same H H' → Q (.ref a) H'
section
variable {P : Program} {w : World} {K : PySem.W.Frag} {mg : Str → Option Value} {base : Heap}
theorem getI {ns : List Int} {i : Nat} {y : V} (h : (ns.map V.int)[i]? = some y) : ∃ z, ns[i]? = some z ∧ y = V.int z := by
  rw [List.getElem?_map] at h
  cases e : ns[i]? with
  | none => rw [e] at h; cases h
  | some u => rw [e] at h; exact ⟨u, rfl, (Option.some.inj h).symm⟩
theorem scBegun : FnScope ["_law_script", "_law_stirred", "_law_cell"] ["_law_script"] (defScope sBegun) := ⟨rfl, rfl, rfl, by decide +kernel, rfl, by decide +kernel, by decide +kernel⟩
theorem ok_begun {f : Addr} {fd : FuncData} (F : Fun K "_law_begun" "_law_begun" sBegun f fd) (T : Txt mg) : FnOk P w K mg base CX0 1 f fd ["_law_script"] (spBegun K) := by
  refine F.ok scBegun (fun vs H Q E h => ?_) (fun cdv A outer s H vs Q E hr h => ?_)
  · obtain ⟨l, ns, rfl, _⟩ := h
    rfl
  · obtain ⟨l, ns, rfl, hS, hl, k⟩ := h
    refine ⟨_, pss_cons (ps_set (i := 1) scBegun.nd rfl (Or.inl rfl) pe_int)
      (pss_cons (ps_for PassesOwn.never rfl (pi_list (pv 0)) (pg_name (i := 2) scBegun.nd rfl (Or.inl rfl))
        (pss_one (ps_set (i := 1) scBegun.nd rfl (Or.inl rfl) (pe_op op_mod (pe_op op_add (pe_op op_add (pe_op op_mul (pv 1) pe_int) (pe_op op_mul (pv 2) pe_int)) pe_int) pe_int))))
      (pss_one (ps_ret (pe_lst (pa_cons (pe_callTy call_list_of (by rfl) T.list (by decide +kernel) (pa_cons (pv 0) pa_nil))
        (pa_cons (pe_op op_mul (pv 1) (pe_callTy call_int1 (by rfl) T.int (by decide +kernel) (pa_cons (pe_cmpR op_gt (pe_callB call_len_seq (by rfl) T.len PySem.boot_len (pa_cons (pv 0) pa_nil)) pe_int (nomark _)) pa_nil))) pa_nil)))))), ?_⟩
    refine ⟨_, rfl, l, rfl, ⟨_, hS⟩, for_list (K := K) (a := l) (xs := ns.map V.int) (fun i σ H' => ∃ (z : Int) (v : Option V), σ = [some (.ref l), some (.int z), v] ∧ H' = H) ⟨0, none, rfl, rfl⟩ (fun i σ H' _ ⟨_, _, _, e⟩ => by rw [e]; exact hS) ?_ ?_⟩
    · rintro i y σ H' hi ⟨z, v, rfl, rfl⟩
      obtain ⟨u, _, rfl⟩ := getI hi
      refine ⟨_, rfl, _, _, rfl, rfl, .inr ⟨by decide, by decide⟩, _, rfl, _, _, rfl, rfl, .inr ⟨by decide, by decide⟩, _, _, rfl, rfl, _, _, rfl, rfl, _, _, rfl, rfl, (by show (0 : Int) < 2147483647; decide), _, _, rfl, rfl⟩
    · rintro σ H' ⟨z, v, rfl, rfl⟩
      have hp1 : ∀ p, H' p = none → SqL K (upd H' p (.lst (ns.map V.int))) l (ns.map V.int) := fun p hp => (show Same H' (upd H' p (.lst (ns.map V.int))) from fun c o e => by rw [upd_ne (ne_of_none e hp)]; exact e).seq hS
      refine ⟨_, rfl, l, _, rfl, .inl hS, fun p hp => ⟨_, rfl, _, rfl, l, _, rfl, .inl (hp1 p hp), _, _, rfl, rfl, .inr ⟨_, rfl, ?_⟩⟩⟩
      have hb : ∀ c : Bool, (-(2 ^ 64) < (if c = true then (1 : Int) else 0)) ∧ ((if c = true then (1 : Int) else 0) < 2 ^ 64) := fun c => by cases c <;> decide
      refine ⟨_, _, rfl, rfl, .inr (hb _), (by show 2 ≤ sizeLine; decide), fun q hq => ?_⟩
      have npq : p ≠ q := fun e => by rw [← e, upd_same] at hq; cases hq
      have hq0 : H' q = none := by rw [upd_ne npq.symm] at hq; exact hq
      refine k q p _ hq0 hp ⟨_, ns, upd_same, (by rw [upd_ne npq, upd_same]), hl⟩ (fun c o e => ?_)
      rw [upd_ne (ne_of_none e hq0), upd_ne (ne_of_none e hp)]
      exact e
end
/-- ints as data -/
theorem dpInts (K : PySem.W.Frag) (H : Hp) : ∀ ns : List Int, DpAll K H (ns.map V.int) (ns.map PyData.int)
  | [] => .nil
  | n :: r => .cons (.int n) (dpInts K H r)
theorem eqv_nil (ds : List PyData) : PyData.eqv (.list ds) (.list []) = ds.isEmpty := by
  cases ds <;> simp [PyData.eqv, PyData.eqvAll]
theorem Keep.refl (a b : Addr) (H : Hp) : Keep a b H H := fun _ _ _ _ h => h
theorem Keep.trans {a b : Addr} {H H1 H2 : Hp} (p : Keep a b H H1) (q : Keep a b H1 H2) : Keep a b H H2 := fun x o h1 h2 h => q x o h1 h2 (p x o h1 h2 h)
theorem Keep.at1 {a b : Addr} {H : Hp} {o : HO} : Keep a b H (upd H a o) := fun x u h1 _ h => by rw [upd_ne h1]; exact h
theorem Keep.at2 {a b : Addr} {H : Hp} {o : HO} : Keep a b H (upd H b o) := fun x u _ h2 h => by rw [upd_ne h2]; exact h
theorem Keep.new {a b p : Addr} {H : Hp} {o : HO} (hp : H p = none) : Keep a b H (upd H p o) := fun x u _ _ h => by rw [upd_ne (ne_of_none h hp)]; exact h
theorem fmod_lt {x n : Int} (h : 0 < n) : 0 ≤ x.fmod n ∧ x.fmod n < n := ⟨Int.fmod_nonneg_of_pos x h, Int.fmod_lt_of_pos x h⟩
theorem ix0 {n : Nat} : ixN (n + 1) 0 = some 0 := by
  unfold ixN
  rw [if_pos (by decide), if_pos (by omega)]
  rfl
def spTake (_K : PySem.W.Frag) : Sp := fun vs H Q _ => ∃ (a b : Addr) (n : Int), vs = [.ref a, .int n] ∧ 0 < n ∧ n < 1000000 ∧ BoxAt H a b ∧
  ∀ (r : Int) (H' : Hp), 0 ≤ r → r < n → BoxAt H' a b → Keep a b H H' → Q (.int r) H'
section
variable {P : Program} {w : World} {K : PySem.W.Frag} {mg : Str → Option Value} {base : Heap}
theorem scTake : FnScope ["_law_box", "_law_many", "_law_drawn"] ["_law_box", "_law_many"] (defScope sTake) := ⟨rfl, rfl, rfl, by decide +kernel, rfl, by decide +kernel, by decide +kernel⟩
theorem ok_take {f : Addr} {fd : FuncData} (F : Fun K "_law_take" "_law_take" sTake f fd) (T : Txt mg) : FnOk P w K mg base CX0 1 f fd ["_law_box", "_law_many"] (spTake K) := by
  refine F.ok scTake (fun vs H Q E h => ?_) (fun cdv A outer s H vs Q E hr h => ?_)
  · obtain ⟨a, b, n, rfl, _⟩ := h
    rfl
  · obtain ⟨a, b, n, rfl, n0, n1, ⟨z, cs, ha, hb, hc⟩, k⟩ := h
    refine ⟨_, pss_cons (ps_if (pt_cmpR (op_eqD hr.units) (pe_ix ix_list (pv 0) pe_int (fun _ _ => rfl)) (pe_lst pa_nil) (nomark _))
        (pss_cons (ps_asg (pe_op op_mod (pe_op op_mul (pe_ix ix_list (pv 0) pe_int (fun _ _ => rfl)) pe_int) pe_int) (pg_sub (pv 0) pe_int set_list))
          (pss_one (ps_ret (pe_op op_modN (pe_op op_fdiv (pe_ix ix_list (pv 0) pe_int (fun _ _ => rfl)) pe_int) (pv 1))))) pss_nil)
      (pss_cons (ps_set (i := 2) scTake.nd rfl (Or.inl rfl) (pe_ix ix_list (pe_ix ix_list (pv 0) pe_int (fun _ _ => rfl)) pe_int (fun _ _ => rfl)))
      (pss_cons (ps_asg (pe_op op_fdivN (pv 2) (pv 1)) (pg_sub (pe_ix ix_list (pv 0) pe_int (fun _ _ => rfl)) pe_int set_list))
      (pss_cons (ps_if (PW.pt (pw_or (pt_cmpR op_eq (pe_ix ix_list (pe_ix ix_list (pv 0) pe_int (fun _ _ => rfl)) pe_int (fun _ _ => rfl)) pe_int (nomark _))
            (pw_or1 (pt_cmpR op_eq (pe_ix ix_list (pe_ix ix_list (pv 0) pe_int (fun _ _ => rfl)) pe_int (fun _ _ => rfl)) (pe_un un_neg pe_int) (nomark _)))))
          (pss_one (ps_expr (pe_bm PySem.F.plainAttrs_list PySem.F.slot_list_pop PySem.F.type_list_pop mt_popAt (pe_ix ix_list (pv 0) pe_int (fun _ _ => rfl)) (pa_cons pe_int pa_nil)))) pss_nil)
      (pss_one (ps_ret (pe_op op_modN (pv 2) (pv 1))))))), ?_⟩
    have nab : a ≠ b := ne_of ha hb (by
      intro e
      injection e with e
      cases cs with
      | nil => cases e
      | cons c r => rw [List.map_cons] at e; injection e with e1 _; cases e1)
    refine ⟨_, rfl, a, _, _, _, rfl, rfl, SqL.of ha, rfl, (by show 0 ≤ sizeLine; decide), fun e he => ?_⟩
    have nae : a ≠ e := ne_of_none ha he
    have nbe : b ≠ e := ne_of_none hb he
    have ha1 : upd H e (.lst []) a = some (.lst [.ref b, .int z]) := by rw [upd_ne nae]; exact ha
    have hb1 : upd H e (.lst []) b = some (.lst (cs.map V.int)) := by rw [upd_ne nbe]; exact hb
    refine ⟨_, _, .lst (SqL.of hb1) (dpInts K _ cs), .lst (SqL.of upd_same) .nil, PySem.W.shaped_ints cs, rfl, _, rfl, ?_⟩
    rw [eqv_nil]
    cases cs with
    | nil =>
      refine iteT ?_
      refine ⟨_, rfl, a, _, _, _, rfl, rfl, SqL.of ha1, rfl, _, _, rfl, rfl, .inr ⟨by decide, by decide⟩, _, _, rfl, rfl, (by show (0 : Int) < 2147483647; decide), ?_⟩
      refine ⟨_, rfl, a, _, _, 1, rfl, rfl, ha1, rfl, ?_⟩
      refine ⟨_, rfl, a, _, _, _, rfl, rfl, SqL.of upd_same, rfl, _, _, rfl, rfl, ⟨by decide, by decide⟩, _, rfl, _, _, rfl, rfl, (by show n ≠ 0; omega), ?_⟩
      refine k _ _ (fmod_lt n0).1 (fmod_lt n0).2 ⟨_, [], upd_same, (by rw [upd_ne nab.symm]; exact hb1), hc⟩ ((Keep.new he).trans Keep.at1)
    | cons c r =>
      refine iteF ?_
      have b0 : upd H e (.lst []) b = some (.lst (V.int c :: r.map V.int)) := hb1
      refine ⟨_, rfl, a, _, _, _, rfl, rfl, SqL.of ha1, rfl, b, _, _, _, rfl, rfl, SqL.of b0, at0, ?_⟩
      -- box[0][0] = drawn // many
      refine ⟨_, rfl, _, rfl, _, _, rfl, rfl, ⟨by omega, by omega⟩, _, rfl, a, _, _, _, rfl, rfl, SqL.of ha1, rfl, b, _, _, 0, rfl, rfl, b0, ix0, ?_⟩
      have nba := nab.symm
      let q := c.fdiv n
      have ha2 : upd (upd H e (.lst [])) b (.lst (V.int q :: r.map V.int)) a = some (.lst [.ref b, .int z]) := by rw [upd_ne nab]; exact ha1
      have hb2 : upd (upd H e (.lst [])) b (.lst (V.int q :: r.map V.int)) b = some (.lst (V.int q :: r.map V.int)) := upd_same
      have kp : Keep a b H (upd (upd H e (.lst [])) b (.lst (V.int q :: r.map V.int))) := (Keep.new he).trans Keep.at2
      have lr : r.length ≤ 62 := by rw [List.length_cons] at hc; omega
      have fin : ∀ H', BoxAt H' a b → Keep a b H H' → tRet (tOp (rI (fun x j => j ≠ 0) fun i j => V.int (i.fmod j)) (tVar 2) (tVar 1)) { nx := fun _ H' => Q .non H', rt := Q } [some (.ref a), some (.int n), some (.int c)] H' := fun H' B K' =>
        ⟨_, rfl, _, rfl, _, _, rfl, rfl, (by show n ≠ 0; omega), k _ _ (fmod_lt n0).1 (fmod_lt n0).2 B K'⟩
      have popped : tDrop (tBM K "list" rPopAt (tOp (rIxL K) (tVar 0) (tC (V.int 0))) (tCons (tC (.int 0)) tNil)) { nx := fun σ H' => tRet (tOp (rI (fun x j => j ≠ 0) fun i j => V.int (i.fmod j)) (tVar 2) (tVar 1)) { nx := fun _ H' => Q .non H', rt := Q } σ H', rt := Q } [some (.ref a), some (.int n), some (.int c)] (upd (upd H e (.lst [])) b (.lst (V.int q :: r.map V.int))) :=
        ⟨_, rfl, a, _, _, _, rfl, rfl, SqL.of ha2, rfl, .inl ⟨rfl, _, SqL.of hb2⟩, b, _, _, 0, _, rfl, rfl, hb2, by decide, by decide, (ixN_seq ix0).1, rfl, by
          refine fin _ ⟨z, r, (by rw [upd_ne nab]; exact ha2), upd_same, by omega⟩ (kp.trans Keep.at2)⟩
      refine ⟨_, rfl, a, _, _, _, rfl, rfl, SqL.of ha2, rfl, b, _, _, _, rfl, rfl, SqL.of hb2, at0, rfl, _, rfl, ?_⟩
      refine ite2 (fun _ => iteT popped) (fun _ => ?_)
      refine ⟨_, rfl, a, _, _, _, rfl, rfl, SqL.of ha2, rfl, b, _, _, _, rfl, rfl, SqL.of hb2, at0, _, rfl, rfl, _, rfl, ?_⟩
      refine ite2 (fun _ => popped) (fun _ => ?_)
      exact fin _ ⟨z, q :: r, ha2, hb2, by rw [List.length_cons]; omega⟩ kp
end
end G38

set_option linter.all false
set_option maxHeartbeats 4000000
namespace G38
open PySem L2 HX
theorem tyT {K : PySem.W.Frag} {H : Hp} {a : Addr} {xs : List V} (h : SqT K H a xs) : TyX K H (.ref a) (.type "tuple") := by
  rcases h with (h | ⟨o, h⟩) | ⟨o, its, n, h, c, _⟩
  · exact .base (.tup h)
  · exact .fTuple h
  · exact .kTuple h c
theorem tyL {K : PySem.W.Frag} {H : Hp} {a : Addr} {xs : List V} (h : SqL K H a xs) : TyX K H (.ref a) (.type "list") := by
  rcases h with (h | ⟨o, h⟩) | ⟨o, its, n, h, c, _⟩
  · exact .base (.lst h)
  · exact .base (.frz h)
  · exact .kList h c
/-- two that are alike, n deep -/
def Alk (K : PySem.W.Frag) (H : Hp) : Nat → V → V → Prop
  | 0, v, w => v = w ∧ leaf v = true
  | n + 1, v, w => (v = w ∧ leaf v = true) ∨ ∃ (a b : Addr) (xs ys : List V), v = .ref a ∧ w = .ref b ∧ ((SqT K H a xs ∧ SqT K H b ys) ∨ (SqL K H a xs ∧ SqL K H b ys)) ∧ xs.length ≤ 1000 ∧ Paired (Alk K H n) xs ys
def spAlk (K : PySem.W.Frag) (n : Nat) : Sp := fun vs H Q _ => ∃ v w, vs = [v, w] ∧ Alk K H n v w ∧ Q (.bl true) H
theorem pw_both {α β : Type} {R : α → β → Prop} : ∀ {xs : List α} {ys : List β} {i : Nat}, Paired R xs ys → i < xs.length → ∃ x y, xs[i]? = some x ∧ ys[i]? = some y ∧ R x y
  | _, _, 0, .cons h _, _ => ⟨_, _, rfl, rfl, h⟩
  | _, _, i + 1, .cons _ r, l => pw_both (i := i) r (by rw [List.length_cons] at l; omega)
theorem pw_join {α β : Type} {R : α → β → Prop} {S : β → β → Prop} (h : ∀ d v w, R d v → R d w → S v w) : ∀ {ds : List α} {xs ys : List β}, Paired R ds xs → Paired R ds ys → Paired S xs ys
  | _, _, _, .nil, .nil => .nil
  | _, _, _, .cons a r, .cons b q => .cons (h _ _ _ a b) (pw_join h r q)
theorem alk_of {K : PySem.W.Frag} {H : Hp} : ∀ {n : Nat} {d : D} {v w : V}, DAt H n d v → DAt H n d w → Alk K H n v w
  | 0, d, v, w, ⟨h1, h2⟩, ⟨h3, h4⟩ => by
    rw [h1] at h3
    injection h3 with e
    exact ⟨e, h2⟩
  | n + 1, d, v, w, h, q => by
    rcases h with ⟨h1, h2⟩ | ⟨a, ds, xs, h1, h2, h3, _, h5, h6⟩ | ⟨a, ds, xs, h1, h2, h3, h5, h6⟩
    · rcases q with ⟨q1, q2⟩ | ⟨b, es, ys, q1, q2, q3, _, q5, q6⟩ | ⟨b, es, ys, q1, q2, q3, q5, q6⟩
      · rw [h1] at q1
        injection q1 with e
        exact .inl ⟨e, h2⟩
      · rw [h1] at q2; cases q2
      · rw [h1] at q2; cases q2
    · rcases q with ⟨q1, q2⟩ | ⟨b, es, ys, q1, q2, q3, _, q5, q6⟩ | ⟨b, es, ys, q1, q2, q3, q5, q6⟩
      · rw [h2] at q1; cases q1
      · rw [h2] at q2
        injection q2 with e
        subst e
        exact .inr ⟨a, b, xs, ys, h1, q1, .inl ⟨SqT.of h3, SqT.of q3⟩, by rw [← pw_len h6]; exact h5, pw_join (R := DAt H n) (S := Alk K H n) (fun _ _ _ x y => alk_of x y) h6 q6⟩
      · rw [h2] at q2; cases q2
    · rcases q with ⟨q1, q2⟩ | ⟨b, es, ys, q1, q2, q3, _, q5, q6⟩ | ⟨b, es, ys, q1, q2, q3, q5, q6⟩
      · rw [h2] at q1; cases q1
      · rw [h2] at q2; cases q2
      · rw [h2] at q2
        injection q2 with e
        subst e
        exact .inr ⟨a, b, xs, ys, h1, q1, .inr ⟨SqL.of h3, SqL.of q3⟩, by rw [← pw_len h6]; exact h5, pw_join (R := DAt H n) (S := Alk K H n) (fun _ _ _ x y => alk_of x y) h6 q6⟩
section
variable {P : Program} {w : World} {K : PySem.W.Frag} {mg : Str → Option Value} {base : Heap}
theorem scAl : FnScope ["_law_found", "_law_due", "_law_k"] ["_law_found", "_law_due"] (defScope sAlike) := ⟨rfl, rfl, rfl, by decide +kernel, rfl, by decide +kernel, by decide +kernel⟩
theorem ok_alk {n j : Nat} {f : Addr} {fd : FuncData} (F : Fun K "_law_alike" "_law_alike" sAlike f fd) (T : Txt mg) (Calike : ∀ m, n = m + 1 → Cal P w K mg base j "_law_alike" ["_law_found", "_law_due"] (spAlk K m) f fd) : FnOk P w K mg base CX0 (j + 1) f fd ["_law_found", "_law_due"] (spAlk K n) := by
  have kI : PySem.W.kitOne K (.type "int") (.type "int") = some true := by unfold PySem.W.kitOne; rw [if_pos (by decide)]
  have kS : PySem.W.kitOne K (.type "str") (.type "str") = some true := by unfold PySem.W.kitOne; rw [if_pos (by decide)]
  have kT : PySem.W.kitOne K (.type "tuple") (.type "tuple") = some true := by unfold PySem.W.kitOne; rw [if_pos (by decide)]
  have kL : PySem.W.kitOne K (.type "list") (.type "list") = some true := by unfold PySem.W.kitOne; rw [if_pos (by decide)]
  have kIb : PySem.W.kitOne K (.type "int") (.type "bool") = some false := by first | rfl | decide +kernel
  have kSb : PySem.W.kitOne K (.type "str") (.type "bool") = some false := by first | rfl | decide +kernel
  have kSi : PySem.W.kitOne K (.type "str") (.type "int") = some false := by first | rfl | decide +kernel
  have kTb : PySem.W.kitOne K (.type "tuple") (.type "bool") = some false := by first | rfl | decide +kernel
  have kTi : PySem.W.kitOne K (.type "tuple") (.type "int") = some false := by first | rfl | decide +kernel
  have kTs : PySem.W.kitOne K (.type "tuple") (.type "str") = some false := by first | rfl | decide +kernel
  have kTl : PySem.W.kitOne K (.type "tuple") (.type "list") = some false := by first | rfl | decide +kernel
  have kLb : PySem.W.kitOne K (.type "list") (.type "bool") = some false := by first | rfl | decide +kernel
  have kLi : PySem.W.kitOne K (.type "list") (.type "int") = some false := by first | rfl | decide +kernel
  have kLs : PySem.W.kitOne K (.type "list") (.type "str") = some false := by first | rfl | decide +kernel
  have kLt : PySem.W.kitOne K (.type "list") (.type "tuple") = some false := by first | rfl | decide +kernel
  refine F.ok scAl (fun vs H Q E h => ?_) (fun cdv A outer s H vs Q E hr h => ?_)
  · obtain ⟨v, w, rfl, _⟩ := h
    rfl
  · obtain ⟨v, w', rfl, al, k⟩ := h
    have hr1 : Room j _ := hr
    have leafCase : (v = w' ∧ leaf v = true) → ∃ t, PSs (cxOf CX0 P w K mg base ["_law_found", "_law_due", "_law_k"] "_law_alike" (defScope sAlike) f cdv A outer s H E).nox (defBody sAlike) t ∧ t { nx := fun _ H' => Q .non H', rt := Q } (L2.start ["_law_found", "_law_due", "_law_k"] [v, w']) H := by
      rintro ⟨rfl, hl⟩
      refine ⟨_, (pss_cons (ps_if (pt_cmpR op_isN (pv 1) pe_non (nomark _)) (pss_one (ps_ret (pe_cmpR op_isN (pv 0) pe_non (nomark _)))) pss_nil)
        (pss_cons (ps_if (pt_val (pe_callB (RK.isi (K := K)) (by rfl) T.isinstance (by decide +kernel) (pa_cons (pv 1) (pa_cons (pe_bltn (v := .ty "bool") (u := .type "bool") (by rfl) T.bool (by decide +kernel) rfl) pa_nil)))) (pss_one (ps_ret (pe_and (pe_callB (RK.isi (K := K)) (by rfl) T.isinstance (by decide +kernel) (pa_cons (pv 0) (pa_cons (pe_bltn (v := .ty "bool") (u := .type "bool") (by rfl) T.bool (by decide +kernel) rfl) pa_nil))) (pe_one (pe_cmpR op_eq (pv 0) (pv 1) (nomark _)))))) pss_nil)
        (pss_cons (ps_if (pt_val (pe_callB (RK.isi (K := K)) (by rfl) T.isinstance (by decide +kernel) (pa_cons (pv 1) (pa_cons (pe_bltn (v := .ty "int") (u := .type "int") (by rfl) T.int (by decide +kernel) rfl) pa_nil)))) (pss_one (ps_ret (pe_and (pe_callB (RK.isi (K := K)) (by rfl) T.isinstance (by decide +kernel) (pa_cons (pv 0) (pa_cons (pe_bltn (v := .ty "int") (u := .type "int") (by rfl) T.int (by decide +kernel) rfl) pa_nil))) (pe_and (pe_not (pe_callB (RK.isi (K := K)) (by rfl) T.isinstance (by decide +kernel) (pa_cons (pv 0) (pa_cons (pe_bltn (v := .ty "bool") (u := .type "bool") (by rfl) T.bool (by decide +kernel) rfl) pa_nil)))) (pe_one (pe_cmpR op_eq (pv 0) (pv 1) (nomark _))))))) pss_nil)
        (pss_cons (ps_if (pt_val (pe_callB (RK.isi (K := K)) (by rfl) T.isinstance (by decide +kernel) (pa_cons (pv 1) (pa_cons (pe_bltn (v := .ty "str") (u := .type "str") (by rfl) T.str (by decide +kernel) rfl) pa_nil)))) (pss_one (ps_ret (pe_and (pe_callB (RK.isi (K := K)) (by rfl) T.isinstance (by decide +kernel) (pa_cons (pv 0) (pa_cons (pe_bltn (v := .ty "str") (u := .type "str") (by rfl) T.str (by decide +kernel) rfl) pa_nil))) (pe_one (pe_cmpR op_eq (pv 0) (pv 1) (nomark _)))))) pss_nil)
        (pss_cons ps_never (pss_cons ps_never (pss_cons ps_never (pss_one ps_never)))))))), ?_⟩
      cases v with
      | non => exact sif ⟨_, rfl, rfl, _, rfl, iteT ⟨_, rfl, rfl, k⟩⟩
      | int i =>
        refine sif ⟨_, rfl, rfl, _, rfl, iteF ?_⟩
        dsimp only [tNext]
        refine sif ⟨_, rfl, _, _, _, _, false, rfl, .ty "bool", .base (.int i), kIb, _, rfl, iteF ?_⟩
        dsimp only [tNext]
        refine sif ⟨_, rfl, _, _, _, _, true, rfl, .ty "int", .base (.int i), kI, _, rfl, iteT ?_⟩
        refine ⟨_, rfl, _, _, _, _, true, rfl, .ty "int", .base (.int i), kI, _, rfl, iteT ?_⟩
        refine ⟨_, rfl, _, _, _, _, false, rfl, .ty "bool", .base (.int i), kIb, _, rfl, _, rfl, iteT ?_⟩
        refine ⟨_, rfl, _, rfl, rfl, ?_⟩
        rw [decide_eq_true rfl]
        exact k
      | str x =>
        refine sif ⟨_, rfl, rfl, _, rfl, iteF ?_⟩
        dsimp only [tNext]
        refine sif ⟨_, rfl, _, _, _, _, false, rfl, .ty "bool", .base (.str x), kSb, _, rfl, iteF ?_⟩
        dsimp only [tNext]
        refine sif ⟨_, rfl, _, _, _, _, false, rfl, .ty "int", .base (.str x), kSi, _, rfl, iteF ?_⟩
        dsimp only [tNext]
        refine sif ⟨_, rfl, _, _, _, _, true, rfl, .ty "str", .base (.str x), kS, _, rfl, iteT ?_⟩
        refine ⟨_, rfl, _, _, _, _, true, rfl, .ty "str", .base (.str x), kS, _, rfl, iteT ?_⟩
        refine ⟨_, rfl, _, rfl, rfl, ?_⟩
        rw [decide_eq_true rfl]
        exact k
      | _ => cases hl
    cases n with
    | zero => exact leafCase al
    | succ m =>
      rcases al with al | ⟨a, b, xs, ys, rfl, rfl, kind, few, pw⟩
      · exact leafCase al
      have Ca := Calike m rfl
      have len := pw_len pw
      rcases kind with ⟨hx, hy⟩ | ⟨hx, hy⟩
      · refine ⟨_, (pss_cons (ps_if (pt_cmpR op_isN (pv 1) pe_non (nomark _)) (pss_one (ps_ret (pe_cmpR op_isN (pv 0) pe_non (nomark _)))) pss_nil)
          (pss_cons (ps_if (pt_val (pe_callB (RK.isi (K := K)) (by rfl) T.isinstance (by decide +kernel) (pa_cons (pv 1) (pa_cons (pe_bltn (v := .ty "bool") (u := .type "bool") (by rfl) T.bool (by decide +kernel) rfl) pa_nil)))) (pss_one (ps_ret (pe_and (pe_callB (RK.isi (K := K)) (by rfl) T.isinstance (by decide +kernel) (pa_cons (pv 0) (pa_cons (pe_bltn (v := .ty "bool") (u := .type "bool") (by rfl) T.bool (by decide +kernel) rfl) pa_nil))) (pe_one (pe_cmpR op_eq (pv 0) (pv 1) (nomark _)))))) pss_nil)
          (pss_cons (ps_if (pt_val (pe_callB (RK.isi (K := K)) (by rfl) T.isinstance (by decide +kernel) (pa_cons (pv 1) (pa_cons (pe_bltn (v := .ty "int") (u := .type "int") (by rfl) T.int (by decide +kernel) rfl) pa_nil)))) (pss_one (ps_ret (pe_and (pe_callB (RK.isi (K := K)) (by rfl) T.isinstance (by decide +kernel) (pa_cons (pv 0) (pa_cons (pe_bltn (v := .ty "int") (u := .type "int") (by rfl) T.int (by decide +kernel) rfl) pa_nil))) (pe_and (pe_not (pe_callB (RK.isi (K := K)) (by rfl) T.isinstance (by decide +kernel) (pa_cons (pv 0) (pa_cons (pe_bltn (v := .ty "bool") (u := .type "bool") (by rfl) T.bool (by decide +kernel) rfl) pa_nil)))) (pe_one (pe_cmpR op_eq (pv 0) (pv 1) (nomark _))))))) pss_nil)
          (pss_cons (ps_if (pt_val (pe_callB (RK.isi (K := K)) (by rfl) T.isinstance (by decide +kernel) (pa_cons (pv 1) (pa_cons (pe_bltn (v := .ty "str") (u := .type "str") (by rfl) T.str (by decide +kernel) rfl) pa_nil)))) (pss_one (ps_ret (pe_and (pe_callB (RK.isi (K := K)) (by rfl) T.isinstance (by decide +kernel) (pa_cons (pv 0) (pa_cons (pe_bltn (v := .ty "str") (u := .type "str") (by rfl) T.str (by decide +kernel) rfl) pa_nil))) (pe_one (pe_cmpR op_eq (pv 0) (pv 1) (nomark _)))))) pss_nil)
          (pss_cons (ps_if (PW.pt (pw_or (pt_cmpR op_ne (pe_callB (RK.isi (K := K)) (by rfl) T.isinstance (by decide +kernel) (pa_cons (pv 1) (pa_cons (pe_bltn (v := .ty "tuple") (u := .type "tuple") (by rfl) T.tuple (by decide +kernel) rfl) pa_nil))) (pe_callB (RK.isi (K := K)) (by rfl) T.isinstance (by decide +kernel) (pa_cons (pv 0) (pa_cons (pe_bltn (v := .ty "tuple") (u := .type "tuple") (by rfl) T.tuple (by decide +kernel) rfl) pa_nil))) (nomark _)) (pw_or1 (pt_cmpR op_ne (pe_callB (RK.isi (K := K)) (by rfl) T.isinstance (by decide +kernel) (pa_cons (pv 1) (pa_cons (pe_bltn (v := .ty "list") (u := .type "list") (by rfl) T.list (by decide +kernel) rfl) pa_nil))) (pe_callB (RK.isi (K := K)) (by rfl) T.isinstance (by decide +kernel) (pa_cons (pv 0) (pa_cons (pe_bltn (v := .ty "list") (u := .type "list") (by rfl) T.list (by decide +kernel) rfl) pa_nil))) (nomark _))))) (pss_one (ps_ret pe_bl)) pss_nil)
          (pss_cons (ps_if (pt_cmpR op_ne (pe_callB (RK.lenQ (K := K)) (by rfl) T.len PySem.boot_len (pa_cons (pv 0) pa_nil)) (pe_callB (RK.lenQ (K := K)) (by rfl) T.len PySem.boot_len (pa_cons (pv 1) pa_nil)) (nomark _)) (pss_one (ps_ret pe_bl)) pss_nil)
          (pss_cons (ps_for PassesOwn.never rfl (pi_range1 rfl T.range (pa_cons (pe_callB (RK.lenQ (K := K)) (by rfl) T.len PySem.boot_len (pa_cons (pv 1) pa_nil)) pa_nil)) (pg_name (i := 2) scAl.nd rfl (Or.inl rfl))
            (pss_one (ps_if (pt_not (pt_val (pe_call Ca.G hr1 (by rfl) Ca.g Ca.kp Ca.b .nil pass0 (pa_cons (pe_ix (RK.ixQ (K := K)) (pv 0) (pv 2) (fun _ _ => rfl)) (pa_cons (pe_ix (RK.ixQ (K := K)) (pv 1) (pv 2) (fun _ _ => rfl)) pa_nil))))) (pss_one (ps_ret pe_bl)) pss_nil)))
          (pss_one (ps_ret pe_bl))))))))), ?_⟩
        refine sif ⟨_, rfl, rfl, _, rfl, iteF ?_⟩
        dsimp only [tNext]
        refine sif ⟨_, rfl, _, _, _, _, false, rfl, .ty "bool", tyT hy, kTb, _, rfl, iteF ?_⟩
        dsimp only [tNext]
        refine sif ⟨_, rfl, _, _, _, _, false, rfl, .ty "int", tyT hy, kTi, _, rfl, iteF ?_⟩
        dsimp only [tNext]
        refine sif ⟨_, rfl, _, _, _, _, false, rfl, .ty "str", tyT hy, kTs, _, rfl, iteF ?_⟩
        dsimp only [tNext]
        refine sif ⟨_, rfl, _, _, _, _, true, rfl, .ty "tuple", tyT hy, kT, _, rfl, _, _, _, _, true, rfl, .ty "tuple", tyT hx, kT, rfl, _, rfl, iteF ?_⟩
        refine ⟨_, rfl, _, _, _, _, false, rfl, .ty "list", tyT hy, kTl, _, rfl, _, _, _, _, false, rfl, .ty "list", tyT hx, kTl, rfl, _, rfl, iteF ?_⟩
        dsimp only [tNext]
        refine sif ⟨_, rfl, a, xs, rfl, .inr hx, _, rfl, b, ys, rfl, .inr hy, rfl, _, rfl, ?_⟩
        rw [len, show (!decide (V.int (ys.length : Nat) = V.int (ys.length : Nat))) = false by simp]
        refine iteF ?_
        dsimp only [tNext]
        refine ⟨_, rfl, b, ys, rfl, .inr hy, _, rfl, ?_, ?_, for_range (lo := 0) (n := ((ys.length : Nat) : Int).toNat) (fun i σ H' => H' = H ∧ ∃ v2, σ = [some (.ref a), some (.ref b), v2]) ⟨rfl, none, rfl⟩ ?_ ?_⟩
        · omega
        · omega
        · rintro i σ H' hi ⟨rfl, v2, rfl⟩
          have li : i < xs.length := by have hi : i < ys.length := hi; omega
          obtain ⟨x, y, ex, ey, al⟩ := pw_both pw li
          have z0 : (0 : Int) + ((i : Nat) : Int) = ((i : Nat) : Int) := by omega
          refine gn ?_
          refine ⟨_, rfl, _, rfl, .inr (.inl ⟨a, xs, _, x, rfl, rfl, hx, by rw [z0]; exact atI_nat ex, _, rfl, _, rfl, .inr (.inl ⟨b, ys, _, y, rfl, rfl, hy, by rw [z0]; exact atI_nat ey, x, y, rfl, al, _, rfl, iteF ⟨rfl, _, rfl⟩⟩)⟩)⟩
        · rintro σ H' ⟨rfl, v2, rfl⟩
          exact k
      · refine ⟨_, (pss_cons (ps_if (pt_cmpR op_isN (pv 1) pe_non (nomark _)) (pss_one (ps_ret (pe_cmpR op_isN (pv 0) pe_non (nomark _)))) pss_nil)
          (pss_cons (ps_if (pt_val (pe_callB (RK.isi (K := K)) (by rfl) T.isinstance (by decide +kernel) (pa_cons (pv 1) (pa_cons (pe_bltn (v := .ty "bool") (u := .type "bool") (by rfl) T.bool (by decide +kernel) rfl) pa_nil)))) (pss_one (ps_ret (pe_and (pe_callB (RK.isi (K := K)) (by rfl) T.isinstance (by decide +kernel) (pa_cons (pv 0) (pa_cons (pe_bltn (v := .ty "bool") (u := .type "bool") (by rfl) T.bool (by decide +kernel) rfl) pa_nil))) (pe_one (pe_cmpR op_eq (pv 0) (pv 1) (nomark _)))))) pss_nil)
          (pss_cons (ps_if (pt_val (pe_callB (RK.isi (K := K)) (by rfl) T.isinstance (by decide +kernel) (pa_cons (pv 1) (pa_cons (pe_bltn (v := .ty "int") (u := .type "int") (by rfl) T.int (by decide +kernel) rfl) pa_nil)))) (pss_one (ps_ret (pe_and (pe_callB (RK.isi (K := K)) (by rfl) T.isinstance (by decide +kernel) (pa_cons (pv 0) (pa_cons (pe_bltn (v := .ty "int") (u := .type "int") (by rfl) T.int (by decide +kernel) rfl) pa_nil))) (pe_and (pe_not (pe_callB (RK.isi (K := K)) (by rfl) T.isinstance (by decide +kernel) (pa_cons (pv 0) (pa_cons (pe_bltn (v := .ty "bool") (u := .type "bool") (by rfl) T.bool (by decide +kernel) rfl) pa_nil)))) (pe_one (pe_cmpR op_eq (pv 0) (pv 1) (nomark _))))))) pss_nil)
          (pss_cons (ps_if (pt_val (pe_callB (RK.isi (K := K)) (by rfl) T.isinstance (by decide +kernel) (pa_cons (pv 1) (pa_cons (pe_bltn (v := .ty "str") (u := .type "str") (by rfl) T.str (by decide +kernel) rfl) pa_nil)))) (pss_one (ps_ret (pe_and (pe_callB (RK.isi (K := K)) (by rfl) T.isinstance (by decide +kernel) (pa_cons (pv 0) (pa_cons (pe_bltn (v := .ty "str") (u := .type "str") (by rfl) T.str (by decide +kernel) rfl) pa_nil))) (pe_one (pe_cmpR op_eq (pv 0) (pv 1) (nomark _)))))) pss_nil)
          (pss_cons (ps_if (PW.pt (pw_or (pt_cmpR op_ne (pe_callB (RK.isi (K := K)) (by rfl) T.isinstance (by decide +kernel) (pa_cons (pv 1) (pa_cons (pe_bltn (v := .ty "tuple") (u := .type "tuple") (by rfl) T.tuple (by decide +kernel) rfl) pa_nil))) (pe_callB (RK.isi (K := K)) (by rfl) T.isinstance (by decide +kernel) (pa_cons (pv 0) (pa_cons (pe_bltn (v := .ty "tuple") (u := .type "tuple") (by rfl) T.tuple (by decide +kernel) rfl) pa_nil))) (nomark _)) (pw_or1 (pt_cmpR op_ne (pe_callB (RK.isi (K := K)) (by rfl) T.isinstance (by decide +kernel) (pa_cons (pv 1) (pa_cons (pe_bltn (v := .ty "list") (u := .type "list") (by rfl) T.list (by decide +kernel) rfl) pa_nil))) (pe_callB (RK.isi (K := K)) (by rfl) T.isinstance (by decide +kernel) (pa_cons (pv 0) (pa_cons (pe_bltn (v := .ty "list") (u := .type "list") (by rfl) T.list (by decide +kernel) rfl) pa_nil))) (nomark _))))) (pss_one (ps_ret pe_bl)) pss_nil)
          (pss_cons (ps_if (pt_cmpR op_ne (pe_callB (RK.lenQ (K := K)) (by rfl) T.len PySem.boot_len (pa_cons (pv 0) pa_nil)) (pe_callB (RK.lenQ (K := K)) (by rfl) T.len PySem.boot_len (pa_cons (pv 1) pa_nil)) (nomark _)) (pss_one (ps_ret pe_bl)) pss_nil)
          (pss_cons (ps_for PassesOwn.never rfl (pi_range1 rfl T.range (pa_cons (pe_callB (RK.lenQ (K := K)) (by rfl) T.len PySem.boot_len (pa_cons (pv 1) pa_nil)) pa_nil)) (pg_name (i := 2) scAl.nd rfl (Or.inl rfl))
            (pss_one (ps_if (pt_not (pt_val (pe_call Ca.G hr1 (by rfl) Ca.g Ca.kp Ca.b .nil pass0 (pa_cons (pe_ix (RK.ixQ (K := K)) (pv 0) (pv 2) (fun _ _ => rfl)) (pa_cons (pe_ix (RK.ixQ (K := K)) (pv 1) (pv 2) (fun _ _ => rfl)) pa_nil))))) (pss_one (ps_ret pe_bl)) pss_nil)))
          (pss_one (ps_ret pe_bl))))))))), ?_⟩
        refine sif ⟨_, rfl, rfl, _, rfl, iteF ?_⟩
        dsimp only [tNext]
        refine sif ⟨_, rfl, _, _, _, _, false, rfl, .ty "bool", tyL hy, kLb, _, rfl, iteF ?_⟩
        dsimp only [tNext]
        refine sif ⟨_, rfl, _, _, _, _, false, rfl, .ty "int", tyL hy, kLi, _, rfl, iteF ?_⟩
        dsimp only [tNext]
        refine sif ⟨_, rfl, _, _, _, _, false, rfl, .ty "str", tyL hy, kLs, _, rfl, iteF ?_⟩
        dsimp only [tNext]
        refine sif ⟨_, rfl, _, _, _, _, false, rfl, .ty "tuple", tyL hy, kLt, _, rfl, _, _, _, _, false, rfl, .ty "tuple", tyL hx, kLt, rfl, _, rfl, iteF ?_⟩
        refine ⟨_, rfl, _, _, _, _, true, rfl, .ty "list", tyL hy, kL, _, rfl, _, _, _, _, true, rfl, .ty "list", tyL hx, kL, rfl, _, rfl, iteF ?_⟩
        dsimp only [tNext]
        refine sif ⟨_, rfl, a, xs, rfl, .inl hx, _, rfl, b, ys, rfl, .inl hy, rfl, _, rfl, ?_⟩
        rw [len, show (!decide (V.int (ys.length : Nat) = V.int (ys.length : Nat))) = false by simp]
        refine iteF ?_
        dsimp only [tNext]
        refine ⟨_, rfl, b, ys, rfl, .inl hy, _, rfl, ?_, ?_, for_range (lo := 0) (n := ((ys.length : Nat) : Int).toNat) (fun i σ H' => H' = H ∧ ∃ v2, σ = [some (.ref a), some (.ref b), v2]) ⟨rfl, none, rfl⟩ ?_ ?_⟩
        · omega
        · omega
        · rintro i σ H' hi ⟨rfl, v2, rfl⟩
          have li : i < xs.length := by have hi : i < ys.length := hi; omega
          obtain ⟨x, y, ex, ey, al⟩ := pw_both pw li
          have z0 : (0 : Int) + ((i : Nat) : Int) = ((i : Nat) : Int) := by omega
          refine gn ?_
          refine ⟨_, rfl, _, rfl, .inl ⟨a, xs, _, x, rfl, rfl, hx, by rw [z0]; exact atI_nat ex, _, rfl, _, rfl, .inl ⟨b, ys, _, y, rfl, rfl, hy, by rw [z0]; exact atI_nat ey, x, y, rfl, al, _, rfl, iteF ⟨rfl, _, rfl⟩⟩⟩⟩
        · rintro σ H' ⟨rfl, v2, rfl⟩
          exact k
end
end G38

set_option linter.all false
set_option maxHeartbeats 4000000
namespace TH
open PySem PySem.Spec PyProof.Rows L2
section
variable {X : Cx}
def rIsG (K : PySem.W.Frag) (a : Addr) (cls : Value) (d : Option Addr) : List V → Hp → VK → Prop := fun xs H Q => ∃ (D : Addr) (c : V) (cv : Value) (b : Bool), cls = .ref D ∧ d = none ∧ ExcC K D ∧ xs = [.ref a, c] ∧ (∀ u, RelV c u → u = cv) ∧ PySem.W.kitOne K (.ref D) cv = some b ∧ Q (.bl b) H
/-- isinstance(e, c) in a suite, whatever was caught -/
theorem call_isG {a : Addr} {oe : Obj} {cls : Value} {d : Option Addr} {pn : List (Addr × Obj)} (hz : Zc cls d oe) (hf : ∃ vs, oe.data = .fields vs) {K : PySem.W.Frag} (h : X.K = K := by rfl) : CallR (X.suite a ((a, oe) :: pn)) (.builtin "isinstance") (rIsG K a cls d) := by
  subst h
  intro pins s σ H xs us Q I r h
  obtain ⟨D, c, cv, b, rfl, rfl, C, e1, e2, e3, q⟩ := h
  exact call_isE C hz hf pins s σ H xs us Q I r ⟨c, cv, b, e1, e2, e3, q⟩
theorem upd_none1 {H : Hp} {a b : Addr} {o : HO} (e : upd H a o b = none) : H b = none := by
  unfold upd at e
  split at e
  · cases e
  · exact e
theorem countP_eq {y : V} : ∀ {ys : List V} {its : List Value}, Vals ys its → ys.all flatV = true → its.countP (eqU y) = ys.countP fun z => eqV z y
  | _, _, .nil, _ => rfl
  | z :: ys, u :: its, .cons r t, f => by
    rw [List.all_cons, Bool.and_eq_true] at f
    rw [List.countP_cons, List.countP_cons, countP_eq t f.2, eqU_of r f.1]
def rCntF (K : PySem.W.Frag) : V → List V → Hp → VK → Prop := fun x xs H Q => ∃ (a : Addr) (ys : List V) (y : V), x = V.ref a ∧ xs = [y] ∧ SqL K H a ys ∧ flatV y = true ∧ ys.all flatV = true ∧ Q (.int ((ys.countP fun z => eqV z y) : Nat)) H
theorem mt_countF {K : PySem.W.Frag} (h : X.K = K := by rfl) : MtR X "list.count" (rCntF K) := by
  subst h
  intro pins s σ H x xs v us Q I rx rxs h
  obtain ⟨a, ys, y, rfl, rfl, hs, fy, fys, q⟩ := h
  cases rx
  cases rxs with
  | cons ry rt =>
    rename_i uy ut
    cases rt
    obtain ⟨its, rv, ⟨⟨cls, dd, data, sl⟩, n, ho, hc, hdn, hd⟩, hlen⟩ := I.list hs
    simp only at hc hd
    subst hc hd
    refine call_meets PySem.F.slot_list_count ⟨_, ho, rfl⟩ PySem.F.entry_list_count (PySem.F.args_list_count_2 _ _)
      (SeqAt.list_countAt a its.toArray n dd sl uy (eqU y)) ⟨ho, fun u' hu' => mem_eqAt ry fy rv fys u' (by simpa using hu'), ?_⟩
    refine ⟨.int ((ys.countP fun z => eqV z y) : Nat), H, I.tok _, ⟨s.toks, ?_⟩, q⟩
    show Value.int ((its.toArray.toList.countP (eqU y) : Nat) : Int) s.toks = _
    rw [← countP_eq rv fys]
end
end TH
namespace G38
open PySem L2 HX
structure TxtE (K : PySem.W.Frag) (mg : Str → Option Value) (CS c1 c2 c3 c4 c5 c6 c7 c8 c9 : Addr) : Prop extends Txt mg where
  g1 : mg "BadName" = some (.ref c1)
  g2 : mg "BadNumber" = some (.ref c2)
  g3 : mg "BadPlan" = some (.ref c3)
  g4 : mg "BadRow" = some (.ref c4)
  g5 : mg "BadText" = some (.ref c5)
  g6 : mg "Gone" = some (.ref c6)
  g7 : mg "TooGreat" = some (.ref c7)
  g8 : mg "Twice" = some (.ref c8)
  g9 : mg "Within" = some (.ref c9)
  gS : mg "StoreError" = some (.ref CS)
  ve : mg "ValueError" = none
/-- D is the j-th of the kinds -/
structure IsErr (K : PySem.W.Frag) (CS c1 c2 c3 c4 c5 c6 c7 c8 c9 D : Addr) (j : Nat) : Prop where
  ex : ExcC K D
  st : PySem.W.exmOne K (.ref D) (.ref CS) = some true
  ve : PySem.W.kitOne K (.ref D) (.type "ValueError") = some true
  lt : j < 9
  k1 : PySem.W.kitOne K (.ref D) (.ref c1) = some (decide (j = 0))
  k2 : PySem.W.kitOne K (.ref D) (.ref c2) = some (decide (j = 1))
  k3 : PySem.W.kitOne K (.ref D) (.ref c3) = some (decide (j = 2))
  k4 : PySem.W.kitOne K (.ref D) (.ref c4) = some (decide (j = 3))
  k5 : PySem.W.kitOne K (.ref D) (.ref c5) = some (decide (j = 4))
  k6 : PySem.W.kitOne K (.ref D) (.ref c6) = some (decide (j = 5))
  k7 : PySem.W.kitOne K (.ref D) (.ref c7) = some (decide (j = 6))
  k8 : PySem.W.kitOne K (.ref D) (.ref c8) = some (decide (j = 7))
  k9 : PySem.W.kitOne K (.ref D) (.ref c9) = some (decide (j = 8))
def kinds : List Str := ["BadName", "BadNumber", "BadPlan", "BadRow", "BadText", "Gone", "TooGreat", "Twice", "Within"]
def bits (j : Nat) : List Bool := [decide (j = 0), decide (j = 1), decide (j = 2), decide (j = 3), decide (j = 4), decide (j = 5), decide (j = 6), decide (j = 7), decide (j = 8)]
theorem bits_count : ∀ j, j < 9 → (((bits j).map V.bl).countP fun z => eqV z (.bl true)) = 1 := by decide
theorem bits_at : ∀ j, j < 9 → ((bits j).map V.bl)[j]? = some (.bl true) ∧ ∀ m z, m < j → ((bits j).map V.bl)[m]? = some z → eqV z (.bl true) = false := by
  intro j h
  refine ⟨?_, fun m z hm hz => ?_⟩
  · revert j; decide
  · have a : ∀ j, j < 9 → ∀ m, m < j → ((bits j).map V.bl)[m]? = some (.bl false) := by decide
    rw [a j h m hm] at hz
    cases hz
    rfl
theorem kinds_at {j : Nat} (h : j < 9) : ∃ nm, kinds[j]? = some nm := ⟨kinds[j]'h, List.getElem?_eq_getElem h⟩
/-- told: what the work tells, or its error's name -/
def spTold (P : Program) (w : World) (K : PySem.W.Frag) (mg : Str → Option Value) (base : Heap) (k : Nat) (CS c1 c2 c3 c4 c5 c6 c7 c8 c9 : Addr) : Sp := fun vs H Q _ => ∃ f T Eb, vs = [.ref f] ∧ TH.Thunk P w K mg base k H f T ∧
  T H Q Eb ∧ ∀ cls d H1, Eb cls d H1 → ∃ D j nm, cls = .ref D ∧ d = none ∧ IsErr K CS c1 c2 c3 c4 c5 c6 c7 c8 c9 D j ∧ kinds[j]? = some nm ∧ ∀ p H', Same H1 H' → H1 p = none → H' p = some (.tup [.str nm, .int 0]) → Q (.ref p) H'
section
variable {P : Program} {w : World} {K : PySem.W.Frag} {mg : Str → Option Value} {base : Heap} {CS c1 c2 c3 c4 c5 c6 c7 c8 c9 : Addr}
theorem scTo : FnScope ["_law_work", "e", "_law_kinds", "_law_words"] ["_law_work"] (defScope sTold) := ⟨rfl, rfl, rfl, by decide +kernel, rfl, by decide +kernel, by decide +kernel⟩
theorem ok_told {k : Nat} {f : Addr} {fd : FuncData} (F : Fun K "_law_told" "_law_told" sTold f fd) (T : Txt mg) (TE : TxtE K mg CS c1 c2 c3 c4 c5 c6 c7 c8 c9) : FnOk P w K mg base CX0 (k + 1) f fd ["_law_work"] (spTold P w K mg base k CS c1 c2 c3 c4 c5 c6 c7 c8 c9) := by
  refine F.ok scTo (fun vs H Q E h => ?_) (fun cdv A outer s H vs Q E hr h => ?_)
  · obtain ⟨f, T, Eb, rfl, _⟩ := h
    rfl
  · obtain ⟨f', TT, Eb, rfl, th, q, hE⟩ := h
    have hr1 : Room k _ := hr
    refine ⟨_, pss_one (ps_try_as (i := 1) rfl rfl scTo.nd rfl rfl ⟨by rfl, by decide, .inl TE.gS⟩ takes0 (fun W pn xe tk _ => pss_one (ps_ret (TH.pe_thunkE (P := P) (w := w) (K := K) (mg := mg) (base := base) (i := 0) (k := k) tk hr1 rfl (.inl rfl))))
      (fun a oe cls d pn hz hf => pss_cons (ps_set (i := 2) scTo.nd rfl (Or.inl rfl) (pe_lst (pa_cons (pe_callB (TH.call_isG (K := K) hz hf) (by rfl) T.isinstance (by decide +kernel) (pa_cons (pv 1) (pa_cons (pe_glob (v := .ref c1) (by rfl) TE.g1 rfl) pa_nil))) (pa_cons (pe_callB (TH.call_isG (K := K) hz hf) (by rfl) T.isinstance (by decide +kernel) (pa_cons (pv 1) (pa_cons (pe_glob (v := .ref c2) (by rfl) TE.g2 rfl) pa_nil))) (pa_cons (pe_callB (TH.call_isG (K := K) hz hf) (by rfl) T.isinstance (by decide +kernel) (pa_cons (pv 1) (pa_cons (pe_glob (v := .ref c3) (by rfl) TE.g3 rfl) pa_nil))) (pa_cons (pe_callB (TH.call_isG (K := K) hz hf) (by rfl) T.isinstance (by decide +kernel) (pa_cons (pv 1) (pa_cons (pe_glob (v := .ref c4) (by rfl) TE.g4 rfl) pa_nil))) pa_nil))))))
        (pss_cons (ps_set (i := 2) scTo.nd rfl (Or.inl rfl) (pe_op op_cat (pv 2) (pe_lst (pa_cons (pe_callB (TH.call_isG (K := K) hz hf) (by rfl) T.isinstance (by decide +kernel) (pa_cons (pv 1) (pa_cons (pe_glob (v := .ref c5) (by rfl) TE.g5 rfl) pa_nil))) (pa_cons (pe_callB (TH.call_isG (K := K) hz hf) (by rfl) T.isinstance (by decide +kernel) (pa_cons (pv 1) (pa_cons (pe_glob (v := .ref c6) (by rfl) TE.g6 rfl) pa_nil))) (pa_cons (pe_callB (TH.call_isG (K := K) hz hf) (by rfl) T.isinstance (by decide +kernel) (pa_cons (pv 1) (pa_cons (pe_glob (v := .ref c7) (by rfl) TE.g7 rfl) pa_nil))) (pa_cons (pe_callB (TH.call_isG (K := K) hz hf) (by rfl) T.isinstance (by decide +kernel) (pa_cons (pv 1) (pa_cons (pe_glob (v := .ref c8) (by rfl) TE.g8 rfl) pa_nil))) pa_nil)))))))
        (pss_cons (ps_expr (RK.bm (K := K) PySem.F.plainAttrs_list PySem.F.slot_list_append PySem.F.type_list_append mt_append (pv 2) (pa_cons (pe_callB (TH.call_isG (K := K) hz hf) (by rfl) T.isinstance (by decide +kernel) (pa_cons (pv 1) (pa_cons (pe_glob (v := .ref c9) (by rfl) TE.g9 rfl) pa_nil))) pa_nil)))
        (pss_cons (ps_if (PW.pt (pw_or (pt_cmpR op_ne (RK.bm (K := K) PySem.F.plainAttrs_list PySem.F.slot_list_count PySem.F.type_list_count (TH.mt_countF (K := K)) (pv 2) (pa_cons pe_bl pa_nil)) pe_int (nomark _))
            (pw_or1 (pt_not (pt_val (pe_callB (TH.call_isG (K := K) hz hf) (by rfl) T.isinstance (by decide +kernel) (pa_cons (pv 1) (pa_cons (pe_bltn (v := .ty "ValueError") (u := .type "ValueError") (by rfl) TE.ve (by decide +kernel) rfl) pa_nil)))))))) (pss_one ps_never) pss_nil)
        (pss_cons (ps_set (i := 3) scTo.nd rfl (Or.inl rfl) (pe_lst (pa_cons pe_str (pa_cons pe_str (pa_cons pe_str (pa_cons pe_str (pa_cons pe_str (pa_cons pe_str (pa_cons pe_str (pa_cons pe_str (pa_cons pe_str pa_nil)))))))))))
        (pss_one (ps_ret (pe_tup (pa_cons (pe_ix (RK.ixL (K := K)) (pv 3) (RK.bm (K := K) PySem.F.plainAttrs_list PySem.F.slot_list_index PySem.F.type_list_index (RK.indexQ (K := K)) (pv 2) (pa_cons pe_bl pa_nil)) (fun _ _ => rfl)) (pa_cons pe_int pa_nil))))))))))), ?_⟩
    refine ⟨f', TT, Eb, rfl, th, q, fun cls d H1 he => ?_⟩
    obtain ⟨D, j, nm, rfl, rfl, er, hn, k1⟩ := hE cls d H1 he
    refine ⟨true, er.st, fun _ a ha => ?_, fun z => by cases z⟩
    have RV : ∀ {c : Addr} (u : Value), RelV (.ref c) u → u = .ref c := fun u r => r
    refine sa1 ?_
    refine ⟨_, rfl, D, .ref c1, .ref c1, decide (j = 0), rfl, rfl, er.ex, rfl, RV, er.k1, ⟨_, rfl, D, .ref c2, .ref c2, decide (j = 1), rfl, rfl, er.ex, rfl, RV, er.k2, ⟨_, rfl, D, .ref c3, .ref c3, decide (j = 2), rfl, rfl, er.ex, rfl, RV, er.k3, ⟨_, rfl, D, .ref c4, .ref c4, decide (j = 3), rfl, rfl, er.ex, rfl, RV, er.k4, (by show 4 ≤ sizeLine; decide), fun l1 n1 => ?_⟩⟩⟩⟩
    refine gn ?_
    refine sa1 ?_
    refine ⟨_, rfl, ⟨_, rfl, D, .ref c5, .ref c5, decide (j = 4), rfl, rfl, er.ex, rfl, RV, er.k5, ⟨_, rfl, D, .ref c6, .ref c6, decide (j = 5), rfl, rfl, er.ex, rfl, RV, er.k6, ⟨_, rfl, D, .ref c7, .ref c7, decide (j = 6), rfl, rfl, er.ex, rfl, RV, er.k7, ⟨_, rfl, D, .ref c8, .ref c8, decide (j = 7), rfl, rfl, er.ex, rfl, RV, er.k8, (by show 4 ≤ sizeLine; decide), fun l2 n2 => ?_⟩⟩⟩⟩⟩
    have e1 : upd H1 l1 (.lst ([decide (j = 0), decide (j = 1), decide (j = 2), decide (j = 3)].map V.bl)) l1 = some _ := upd_same
    refine ⟨l1, l2, _, _, rfl, rfl, (by rw [upd_ne (ne_of_none e1 n2)]; exact e1), upd_same, (by show 8 ≤ sizeLine; decide), fun l3 n3 => ?_⟩
    refine gn ?_
    refine sq1 ?_
    refine ⟨_, rfl, .inl ⟨rfl, _, SqL.of upd_same⟩, ⟨_, rfl, D, .ref c9, .ref c9, decide (j = 8), rfl, rfl, er.ex, rfl, RV, er.k9, ?_⟩⟩
    refine ⟨l3, _, _, rfl, rfl, upd_same, (by show 8 < sizeLine; decide), ?_⟩
    rw [upd_upd]
    have eb : ([V.bl (decide (j = 0)), V.bl (decide (j = 1)), V.bl (decide (j = 2)), V.bl (decide (j = 3))] ++ [V.bl (decide (j = 4)), V.bl (decide (j = 5)), V.bl (decide (j = 6)), V.bl (decide (j = 7))] ++ [V.bl (decide (j = 8))]) = (bits j).map V.bl := rfl
    have flat : ((bits j).map V.bl).all flatV = true := rfl
    have n3' := n3
    have n2' : H1 l2 = none := TH.upd_none1 n2
    have n3'' : H1 l3 = none := TH.upd_none1 (TH.upd_none1 n3)
    have sm : Same H1 (upd (upd (upd H1 l1 (.lst [V.bl (decide (j = 0)), V.bl (decide (j = 1)), V.bl (decide (j = 2)), V.bl (decide (j = 3))])) l2 (.lst [V.bl (decide (j = 4)), V.bl (decide (j = 5)), V.bl (decide (j = 6)), V.bl (decide (j = 7))])) l3 (.lst ((bits j).map V.bl))) := fun b o e => by
      rw [upd_ne (ne_of_none e n3''), upd_ne (ne_of_none e n2'), upd_ne (ne_of_none e n1)]
      exact e
    show tSeq (tIfS _ _ _) _ _ _ (upd (upd (upd H1 l1 (.lst [V.bl (decide (j = 0)), V.bl (decide (j = 1)), V.bl (decide (j = 2)), V.bl (decide (j = 3))])) l2 (.lst [V.bl (decide (j = 4)), V.bl (decide (j = 5)), V.bl (decide (j = 6)), V.bl (decide (j = 7))])) l3 (.lst ((bits j).map V.bl)))
    have e3 : (upd (upd (upd H1 l1 (.lst [V.bl (decide (j = 0)), V.bl (decide (j = 1)), V.bl (decide (j = 2)), V.bl (decide (j = 3))])) l2 (.lst [V.bl (decide (j = 4)), V.bl (decide (j = 5)), V.bl (decide (j = 6)), V.bl (decide (j = 7))])) l3 (.lst ((bits j).map V.bl))) l3 = some (.lst ((bits j).map V.bl)) := upd_same
    generalize (upd (upd (upd H1 l1 (.lst [V.bl (decide (j = 0)), V.bl (decide (j = 1)), V.bl (decide (j = 2)), V.bl (decide (j = 3))])) l2 (.lst [V.bl (decide (j = 4)), V.bl (decide (j = 5)), V.bl (decide (j = 6)), V.bl (decide (j = 7))])) l3 (.lst ((bits j).map V.bl))) = H2 at sm e3 ⊢
    obtain ⟨at1, at2⟩ := bits_at j er.lt
    refine sif ⟨_, rfl, .inl ⟨rfl, _, SqL.of e3⟩, l3, _, _, rfl, rfl, SqL.of e3, rfl, flat, ?_⟩
    rw [bits_count j er.lt]
    refine ⟨rfl, _, rfl, iteF ?_⟩
    refine ⟨_, rfl, D, .ty "ValueError", .type "ValueError", true, rfl, rfl, er.ex, rfl, fun u r => r, er.ve, _, rfl, ?_⟩
    refine iteF ?_
    dsimp only [tNext]
    refine sa1 ⟨(by show 9 ≤ sizeLine; decide), fun l4 n4 => ?_⟩
    refine gn ?_
    have s4 := same_new (o := .lst (kinds.map V.str)) n4
    have e4 : (upd H2 l4 (.lst (kinds.map V.str))) l4 = some (.lst (kinds.map V.str)) := upd_same
    have e5 := s4 _ _ e3
    have sm2 := sm.trans s4
    refine ⟨_, rfl, _, rfl, .inl ⟨rfl, _, SqL.of e5⟩, l3, _, .bl true, j, .bl true, rfl, rfl, SqL.of e5, rfl, flat, at1, rfl, at2, ?_⟩
    refine ⟨l4, kinds.map V.str, _, .str nm, rfl, rfl, SqL.of e4, atI_nat (by rw [List.getElem?_map, hn]; rfl), (by show 2 ≤ sizeLine; decide), fun p np => ?_⟩
    exact k1 p _ (sm2.trans (same_new np)) (none_of_same sm2 np) upd_same
end
end G38

set_option linter.all false
set_option maxHeartbeats 4000000
namespace G38
open PySem L2 HX
/-- each work tells what is alike due, and changes nothing that stood -/
def Tells (P : Program) (w : World) (K : PySem.W.Frag) (mg : Str → Option Value) (base : Heap) (k n : Nat) (CS c1 c2 c3 c4 c5 c6 c7 c8 c9 : Addr) (H : Hp) (v : V) (f : Addr) : Prop := ∃ T, TH.Thunk P w K mg base k H f T ∧ ∀ H', Same H H' → ∀ Q : VK, (∀ v' H2, Same H' H2 → Alk K H2 n v' v → Q v' H2) → ∃ Eb, T H' Q Eb ∧
  ∀ cls d H2, Eb cls d H2 → ∃ D j nm, cls = .ref D ∧ d = none ∧ IsErr K CS c1 c2 c3 c4 c5 c6 c7 c8 c9 D j ∧ kinds[j]? = some nm ∧ Same H' H2 ∧ ∀ p H3, Same H2 H3 → H3 p = some (.tup [.str nm, .int 0]) → Alk K H3 n (.ref p) v
def spAll (P : Program) (w : World) (K : PySem.W.Frag) (mg : Str → Option Value) (base : Heap) (k n : Nat) (CS c1 c2 c3 c4 c5 c6 c7 c8 c9 : Addr) : Sp := fun vs H Q _ => ∃ (l : Addr) (fs : List Addr) (v : V), vs = [.ref l, v] ∧ H l = some (.lst (fs.map V.ref)) ∧ fs.length ≤ 10 ∧
  (∀ f ∈ fs, Tells P w K mg base k n CS c1 c2 c3 c4 c5 c6 c7 c8 c9 H v f) ∧ ∀ H', Same H H' → Q (.bl true) H'
section
variable {P : Program} {w : World} {K : PySem.W.Frag} {mg : Str → Option Value} {base : Heap} {CS c1 c2 c3 c4 c5 c6 c7 c8 c9 : Addr}
theorem scAll : FnScope ["_law_works", "_law_due", "_law_work"] ["_law_works", "_law_due"] (defScope sAll) := ⟨rfl, rfl, rfl, by decide +kernel, rfl, by decide +kernel, by decide +kernel⟩
theorem same_keepC {H H' : Hp} (s : Same H H') : TH.KeepC H H' := .of fun b o e _ => s b o e
theorem te_tells {k n : Nat} {σ : L2.St} {H H' : Hp} {Q : VK} {g : Addr} {v : V} (h2 : σ[2]? = some (some (.ref g))) (h1 : σ[1]? = some (some v)) (tl : Tells P w K mg base k n CS c1 c2 c3 c4 c5 c6 c7 c8 c9 H v g) (sm : Same H H') (q : ∀ H2, Same H' H2 → Q (.bl true) H2) :
    tCall (spAlk K n) [] E0 (tCons (tCall (spTold P w K mg base k CS c1 c2 c3 c4 c5 c6 c7 c8 c9) [] E0 (tCons (tVar 2) tNil)) (tCons (tVar 1) tNil)) σ H' Q := by
  obtain ⟨TT, th, hT⟩ := tl
  obtain ⟨Eb, k1, k2⟩ := hT H' sm (fun x H1 => tCons (tVar 1) tNil σ H1 fun xs H2 => spAlk K n (x :: xs ++ []) H2 Q E0) fun v' H2 s2 al => ⟨v, h1, v', v, rfl, al, q H2 s2⟩
  refine ⟨_, h2, g, TT, Eb, rfl, th.keep (same_keepC sm), k1, fun cls d H1 he => ?_⟩
  obtain ⟨D, j, nm, e1, e2, e3, e4, s1, e5⟩ := k2 cls d H1 he
  exact ⟨D, j, nm, e1, e2, e3, e4, fun p H3 s3 _ hp => ⟨v, h1, _, v, rfl, e5 p H3 s3 hp, q H3 (s1.trans s3)⟩⟩
theorem ok_all {k n : Nat} {f fa ft : Addr} {fd fda fdt : FuncData} (F : Fun K "_law_all" "_law_all" sAll f fd) (T : Txt mg) (Calike : Cal P w K mg base (k + 1) "_law_alike" ["_law_found", "_law_due"] (spAlk K n) fa fda)
    (Ctold : Cal P w K mg base (k + 1) "_law_told" ["_law_work"] (spTold P w K mg base k CS c1 c2 c3 c4 c5 c6 c7 c8 c9) ft fdt) : FnOk P w K mg base CX0 (k + 2) f fd ["_law_works", "_law_due"] (spAll P w K mg base k n CS c1 c2 c3 c4 c5 c6 c7 c8 c9) := by
  refine F.ok scAll (fun vs H Q E h => ?_) (fun cdv A outer s H vs Q E hr h => ?_)
  · obtain ⟨l, fs, v, rfl, _⟩ := h
    rfl
  · obtain ⟨l, fs, v, rfl, hl, few, hw, q⟩ := h
    have hr1 : Room (k + 1) _ := hr
    refine ⟨_, (pss_one (ps_ret (pe_cmpR (RK.eqD (K := K) hr.units) (pe_lc (own := [("_law_work", 2)]) rfl scAll.nd (RK.piL (K := K) (pv 0)) (blkOk_by (N := ["_law_works", "_law_due", "_law_work"]) (sc := defScope sAll) (by decide +kernel)) (fun _ _ _ _ _ => (pg_name (i := 2) scAll.nd rfl (Or.inl rfl))) (fun _ _ _ _ _ => (pts_one (pt_not (pt_val (pe_call Calike.G hr1 (by rfl) Calike.g Calike.kp Calike.b .nil pass0 (pa_cons (pe_call Ctold.G hr1 (by rfl) Ctold.g Ctold.kp Ctold.b .nil pass0 (pa_cons (pv 2) pa_nil)) (pa_cons (pv 1) pa_nil))))))) (fun _ _ _ _ _ => (pv 2))) (pe_lst pa_nil) (nomark _)))), ?_⟩
    refine ⟨_, rfl, l, rfl, ⟨_, SqL.of hl⟩, fun D nD => ?_⟩
    refine lc_list (K := K) (a := l) (xs := fs.map V.ref) (fun i H' => Same H H' ∧ H' D = some (.lst [])) ⟨same_new nD, upd_same⟩ (fun i H' _ ⟨sm, _⟩ => SqL.of (sm _ _ hl)) ?_ ?_
    · rintro i y H' hi ⟨sm, hD⟩
      rw [List.getElem?_map] at hi
      obtain ⟨g, hg, rfl⟩ : ∃ g, fs[i]? = some g ∧ y = V.ref g := by
        cases e : fs[i]? with
        | none => rw [e] at hi; cases hi
        | some g => rw [e] at hi; exact ⟨g, rfl, (Option.some.inj hi).symm⟩
      refine gn ?_
      refine ⟨rfl, ?_⟩
      refine te_tells (g := g) (v := v) rfl rfl (hw g (List.mem_of_getElem? hg)) sm (fun H2 s2 => ⟨_, rfl, iteF ⟨sm.trans s2, s2 _ _ hD⟩⟩)
    · rintro H' ⟨sm, hD⟩
      refine ⟨(by show 0 ≤ sizeLine; decide), fun e he => ?_⟩
      refine ⟨_, _, .lst (SqL.of ((same_new he) _ _ hD)) .nil, .lst (SqL.of upd_same) .nil, rfl, rfl, ?_⟩
      exact q _ (sm.trans (same_new he))
end
end G38

set_option linter.all false
set_option maxHeartbeats 4000000
namespace TH
open PySem PySem.Spec PyProof.Rows L2 LamX NdefX HX
theorem sub_add {cs : List (Addr × Obj)} {H : Hp} (n : CsNone cs H) : subC cs (addC cs H) = H := by
  funext b
  cases e : cs.lookup b with
  | some o => rw [subC_in e, n b o e]
  | none => rw [subC_out e, addC_out e]
theorem add_sub_in {cs : List (Addr × Obj)} {H : Hp} (i : CsIn cs H) : addC cs (subC cs H) = H := by
  funext b
  cases e : cs.lookup b with
  | some o => rw [addC_in e, i b o e]
  | none => rw [addC_out e, subC_out e]
theorem none_sub (cs : List (Addr × Obj)) (H : Hp) : CsNone cs (subC cs H) := fun _ _ e => subC_in e
theorem Opened.none {X : Cx} {σ : L2.St} {H : Hp} {cs : List (Addr × Obj)} (O : Opened X σ H cs) : CsNone cs H := fun b o e => by
  obtain ⟨pins, s, I, h⟩ := O
  exact (csAt_cells I h b o e).2
theorem same_sub {cs : List (Addr × Obj)} {H H' : Hp} (n : CsNone cs H) (s : Same (addC cs H) H') : Same H (subC cs H') := fun b o e => by
  have q : cs.lookup b = none := by
    cases z : cs.lookup b with
    | some u => rw [n b u z] at e; cases e
    | none => rfl
  rw [subC_out q]
  exact s b o (by rw [addC_out q]; exact e)
theorem same_add {cs : List (Addr × Obj)} {H H' : Hp} (i : CsIn cs H) (s : Same (subC cs H) H') : Same H (addC cs H') := fun b o e => by
  cases z : cs.lookup b with
  | some u =>
    have y := i b u z
    rw [e] at y
    rw [addC_in z, y]
  | none =>
    rw [addC_out z]
    exact s b o (by rw [subC_out z]; exact e)
end TH
namespace G38
open PySem L2 HX TH LamX NdefX
theorem sqT_up {K : PySem.W.Frag} {H H' : Hp} (s : ∀ b o, H b = some o → H' b = some o) {a : Addr} {xs : List V} (h : SqT K H a xs) : SqT K H' a xs := by
  rcases h with (h | ⟨o, h⟩) | h
  · exact .inl (.inl (s _ _ h))
  · exact .inl (.inr ⟨o, s _ _ h⟩)
  · exact .inr h
theorem sqL_up {K : PySem.W.Frag} {H H' : Hp} (s : ∀ b o, H b = some o → H' b = some o) {a : Addr} {xs : List V} (h : SqL K H a xs) : SqL K H' a xs := by
  rcases h with (h | ⟨o, h⟩) | h
  · exact .inl (.inl (s _ _ h))
  · exact .inl (.inr ⟨o, s _ _ h⟩)
  · exact .inr h
section
variable {P : Program} {w : World} {K : PySem.W.Frag} {mg : Str → Option Value} {base : Heap} {CS c1 c2 c3 c4 c5 c6 c7 c8 c9 : Addr}
/-- what is wished of an error, told -/
def ErrW (K : PySem.W.Frag) (CS c1 c2 c3 c4 c5 c6 c7 c8 c9 : Addr) (Q : VK) (cls : Value) (d : Option Addr) (H2 : Hp) : Prop := ∃ D j nm, cls = .ref D ∧ d = none ∧ IsErr K CS c1 c2 c3 c4 c5 c6 c7 c8 c9 D j ∧ kinds[j]? = some nm ∧ ∀ p H3, Same H2 H3 → H2 p = none → H3 p = some (.tup [.str nm, .int 0]) → Q (.ref p) H3
/-- told(lambda..), the lambda made at H1 -/
theorem te_told1 {X : Cx} {k : Nat} {σ : L2.St} {H1 : Hp} {Q : VK} {f : Addr} {N : List Str} {js : List Nat} {ds : List V} {tb : XK → TE} {cs : List (Addr × Obj)} (O : Opened X σ H1 cs) (l : Lamb X k H1 f N js ds tb)
    (h : ∀ (Q' : VK) (E' : XK), (∀ v H2, Q v H2 → Q' v H2) → (∀ cls d H2, ErrW K CS c1 c2 c3 c4 c5 c6 c7 c8 c9 Q cls d H2 → E' cls d H2) → tb E' (startF N ds (js.map (slotAt σ))) H1 Q') (hK : X.K = K := by rfl) :
    spTold X.prog X.w X.K X.mg X.base (k + 1) CS c1 c2 c3 c4 c5 c6 c7 c8 c9 [V.ref f] (addC cs H1) (fun v H2 => CsIn cs H2 → Q v (subC cs H2)) E0 := by
  subst hK
  refine ⟨f, _, fun cls d Hc => ∃ H2, Hc = addC cs H2 ∧ CsNone cs H2 ∧ ErrW X.K CS c1 c2 c3 c4 c5 c6 c7 c8 c9 Q cls d H2, rfl, l.thunk O, fun _ => ?_, fun cls d Hc ⟨H2, e, n, D, j, nm, q1, q2, q3, q4, q5⟩ => ?_⟩
  · rw [sub_add O.none]
    refine h _ _ (fun v H2 q n _ => ?_) fun cls d H2 q n => ⟨H2, rfl, n, q⟩
    rw [sub_add n]
    exact q
  · subst e
    refine ⟨D, j, nm, q1, q2, q3, q4, fun p H' s np hp i => ?_⟩
    have o : cs.lookup p = none := by
      cases z : cs.lookup p with
      | some u => rw [addC_in z] at np; cases np
      | none => rfl
    exact q5 p _ (same_sub n s) (by rw [addC_out o] at np; exact np) (by rw [subC_out o]; exact hp)
theorem alk_sub {K : PySem.W.Frag} {cs : List (Addr × Obj)} {H : Hp} : ∀ {n : Nat} {v w : V}, (∀ b o, H b = some o → addC cs H b = some o) → Alk K H n v w → Alk K (addC cs H) n v w
  | 0, _, _, _, h => h
  | n + 1, _, _, s, h => by
    rcases h with h | ⟨a, b, xs, ys, e1, e2, h3, h4, h5⟩
    · exact .inl h
    · refine .inr ⟨a, b, xs, ys, e1, e2, ?_, h4, pw_imp (fun _ _ q => alk_sub s q) h5⟩
      rcases h3 with ⟨x, y⟩ | ⟨x, y⟩
      · exact .inl ⟨sqT_up s x, sqT_up s y⟩
      · exact .inr ⟨sqL_up s x, sqL_up s y⟩
theorem add_up {cs : List (Addr × Obj)} {H : Hp} (n : CsNone cs H) : ∀ b o, H b = some o → addC cs H b = some o := fun b o e => by
  cases z : cs.lookup b with
  | some u => rw [n b u z] at e; cases e
  | none => rw [addC_out z]; exact e
/-- a work of all's, in plain letters -/
theorem tells1 {X : Cx} {k n : Nat} {σ : L2.St} {H1 : Hp} {f : Addr} {N : List Str} {js : List Nat} {ds : List V} {tb : XK → TE} {cs : List (Addr × Obj)} {v : V} (O : Opened X σ H1 cs) (l : Lamb X k H1 f N js ds tb)
    (h : ∀ H', Same H1 H' → ∀ (Q' : VK) (E' : XK), (∀ v' H2, Same H' H2 → Alk K H2 n v' v → Q' v' H2) →
      (∀ cls d H2, (∃ D j nm, cls = .ref D ∧ d = none ∧ IsErr K CS c1 c2 c3 c4 c5 c6 c7 c8 c9 D j ∧ kinds[j]? = some nm ∧ Same H' H2 ∧ ∀ p H3, Same H2 H3 → H3 p = some (.tup [.str nm, .int 0]) → Alk K H3 n (.ref p) v) → E' cls d H2) → tb E' (startF N ds (js.map (slotAt σ))) H' Q') (hK : X.K = K := by rfl) :
    Tells X.prog X.w X.K X.mg X.base (k + 1) n CS c1 c2 c3 c4 c5 c6 c7 c8 c9 (addC cs H1) v f := by
  subst hK
  refine ⟨_, l.thunk O, fun Hc sm Q hQ => ⟨fun cls d Hd => ∃ H2, Hd = addC cs H2 ∧ CsNone cs H2 ∧ ∃ D j nm, cls = .ref D ∧ d = none ∧ IsErr X.K CS c1 c2 c3 c4 c5 c6 c7 c8 c9 D j ∧ kinds[j]? = some nm ∧ Same (subC cs Hc) H2 ∧ ∀ p H3, Same H2 H3 → H3 p = some (.tup [.str nm, .int 0]) → Alk X.K H3 n (.ref p) v, fun ci => ?_, fun cls d Hd ⟨H2, e, n2, D, j, nm, q1, q2, q3, q4, q5, q6⟩ => ?_⟩⟩
  · refine h _ (same_sub O.none sm) _ _ (fun v' H2 s2 al n2 => ?_) fun cls d H2 q n2 => ⟨H2, rfl, n2, q⟩
    exact hQ _ _ (same_add ci s2) (alk_sub (add_up n2) al)
  · subst e
    have ci : CsIn cs Hc := fun b o e => sm _ _ (csIn_add cs H1 b o e)
    refine ⟨D, j, nm, q1, q2, q3, q4, same_add ci q5, fun p H3 s3 hp => ?_⟩
    have i3 : CsIn cs H3 := fun b o e => s3 _ _ (csIn_add cs H2 b o e)
    have o : cs.lookup p = none := out_of i3 fun o z => by rw [hp] at z; cases z
    have z := q6 p _ (same_sub n2 s3) (by rw [subC_out o]; exact hp)
    have y := alk_sub (cs := cs) (add_up (none_sub cs H3)) z
    rw [add_sub_in i3] at y
    exact y
end
end G38

set_option linter.all false
set_option maxHeartbeats 4000000
namespace G38
open PySem L2 HX LamX NdefX
structure TxtL (K : PySem.W.Frag) (mg : Str → Option Value) (C CG CB : Addr) : Prop extends TxtD K mg C CG CB where
  mgD : mg "Disk" = some (.ref C)
def Tb (PB : Addr) : List (Addr × Str) := [(PB, "law.<locals>.<lambda>")]
theorem passN {P : Program} {w : World} {K : PySem.W.Frag} {mg : Str → Option Value} {base : Heap} {N : List Str} {F : NF} {f : Addr} {A : Around} {outer : List Env} {s : Shared} {H : Hp} {E : XK} : Passes (L2.CX P w) (ncx (L2.CX P w) P w K mg base N F f A outer s H E) E :=
  passes_call (takes_of rfl rfl rfl rfl) fun _ _ _ _ h => h
theorem passF {P : Program} {w : World} {X : Cx} : Passes (L2.CX P w) X E0 := fun _ _ _ _ _ _ _ ⟨_, _, _, _, _, _, _, _, _, _, _, _, z⟩ => z.elim
def spLaw (K : PySem.W.Frag) (PB : Addr) : Sp := fun vs H Q _ => ∃ (a : Addr) (ns : List Int), vs = [.ref a] ∧ SqL K H a (ns.map V.int) ∧ ns.length ≤ 63 ∧ Tabs (Tb PB) H ∧ ∀ H', Q (.bl true) H'
section
variable {P : Program} {w : World} {K : PySem.W.Frag} {mg : Str → Option Value} {base : Heap} {C CG CB CS c1 c2 c3 c4 c5 c6 c7 c8 c9 cB PB : Addr}
end
end G38

set_option linter.all false
set_option maxHeartbeats 4000000
namespace G38
open PySem L2 HX LamX NdefX TH
structure Cx8 (C PB a b p r lt ll : Addr) (H : Hp) (st : DS) (th la : List U) : Prop where
  bx : BoxAt H a b
  dk : DiskAt C H p r st
  ts : ∃ vs, H lt = some (.lst vs) ∧ Paired (UAt H) th vs
  ls : ∃ vs, H ll = some (.lst vs) ∧ Paired (UAt H) la vs
  tb : Tabs (Tb PB) H
  n1 : lt ≠ a ∧ lt ≠ b ∧ lt ≠ r
  n2 : ll ≠ a ∧ ll ≠ b ∧ ll ≠ r
  n3 : r ≠ a ∧ r ≠ b
theorem tk_ext {H H' : Hp} (e : ExtN H H') : TK H H' := fun a xs h => e a _ h fun ps z => by cases z
theorem ext_same {H H' : Hp} (s : Same H H') : ExtN H H' := fun b o h _ => s b o h
theorem DiskAt.ext {C p r : Addr} {H H' : Hp} {st : DS} (d : DiskAt C H p r st) (e : ExtN H H') : DiskAt C H' p r st := by
  obtain ⟨⟨dx, h1⟩, ⟨vs, h2, pw⟩, few, lal⟩ := d
  exact ⟨⟨dx, e _ _ h1 fun ps z => by cases z⟩, ⟨vs, e _ _ h2 fun ps z => (by cases z), pw_keep (tk_ext e) pw⟩, few, lal⟩
theorem box_ext {a b : Addr} {H H' : Hp} (x : BoxAt H a b) (e : ExtN H H') : BoxAt H' a b := by
  obtain ⟨z, cs, h1, h2, h3⟩ := x
  exact ⟨z, cs, e _ _ h1 fun ps z => (by cases z), e _ _ h2 fun ps z => (by cases z), h3⟩
theorem units_at {x : Addr} {H H' : Hp} {us : List U} (h : ∃ vs, H x = some (.lst vs) ∧ Paired (UAt H) us vs) (k : ∀ vs, H x = some (.lst vs) → H' x = some (.lst vs)) (tk : TK H H') : ∃ vs, H' x = some (.lst vs) ∧ Paired (UAt H') us vs := by
  obtain ⟨vs, h1, pw⟩ := h
  exact ⟨vs, k vs h1, pw_keep tk pw⟩
section
variable {C PB a b p r lt ll : Addr} {H H' : Hp} {st st' : DS} {th la : List U}
theorem Cx8.ext (c : Cx8 C PB a b p r lt ll H st th la) (e : ExtN H H') (t : Tabs (Tb PB) H') : Cx8 C PB a b p r lt ll H' st th la :=
  ⟨box_ext c.bx e, c.dk.ext e, units_at c.ts (fun vs h => e _ _ h fun ps z => by cases z) (tk_ext e), units_at c.ls (fun vs h => e _ _ h fun ps z => by cases z) (tk_ext e), t, c.n1, c.n2, c.n3⟩
theorem Cx8.same (c : Cx8 C PB a b p r lt ll H st th la) (s : Same H H') : Cx8 C PB a b p r lt ll H' st th la := c.ext (ext_same s) (c.tb.ext s)
/-- tables and code objects stay where lists and instances alone change -/
theorem tabs_kept {H H' : Hp} {T : List (Addr × Str)} (t : Tabs T H) (k1 : ∀ x ps, H x = some (.tbl ps) → H' x = some (.tbl ps)) (k2 : ∀ x φ, H x = some (.ext φ) → H' x = some (.ext φ)) : Tabs T H' := fun q hq => by
  obtain ⟨ps, h1, h2, h3⟩ := t q hq
  refine ⟨ps, k1 _ _ h1, h2, fun pos cv hc => ?_⟩
  obtain ⟨c, e1, e2⟩ := h3 pos cv hc
  refine ⟨c, e1, ?_⟩
  unfold CodeO at e2 ⊢
  exact k2 _ _ e2
theorem Keep.tk (x : BoxAt H a b) (k : Keep a b H H') : TK H H' := fun y xs h => by
  obtain ⟨z, cs, h1, h2, _⟩ := x
  exact k y _ (ne_of h h1 (by intro z; cases z)) (ne_of h h2 (by intro z; cases z)) h
theorem Cx8.take (c : Cx8 C PB a b p r lt ll H st th la) (bx : BoxAt H' a b) (k : Keep a b H H') : Cx8 C PB a b p r lt ll H' st th la := by
  have tk := Keep.tk c.bx k
  obtain ⟨z, cs, h1, h2, _⟩ := id c.bx
  obtain ⟨⟨dx, d1⟩, ⟨vs, d2, pw⟩, few, lal⟩ := id c.dk
  refine ⟨bx, ⟨⟨dx, k _ _ (ne_of d1 h1 (by intro z; cases z)) (ne_of d1 h2 (by intro z; cases z)) d1⟩, ⟨vs, k _ _ c.n3.1 c.n3.2 d2, pw_keep tk pw⟩, few, lal⟩, units_at c.ts (fun vs h => k _ _ c.n1.1 c.n1.2.1 h) tk, units_at c.ls (fun vs h => k _ _ c.n2.1 c.n2.2.1 h) tk, ?_, c.n1, c.n2, c.n3⟩
  exact tabs_kept c.tb (fun x ps h => k _ _ (ne_of h h1 (by intro z; cases z)) (ne_of h h2 (by intro z; cases z)) h) fun x φ h => k _ _ (ne_of h h1 (by intro z; cases z)) (ne_of h h2 (by intro z; cases z)) h
theorem Cx8.disk {r' : Addr} (c : Cx8 C PB a b p r lt ll H st th la) (k : KP p r H H') (d : DiskAt C H' p r' st') (hr : r' = r ∨ H r' = none) : Cx8 C PB a b p r' lt ll H' st' th la := by
  have tk := KP.tk c.dk k
  obtain ⟨z, cs, h1, h2, h3⟩ := id c.bx
  obtain ⟨⟨dx, d1⟩, ⟨vs, d2, pw⟩, few, lal⟩ := id c.dk
  have ne : ∀ {x : Addr} {o : HO}, H x = some o → x ≠ r → x ≠ r' := fun {x o} e n => by
    rcases hr with z | z
    · rw [z]; exact n
    · exact ne_of_none e z
  obtain ⟨v1, t1, _⟩ := c.ts
  obtain ⟨v2, t2, _⟩ := c.ls
  refine ⟨⟨z, cs, k _ _ (ne_of h1 d1 (by intro z; cases z)) c.n3.1.symm h1, k _ _ (ne_of h2 d1 (by intro z; cases z)) c.n3.2.symm h2, h3⟩, d, units_at c.ts (fun vs h => k _ _ (ne_of h d1 (by intro z; cases z)) c.n1.2.2 h) tk, units_at c.ls (fun vs h => k _ _ (ne_of h d1 (by intro z; cases z)) c.n2.2.2 h) tk, ?_,
    ⟨c.n1.1, c.n1.2.1, ne t1 c.n1.2.2⟩, ⟨c.n2.1, c.n2.2.1, ne t2 c.n2.2.2⟩, ⟨(ne h1 c.n3.1.symm).symm, (ne h2 c.n3.2.symm).symm⟩⟩
  exact tabs_kept c.tb (fun x ps h => k _ _ (ne_of h d1 (by intro z; cases z)) (ne_of h d2 (by intro z; cases z)) h) fun x φ h => k _ _ (ne_of h d1 (by intro z; cases z)) (ne_of h d2 (by intro z; cases z)) h
end
section
variable {K : PySem.W.Frag}
theorem tk1 {a b : Addr} {n : Int} {σ : L2.St} {H : Hp} {Q : VK} (hσ : σ[1]? = some (some (.ref a))) (bx : BoxAt H a b) (h0 : 0 < n) (h1 : n < 1000000) (k : ∀ r H', 0 ≤ r → r < n → BoxAt H' a b → Keep a b H H' → Q (.int r) H') :
    tCall (spTake K) [] E0 (tCons (tVar 1) (tCons (tC (.int n)) tNil)) σ H Q := ⟨_, hσ, a, b, n, rfl, h0, h1, bx, k⟩
theorem pick1 {a b : Addr} {u v : Int} {σ : L2.St} {H : Hp} {Q : VK} (hσ : σ[1]? = some (some (.ref a))) (bx : BoxAt H a b) (hu : 0 < u ∧ u < 1000000) (hv : 0 < v ∧ v < 1000000) (k : ∀ r H', 0 ≤ r → (r < u ∨ r < v) → BoxAt H' a b → Keep a b H H' → Q (.int r) H') :
    tCall (spTake K) [] E0 (tCons (tVar 1) (tCons (tOp (rIxL K) (tLst (tCons (tC (.int u)) (tCons (tC (.int v)) tNil))) (tCall (spTake K) [] E0 (tCons (tVar 1) (tCons (tC (.int 2)) tNil)))) tNil)) σ H Q := by
  refine ⟨_, hσ, (by show 2 ≤ sizeLine; decide), fun q hq => ?_⟩
  have s1 := same_new (o := .lst [V.int u, V.int v]) hq
  obtain ⟨z, cs, ha, hb, hc⟩ := id bx
  refine tk1 hσ ⟨z, cs, s1 _ _ ha, s1 _ _ hb, hc⟩ (by decide) (by decide) fun r H1 r0 r1 bx1 k1 => ?_
  have e1 : H1 q = some (.lst [V.int u, V.int v]) := k1 _ _ (Ne.symm (ne_of_none ha hq)) (Ne.symm (ne_of_none hb hq)) upd_same
  have k2 : Keep a b H H1 := fun x o n1 n2 h => k1 x o n1 n2 (s1 x o h)
  rcases (show r = 0 ∨ r = 1 by omega) with rfl | rfl
  · exact ⟨q, _, 0, _, rfl, rfl, SqL.of e1, at0, a, b, u, rfl, hu.1, hu.2, bx1, fun r' H' h0 h1 b2 k3 => k r' H' h0 (.inl h1) b2 (k2.trans k3)⟩
  · exact ⟨q, _, 1, _, rfl, rfl, SqL.of e1, atI_nat (j := 1) rfl, a, b, v, rfl, hv.1, hv.2, bx1, fun r' H' h0 h1 b2 k3 => k r' H' h0 (.inr h1) b2 (k2.trans k3)⟩
end
section
variable {P : Program} {w : World} {K : PySem.W.Frag} {mg : Str → Option Value} {base : Heap} {C CG CB CS c1 c2 c3 c4 c5 c6 c7 c8 c9 cB PB : Addr} {X : Cx}
abbrev tbSettle (C CG : Addr) : XK → TE := fun E => tMeth C "settle" (spSettle C CG) [] E (tVar 0) tNil
abbrev tbWrite (C CG : Addr) : XK → TE := fun E => tMeth C "write" (spWrite C CG) [] E (tVar 1) (tCons (tVar 2) tNil)
abbrev tbUnits (C CG : Addr) : XK → TE := fun E => tMeth C "units" (spUnits C CG) [] E (tVar 0) tNil
abbrev tbFall (C CB : Addr) : XK → TE := fun E => tMeth C "fall" (spFall C CB) [] E (tVar 1) (tCons (tVar 0) tNil)
abbrev tbArm (C CB : Addr) : XK → TE := fun E => tMeth C "arm" (spArm C CB) [] E (tVar 2) (tCons (tVar 1) tNil)
theorem te_l0 {k : Nat} {T : List (Addr × Str)} {N : List Str} {js : List Nat} {tb : XK → TE} {σ : L2.St} {H : Hp} {Q : VK} (hK : X.K = K) (hT : Tabs T H)
    (h : ∀ f H1, ExtN H H1 → (∀ b, H1 b = Option.none → H b = Option.none) → Tabs T H1 → H f = none → ∀ (Q' : VK) (E' : XK), (∀ v H2, Q v H2 → Q' v H2) → (∀ cls d H2, ErrW K CS c1 c2 c3 c4 c5 c6 c7 c8 c9 Q cls d H2 → E' cls d H2) → tb E' (startF N [] (js.map (slotAt σ))) H1 Q') :
    tLam0 X k T N js tb σ H (fun x H1 => ∀ cs', Opened X σ H1 cs' → spTold X.prog X.w X.K X.mg X.base (k + 1) CS c1 c2 c3 c4 c5 c6 c7 c8 c9 [x] (addC cs' H1) (fun v H2 => CsIn cs' H2 → Q v (subC cs' H2)) E0) :=
  ⟨hT, fun f H1 e nn t f0 l cs' O => te_told1 O l (h f H1 e nn t f0) hK⟩
theorem te_l1 {k : Nat} {T : List (Addr × Str)} {N : List Str} {js : List Nat} {y : V} {tb : XK → TE} {σ : L2.St} {H : Hp} {Q : VK} (hK : X.K = K) (hT : Tabs T H)
    (h : ∀ f H1, ExtN H H1 → (∀ b, H1 b = Option.none → H b = Option.none) → Tabs T H1 → H f = none → ∀ (Q' : VK) (E' : XK), (∀ v H2, Q v H2 → Q' v H2) → (∀ cls d H2, ErrW K CS c1 c2 c3 c4 c5 c6 c7 c8 c9 Q cls d H2 → E' cls d H2) → tb E' (startF N [y] (js.map (slotAt σ))) H1 Q') :
    tLam1 X k T N js (tC y) tb σ H (fun x H1 => ∀ cs', Opened X σ H1 cs' → spTold X.prog X.w X.K X.mg X.base (k + 1) CS c1 c2 c3 c4 c5 c6 c7 c8 c9 [x] (addC cs' H1) (fun v H2 => CsIn cs' H2 → Q v (subC cs' H2)) E0) :=
  ⟨hT, fun f H1 e nn t f0 l cs' O => te_told1 O l (h f H1 e nn t f0) hK⟩
/-- told(settle or write) -/
theorem te_ws {σ : L2.St} {H : Hp} {Q : VK} {a b p r lt ll : Addr} {st : DS} {th la : List U} {way : Int} {v : V} {u : U} (hK : X.K = K) (eG : IsErr K CS c1 c2 c3 c4 c5 c6 c7 c8 c9 CG 5) (c : Cx8 C PB a b p r lt ll H st th la)
    (h2 : σ[2]? = some (some (.ref p))) (h8 : σ[8]? = some (some (.int way))) (h9 : σ[9]? = some (some v)) (hu : UAt H u v) (few : st.us.length < 200)
    (k1 : out st = true → ∀ q H', Cx8 C PB a b p r lt ll H' { st with go := true } th la → TK H H' → H' q = some (.tup [.str "Gone", .int 0]) → Q (.ref q) H')
    (k2 : out st = false → way > 4 → ∀ H', Cx8 C PB a b p r lt ll H' { tick st with la := st.us.length } th la → TK H H' → Q .non H')
    (k3 : out st = false → ¬ way > 4 → ∀ H', Cx8 C PB a b p r lt ll H' { tick st with us := st.us ++ [u] } th la → TK H H' → Q .non H') :
    tCallC X (spTold X.prog X.w X.K X.mg X.base 6 CS c1 c2 c3 c4 c5 c6 c7 c8 c9) [] E0 (tCons (tIf (tTest (tOp (rI0 fun i j => .bl (decide (j < i))) (tVar 8) (tC (.int 4)))) (tLam0 X 5 (Tb PB) ["_law_disk"] [2] (tbSettle C CG)) (tLam1 X 5 (Tb PB) ["_law_a", "_law_disk", "_law_unit"] [2, 9] (tC (.int 0)) (tbWrite C CG))) tNil) σ H Q := by
  have err : ∀ H1 H2, ExtN H H1 → Tabs (Tb PB) H1 → KP p r H1 H2 → DiskAt C H2 p r { st with go := true } → out st = true → ErrW K CS c1 c2 c3 c4 c5 c6 c7 c8 c9 Q (.ref CG) none H2 := fun H1 H2 e t kp d o =>
    ⟨CG, 5, "Gone", rfl, rfl, eG, rfl, fun q H3 s3 _ hq => k1 o q H3 (((c.ext e t).disk kp d (.inl rfl)).same s3) (((tk_ext e).trans' (KP.tk (c.dk.ext e) kp)).trans' (TK.same s3)) hq⟩
  refine ⟨_, h8, _, _, rfl, rfl, _, rfl, ?_⟩
  by_cases cw : 4 < way
  · rw [decide_eq_true cw]
    refine iteT (te_l0 (Q := Q) hK c.tb fun f H1 e nn t f0 Q' E' hQ hE => ?_)
    have c1 := c.ext e t
    obtain ⟨⟨dx, ob⟩, _⟩ := id c1.dk
    refine ⟨.ref p, by show some (slotAt σ 2) = _; rw [slotAt_of h2], p, dx, _, rfl, ob, rfl, p, r, st, rfl, c1.dk, fun o H2 kp d => hE _ _ _ (err H1 H2 e t kp d o), fun o H2 kp d => hQ _ _ (k2 o cw H2 (c1.disk kp d (.inl rfl)) ((tk_ext e).trans' (KP.tk c1.dk kp)))⟩
  · rw [decide_eq_false cw]
    refine iteF (te_l1 (Q := Q) hK c.tb fun f H1 e nn t f0 Q' E' hQ hE => ?_)
    have c1 := c.ext e t
    obtain ⟨⟨dx, ob⟩, _⟩ := id c1.dk
    refine ⟨.ref p, by show some (slotAt σ 2) = _; rw [slotAt_of h2], p, dx, _, rfl, ob, rfl, v, by show some (slotAt σ 9) = _; rw [slotAt_of h9], p, r, st, v, u, rfl, c1.dk, hu.keep (tk_ext e), few, fun o H2 kp d => hE _ _ _ (err H1 H2 e t kp d o), fun o H2 kp d => hQ _ _ (k3 o cw H2 (c1.disk kp d (.inl rfl)) ((tk_ext e).trans' (KP.tk c1.dk kp)))⟩
/-- told(units) -/
theorem te_un {σ : L2.St} {H : Hp} {Q : VK} {a b p r lt ll : Addr} {st : DS} {th la : List U} (hK : X.K = K) (eG : IsErr K CS c1 c2 c3 c4 c5 c6 c7 c8 c9 CG 5) (c : Cx8 C PB a b p r lt ll H st th la) (h2 : σ[2]? = some (some (.ref p)))
    (k1 : st.go = true → ∀ q H', Cx8 C PB a b p r lt ll H' st th la → H' q = some (.tup [.str "Gone", .int 0]) → Q (.ref q) H')
    (k2 : st.go = false → ∀ l H' ws, Cx8 C PB a b p r lt ll H' st th la → H' l = some (.lst ws) → Paired (UAt H') st.us ws → (∀ x o, H x = some o → x ≠ l) → Q (.ref l) H') :
    tCallC X (spTold X.prog X.w X.K X.mg X.base 6 CS c1 c2 c3 c4 c5 c6 c7 c8 c9) [] E0 (tCons (tLam0 X 5 (Tb PB) ["_law_disk"] [2] (tbUnits C CG)) tNil) σ H Q := by
  refine te_l0 (Q := Q) hK c.tb fun f H1 e nn t f0 Q' E' hQ hE => ?_
  have c1 := c.ext e t
  obtain ⟨⟨dx, ob⟩, _⟩ := id c1.dk
  refine ⟨.ref p, by show some (slotAt σ 2) = _; rw [slotAt_of h2], p, dx, _, rfl, ob, rfl, p, r, st, rfl, c1.dk, fun o => hE _ _ _ ⟨CG, 5, "Gone", rfl, rfl, eG, rfl, fun q H3 s3 _ hq => k1 o q H3 (c1.same s3) hq⟩, fun o l H2 ws s2 nl hl pw => hQ _ _ (k2 o l H2 ws (c1.same s2) hl pw fun x o' hx z => ?_)⟩
  have y := nn l nl
  rw [← z, hx] at y
  cases y
end
end G38

set_option linter.all false
set_option maxHeartbeats 4000000
namespace G38
open PySem L2 HX LamX NdefX TH
theorem ext_trans {H H1 H2 : Hp} (a : ExtN H H1) (b : ExtN H1 H2) : ExtN H H2 := fun c o h n => b c o (a c o h n) n
theorem keepC_ext {H H' : Hp} (e : ExtN H H') : KeepC H H' := .of fun b o h k => e b o h fun ps z => by
  subst z
  rcases k with ⟨_, _, z⟩ | ⟨_, z⟩ | ⟨_, z⟩ <;> cases z
section
variable {P : Program} {w : World} {K : PySem.W.Frag} {mg : Str → Option Value} {base : Heap} {C CG CB CS c1 c2 c3 c4 c5 c6 c7 c8 c9 cB PB : Addr} {X : Cx}
/-- all([fall below 0, arm below 0]) -/
theorem te_alls {σ : L2.St} {H : Hp} {Q : VK} {a b p r lt ll : Addr} {st : DS} {th la : List U} {bad : Int} (hK : X.K = K) (eB : IsErr K CS c1 c2 c3 c4 c5 c6 c7 c8 c9 CB 1) (c : Cx8 C PB a b p r lt ll H st th la) (h2 : σ[2]? = some (some (.ref p))) (h13 : σ[13]? = some (some (.int bad))) (neg : bad < 0)
    (k : ∀ H', Cx8 C PB a b p r lt ll H' st th la → Q (.bl true) H') :
    tCallC X (spAll X.prog X.w X.K X.mg X.base 6 3 CS c1 c2 c3 c4 c5 c6 c7 c8 c9) [] E0 (tCons (tLst (tCons (tLam0 X 5 (Tb PB) ["_law_bad", "_law_disk"] [13, 2] (tbFall C CB)) (tCons (tLam1 X 5 (Tb PB) ["_law_a", "_law_bad", "_law_disk"] [13, 2] (tC (.int 0)) (tbArm C CB)) tNil)))
      (tCons (tTup (tCons (tC (.str "BadNumber")) (tCons (tC (.int 0)) tNil))) tNil)) σ H Q := by
  refine ⟨c.tb, fun f1 H1 e1 _ t1 _ L1 => ⟨t1, fun f2 H2 e2 _ t2 _ L2 => ⟨(by show 2 ≤ sizeLine; decide), fun l nl => ⟨(by show 2 ≤ sizeLine; decide), fun q nq => fun cs' O => ?_⟩⟩⟩⟩
  have g2 := (c.ext e1 t1).ext e2 t2
  have s3 := same_new (o := .lst [V.ref f1, V.ref f2]) nl
  have l3 : (upd H2 l (.lst [V.ref f1, V.ref f2])) l = some (.lst [V.ref f1, V.ref f2]) := upd_same
  generalize upd H2 l (.lst [V.ref f1, V.ref f2]) = H3 at s3 l3 nq O ⊢
  have s4 := same_new (o := .tup [V.str "BadNumber", V.int 0]) nq
  have q4 : (upd H3 q (.tup [V.str "BadNumber", V.int 0])) q = some (.tup [V.str "BadNumber", V.int 0]) := upd_same
  generalize upd H3 q (.tup [V.str "BadNumber", V.int 0]) = H4 at s4 q4 O ⊢
  have g4 := (g2.same s3).same s4
  have l4 := s4 _ _ l3
  have alk : ∀ p3 H', Same H4 H' → H' p3 = some (.tup [V.str "BadNumber", V.int 0]) → Alk K H' 3 (.ref p3) (.ref q) := fun p3 H' s hp =>
    .inr ⟨p3, q, _, _, rfl, rfl, .inl ⟨SqT.of hp, SqT.of (s _ _ q4)⟩, by show 2 ≤ 1000; decide, .cons (.inl ⟨rfl, rfl⟩) (.cons (.inl ⟨rfl, rfl⟩) .nil)⟩
  have err : ∀ (E' : XK) (Q' : VK) (H' : Hp), Same H4 H' → (∀ cls d H2, (∃ D j nm, cls = .ref D ∧ d = none ∧ IsErr K CS c1 c2 c3 c4 c5 c6 c7 c8 c9 D j ∧ kinds[j]? = some nm ∧ Same H' H2 ∧ ∀ p H3, Same H2 H3 → H3 p = some (.tup [.str nm, .int 0]) → Alk K H3 3 (.ref p) (.ref q)) → E' cls d H2) → E' (.ref CB) none H' := fun E' Q' H' s hE =>
    hE _ _ _ ⟨CB, 1, "BadNumber", rfl, rfl, eB, rfl, Same.refl H', fun p3 H5 s5 hp => alk p3 H5 (s.trans s5) hp⟩
  refine ⟨l, [f1, f2], .ref q, rfl, O.at l4, by show 2 ≤ 10; decide, fun g hg => ?_, fun Hc s ci => k _ (g4.same (same_sub O.none s))⟩
  have m0 : slotAt σ 13 = some (.int bad) := slotAt_of h13
  have m1 : slotAt σ 2 = some (.ref p) := slotAt_of h2
  rcases List.mem_cons.mp hg with z | hg
  · subst z
    refine tells1 O (L1.keep (keepC_ext (ext_trans e2 (ext_trans (ext_same s3) (ext_same s4))))) (fun H' s Q' E' hQ hE => ?_) hK
    have g5 := g4.same s
    obtain ⟨⟨dx, ob⟩, _⟩ := id g5.dk
    exact ⟨.ref p, by show some (slotAt σ 2) = _; rw [m1], p, dx, _, rfl, ob, rfl, .int bad, by show some (slotAt σ 13) = _; rw [m0], p, r, st, bad, rfl, g5.dk, by omega, fun _ => err E' Q' H' s hE, fun h0 => absurd h0 (by omega)⟩
  · rw [List.mem_singleton.mp hg]
    refine tells1 O (L2.keep (keepC_ext (ext_trans (ext_same s3) (ext_same s4)))) (fun H' s Q' E' hQ hE => ?_) hK
    have g5 := g4.same s
    obtain ⟨⟨dx, ob⟩, _⟩ := id g5.dk
    exact ⟨.ref p, by show some (slotAt σ 2) = _; rw [m1], p, dx, _, rfl, ob, rfl, .int bad, by show some (slotAt σ 13) = _; rw [m0], p, r, st, bad, rfl, g5.dk, fun _ => err E' Q' H' s hE, fun h0 => absurd h0 (by omega)⟩
end
end G38

set_option linter.all false
set_option maxHeartbeats 4000000
namespace G38
open PySem L2 HX LamX NdefX TH
section
variable {C PB a b p r lt ll : Addr} {H H' : Hp} {st st' : DS} {th la : List U}
theorem Cx8.fresh (c : Cx8 C PB a b p r lt ll H st th la) {x : Addr} (hx : H x = none) : x ≠ a ∧ x ≠ b ∧ x ≠ r := by
  obtain ⟨z, cs, h1, h2, _⟩ := c.bx
  obtain ⟨_, ⟨vs, d2, _⟩, _⟩ := c.dk
  exact ⟨fun e => (by rw [e, h1] at hx; cases hx), fun e => (by rw [e, h2] at hx; cases hx), fun e => (by rw [e, d2] at hx; cases hx)⟩
theorem Cx8.lists {lt' ll' : Addr} {th' la' : List U} (c : Cx8 C PB a b p r lt ll H st th la) (ts : ∃ vs, H lt' = some (.lst vs) ∧ Paired (UAt H) th' vs) (ls : ∃ vs, H ll' = some (.lst vs) ∧ Paired (UAt H) la' vs)
    (n1 : lt' ≠ a ∧ lt' ≠ b ∧ lt' ≠ r) (n2 : ll' ≠ a ∧ ll' ≠ b ∧ ll' ≠ r) : Cx8 C PB a b p r lt' ll' H st th' la' := ⟨c.bx, c.dk, ts, ls, c.tb, n1, n2, c.n3⟩
theorem Cx8.app {l : Addr} {ws ws' : List V} (c : Cx8 C PB a b p r lt ll H st th la) (hl : H l = some (.lst ws)) (na : a ≠ l) (nb : b ≠ l) (nr : r ≠ l) (nt : lt ≠ l) (nl : ll ≠ l) : Cx8 C PB a b p r lt ll (upd H l (.lst ws')) st th la := by
  obtain ⟨z, cs, h1, h2, h3⟩ := id c.bx
  obtain ⟨⟨dx, d1⟩, ⟨vs, d2, pw⟩, few, lal⟩ := id c.dk
  have tk : TK H (upd H l (.lst ws')) := fun x xs h => by rw [upd_ne (ne_of h hl (by intro z; cases z))]; exact h
  refine ⟨⟨z, cs, by rw [upd_ne na]; exact h1, by rw [upd_ne nb]; exact h2, h3⟩, ⟨⟨dx, by rw [upd_ne (ne_of d1 hl (by intro z; cases z))]; exact d1⟩, ⟨vs, by rw [upd_ne nr]; exact d2, pw_keep tk pw⟩, few, lal⟩, units_at c.ts (fun vs h => by rw [upd_ne nt]; exact h) tk, units_at c.ls (fun vs h => by rw [upd_ne nl]; exact h) tk, ?_, c.n1, c.n2, c.n3⟩
  exact tabs_kept c.tb (fun x ps h => by rw [upd_ne (ne_of h hl (by intro z; cases z))]; exact h) fun x φ h => by
    rw [upd_ne (ne_of h hl (by intro z; cases z))]
    exact h
end
/-- the law's own state between its turns -/
def LV (C PB a b p l0 : Addr) (n : Nat) (σ : L2.St) (H : Hp) : Prop := ∃ (r lt ll : Addr) (th la : List U) (le : Option Int) (go : Bool) (v7 v8 v9 v10 v11 v12 v13 v14 : Option V),
  σ = [some (.ref l0), some (.ref a), some (.ref p), some (.ref lt), some (.ref ll), some (oV le), some (.bl go), v7, v8, v9, v10, v11, v12, v13, v14] ∧ Cx8 C PB a b p r lt ll H ⟨th ++ la, th.length, le, go⟩ th la ∧ (th ++ la).length ≤ n
theorem te_out {σ : L2.St} {H : Hp} {Q : VK} {us : List U} {l : Nat} {le : Option Int} {go : Bool} (h6 : σ[6]? = some (some (.bl go))) (h5 : σ[5]? = some (some (oV le))) (k : Q (.bl (out ⟨us, l, le, go⟩)) H) :
    tOrV (tVar 6) (tOp rEq (tVar 5) (tC (.int 0))) σ H Q := by
  refine ⟨_, h6, go, rfl, ?_⟩
  cases go with
  | true => exact iteT k
  | false =>
    refine iteF ⟨_, h5, by cases le <;> rfl, ?_⟩
    have z : decide (oV le = V.int 0) = out ⟨us, l, le, false⟩ := by
      unfold out
      rw [Bool.false_or]
      cases le with
      | none => rfl
      | some i =>
        by_cases c : i = 0
        · subst c; rfl
        · rw [decide_eq_false (fun z => c (by injection z)), decide_eq_false (fun z => c (by injection z))]
    rw [z]
    exact k
theorem nB {te : TE} {σ : L2.St} {H : Hp} {Q : Bool → Hp → Prop} (h : te σ H fun x H1 => ∃ k, x = .bl k ∧ Q (!k) H1) : tNot (tB te) σ H Q := h
theorem te_left {σ : L2.St} {H : Hp} {Q : VK} {le : Option Int} (h10 : σ[10]? = some (some (.bl false))) (h5 : σ[5]? = some (some (oV le))) (k : Q (oV (le.map (· - 1))) H) :
    tIf (tOr (tB (tVar 10)) (tTest (tOp (fun x y H Q => y = .non ∧ Q (.bl (decide (x = .non))) H) (tVar 5) (tC .non)))) (tVar 5) (tOp (rI0 fun i j => .int (i - j)) (tVar 5) (tC (.int 1))) σ H Q := by
  cases le with
  | none => exact ⟨_, h10, _, rfl, iteF ⟨_, h5, rfl, _, rfl, iteT ⟨_, h5, k⟩⟩⟩
  | some i => exact ⟨_, h10, _, rfl, iteF ⟨_, h5, rfl, _, rfl, iteF ⟨_, h5, i, 1, rfl, rfl, k⟩⟩⟩
theorem alk_gone {K : PySem.W.Frag} {H : Hp} {x y : Addr} (hx : H x = some (.tup [.str "Gone", .int 0])) (hy : H y = some (.tup [.str "Gone", .int 0])) : Alk K H 3 (.ref x) (.ref y) :=
  .inr ⟨x, y, _, _, rfl, rfl, .inl ⟨SqT.of hx, SqT.of hy⟩, by show 2 ≤ 1000; decide, .cons (.inl ⟨rfl, rfl⟩) (.cons (.inl ⟨rfl, rfl⟩) .nil)⟩
theorem alk_units {K : PySem.W.Frag} {H : Hp} {x y : Addr} {us : List U} {vs ws : List V} (hx : H x = some (.lst vs)) (hy : H y = some (.lst ws)) (px : Paired (UAt H) us vs) (py : Paired (UAt H) us ws) (few : us.length ≤ 200) : Alk K H 3 (.ref x) (.ref y) :=
  alk_of (d := .l (us.map uD)) (.inr (.inr ⟨x, _, vs, rfl, rfl, hx, by rw [List.length_map]; omega, pw_map (pw_imp (fun _ _ q => q.data) px)⟩)) (.inr (.inr ⟨y, _, ws, rfl, rfl, hy, by rw [List.length_map]; omega, pw_map (pw_imp (fun _ _ q => q.data) py)⟩))
section
variable {P : Program} {w : World} {K : PySem.W.Frag} {mg : Str → Option Value} {base : Heap} {C CG CB CS c1 c2 c3 c4 c5 c6 c7 c8 c9 cB PB : Addr}
theorem scLw : FnScope ["_law_script", "_law_box", "_law_disk", "_law_there", "_law_late", "_law_left", "_law_is_gone", "_law_turn", "_law_way", "_law_unit", "_law_is_out", "_law_found", "_law_cut", "_law_bad", "_law_again"] ["_law_script"] (defScope sLaw) := ⟨rfl, rfl, rfl, by decide +kernel, rfl, by decide +kernel, by decide +kernel⟩
theorem ok_law {f fI f1 f2 f3 f4 f5 fb ft fk fT fA : Addr} {fdI fd1 fd2 fd3 fd4 fd5 fdb fdt fdk fdT fdA : FuncData} {kV doc pm ct oc : Value} {an od : Option Addr} {osl : Array (Option Value)}
    (lk : K.lookup f = some ⟨oc, od, .func (PySem.W.fnOf "law" "law" (defArgs sLaw) (defBody sLaw) (defScope sLaw) .none kV doc pm an (.ref cB) ct), osl⟩) (hcd : PySem.W.codeIn K (.ref cB) "law" = true) (TB : TabB base mg cB PB)
    (T : TxtL K mg C CG CB) (TE : TxtE K mg CS c1 c2 c3 c4 c5 c6 c7 c8 c9) (eG : IsErr K CS c1 c2 c3 c4 c5 c6 c7 c8 c9 CG 5) (eB : IsErr K CS c1 c2 c3 c4 c5 c6 c7 c8 c9 CB 1) (MD : Mk K C fI) (GD : FnOk P w K mg base CX0 1 fI fdI ["self"] (spDInit C)) (bD : Binds K fdI ["self"] [])
    (Mwrite : Meth K C "write" f1) (Gwrite : FnOk P w K mg base (L2.CX P w) 4 f1 fd1 ["self", "unit"] (spWrite C CG)) (bwrite : Binds K fd1 ["self", "unit"] [])
    (Msettle : Meth K C "settle" f2) (Gsettle : FnOk P w K mg base (L2.CX P w) 4 f2 fd2 ["self"] (spSettle C CG)) (bsettle : Binds K fd2 ["self"] [])
    (Munits : Meth K C "units" f3) (Gunits : FnOk P w K mg base (L2.CX P w) 5 f3 fd3 ["self"] (spUnits C CG)) (bunits : Binds K fd3 ["self"] [])
    (Marm : Meth K C "arm" f4) (Garm : FnOk P w K mg base (L2.CX P w) 5 f4 fd4 ["self", "many"] (spArm C CB)) (barm : Binds K fd4 ["self", "many"] [])
    (Mfall : Meth K C "fall" f5) (Gfall : FnOk P w K mg base (L2.CX P w) 5 f5 fd5 ["self", "cut"] (spFall C CB)) (bfall : Binds K fd5 ["self", "cut"] [])
    (Cbegun : Cal P w K mg base 1 "_law_begun" ["_law_script"] (spBegun K) fb fdb) (Ctake : Cal P w K mg base 1 "_law_take" ["_law_box", "_law_many"] (spTake K) ft fdt)
    (Calike : Cal P w K mg base 7 "_law_alike" ["_law_found", "_law_due"] (spAlk K 3) fk fdk) (Ctold : Cal P w K mg base 7 "_law_told" ["_law_work"] (spTold P w K mg base 6 CS c1 c2 c3 c4 c5 c6 c7 c8 c9) fT fdT)
    (Call : Cal P w K mg base 8 "_law_all" ["_law_works", "_law_due"] (spAll P w K mg base 6 3 CS c1 c2 c3 c4 c5 c6 c7 c8 c9) fA fdA) :
    FnOk P w K mg base CX0 9 f (PySem.W.fnOf "law" "law" (defArgs sLaw) (defBody sLaw) (defScope sLaw) .none kV doc pm an (.ref cB) ct) ["_law_script"] (spLaw K PB) := by
  refine fn_of lk hcd scLw (fun vs H Q E h => ?_) (fun A outer s H vs Q E hr h => ?_)
  · obtain ⟨a, ns, rfl, _⟩ := h
    rfl
  · obtain ⟨l0, ns, rfl, hS, hlen, hT, k⟩ := h
    have hr8 : Room 8 _ := hr
    have hr7 := hr8.mono (j := 7) (by decide)
    have hr5 := hr8.mono (j := 5) (by decide)
    have hr2 := hr8.mono (j := 2) (by decide)
    have hr1 := hr8.mono (j := 1) (by decide)
    suffices hh : ∃ t, PSs (cxOf CX0 P w K mg base ["_law_script", "_law_box", "_law_disk", "_law_there", "_law_late", "_law_left", "_law_is_gone", "_law_turn", "_law_way", "_law_unit", "_law_is_out", "_law_found", "_law_cut", "_law_bad", "_law_again"] "law" (defScope sLaw) f (.ref cB) A outer s H E).nox (defBody sLaw) t ∧ t { nx := fun _ H' => Q .non H', rt := Q } (L2.start ["_law_script", "_law_box", "_law_disk", "_law_there", "_law_late", "_law_left", "_law_is_gone", "_law_turn", "_law_way", "_law_unit", "_law_is_out", "_law_found", "_law_cut", "_law_bad", "_law_again"] [V.ref l0]) H by
      obtain ⟨t, h1, h2⟩ := hh
      exact ⟨t, h1.nox, h2⟩
    refine ⟨_, (pss_cons (ps_set (i := 1) scLw.nd rfl (Or.inl rfl) (pe_call Cbegun.G hr1 (by rfl) Cbegun.g Cbegun.kp Cbegun.b .nil pass0 (pa_cons (pv 0) pa_nil)))
      (pss_cons (ps_asg (pe_tup (pa_cons (pe_make0 MD GD hr2 rfl T.mgD bD .nil pass0) (pa_cons (pe_lst pa_nil) (pa_cons (pe_lst pa_nil) (pa_cons pe_non (pa_cons pe_bl pa_nil)))))) (RK.pgTup (K := K) (n := 5) rfl (pgs_cons (pg_name (i := 2) scLw.nd rfl (Or.inr rfl)) (pgs_cons (pg_name (i := 3) scLw.nd rfl (Or.inl rfl)) (pgs_cons (pg_name (i := 4) scLw.nd rfl (Or.inl rfl)) (pgs_cons (pg_name (i := 5) scLw.nd rfl (Or.inl rfl)) (pgs_cons (pg_name (i := 6) scLw.nd rfl (Or.inl rfl)) pgs_nil)))))))
      (pss_cons (ps_for PassesOwn.never rfl (pi_range1 rfl T.range (pa_cons (pe_call Ctake.G hr1 (by rfl) Ctake.g Ctake.kp Ctake.b .nil pass0 (pa_cons (pv 1) (pa_cons (pe_ix (RK.ixL (K := K)) (pe_lst (pa_cons pe_int (pa_cons pe_int pa_nil))) (pe_call Ctake.G hr1 (by rfl) Ctake.g Ctake.kp Ctake.b .nil pass0 (pa_cons (pv 1) (pa_cons pe_int pa_nil))) (fun _ _ => rfl)) pa_nil))) pa_nil)) (pg_name (i := 7) scLw.nd rfl (Or.inl rfl))
        (pss_cons (ps_asg (pe_tup (pa_cons (pe_call Ctake.G hr1 (by rfl) Ctake.g Ctake.kp Ctake.b .nil pass0 (pa_cons (pv 1) (pa_cons pe_int pa_nil))) (pa_cons (pe_tup (pa_cons pe_str (pa_cons (pv 7) (pa_cons (pe_tup (pa_cons (pe_call Ctake.G hr1 (by rfl) Ctake.g Ctake.kp Ctake.b .nil pass0 (pa_cons (pv 1) (pa_cons pe_int pa_nil))) (pa_cons pe_non pa_nil))) pa_nil)))) pa_nil))) (RK.pgTup (K := K) (n := 2) rfl (pgs_cons (pg_name (i := 8) scLw.nd rfl (Or.inl rfl)) (pgs_cons (pg_name (i := 9) scLw.nd rfl (Or.inr rfl)) pgs_nil))))
        (pss_cons (ps_if (pt_cmpR op_lt (pv 8) pe_int (nomark _)) (pss_cons (ps_set (i := 10) scLw.nd rfl (Or.inl rfl) (pe_or (pv 6) (pe_one (pe_cmpR op_eq (pv 5) pe_int (nomark _)))))
          (pss_cons (ps_set (i := 11) scLw.nd rfl (Or.inl rfl) (TH.pe_callC (E := E0) Ctold.G hr7 (by rfl) Ctold.g Ctold.kp Ctold.b .nil (fun _ => rfl) (pa_cons (pe_ifExp (pt_cmpR op_gt (pv 8) pe_int (nomark _)) (TH.pe_lam0 (k := 5) (T := Tb PB) (c := cB) (P := PB) (N := ["_law_disk"]) (js := [2]) TB rfl (List.mem_singleton.mpr rfl) (fun q m _ => by rw [List.mem_singleton.mp m]; rfl) (nscope_by (by decide +kernel)) (by show ndefB (defScope sLaw) _ _ = true; decide +kernel) rfl rfl (fun _ _ _ => rfl) (fun f9 c9 A9 o9 s9 H9 E9 r9 => (pe_meth0 (pe_var (i := 0) rfl (.inr (.inr rfl))) T.cl Msettle Gsettle (r9.mono (by decide)) bsettle .nil passN))) (TH.pe_lam1 (k := 5) (T := Tb PB) (c := cB) (P := PB) (p := "_law_a") (N := ["_law_a", "_law_disk", "_law_unit"]) (fr := ["_law_disk", "_law_unit"]) (js := [2, 9]) TB rfl (List.mem_singleton.mpr rfl) (fun q m _ => by rw [List.mem_singleton.mp m]; rfl) (nscope_by (by decide +kernel)) (by show ndefB (defScope sLaw) _ _ = true; decide +kernel) rfl rfl (fun _ _ _ _ => ⟨_, rfl, fun _ => rfl⟩) pe_int (fun f9 c9 A9 o9 s9 H9 E9 r9 => (pe_meth (pe_var (i := 1) rfl (.inr (.inr rfl))) T.cl Mwrite Gwrite (r9.mono (by decide)) bwrite .nil passN (pa_cons (pe_var (i := 2) rfl (.inr (.inr rfl))) pa_nil))))) pa_nil)))
          (pss_cons (ps_if (pt_not (pt_val (pe_call Calike.G hr7 (by rfl) Calike.g Calike.kp Calike.b .nil pass0 (pa_cons (pv 11) (pa_cons (pe_ifExp (pt_val (pv 10)) (pe_tup (pa_cons pe_str (pa_cons pe_int pa_nil))) pe_non) pa_nil))))) (pss_one (ps_ret pe_bl)) pss_nil)
          (pss_cons (ps_set (i := 6) scLw.nd rfl (Or.inl rfl) (pv 10))
          (pss_cons (ps_set (i := 5) scLw.nd rfl (Or.inl rfl) (pe_ifExp (PW.pt (pw_or (pt_val (pv 10)) (pw_or1 (pt_cmpR op_isN (pv 5) pe_non (nomark _))))) (pv 5) (pe_op op_sub (pv 5) pe_int)))
          (pss_one (ps_if (PW.pt (pw_and (pt_not (pt_val (pv 10))) (pw_and1 (pt_cmpR op_gt (pv 8) pe_int (nomark _))))) (pss_one (ps_par (i := 3) (j := 4) (by rfl) scLw.nd rfl rfl (by decide) rfl rfl (pa_cons (pe_op op_cat (pv 3) (pv 4)) (pa_cons (pe_lst pa_nil) pa_nil)) (by rfl))) (pss_one (ps_if (pt_not (pt_val (pv 10))) (pss_one (ps_set (i := 4) scLw.nd rfl (Or.inl rfl) (pe_op op_cat (pv 4) (pe_lst (pa_cons (pv 9) pa_nil))))) pss_nil))))))))) (pss_one (ps_if (PW.pt (pw_and (pt_cmpR op_eq (pv 8) pe_int (nomark _)) (pw_and1 (pt_not (pt_val (pv 6)))))) (pss_cons (ps_set (i := 5) scLw.nd rfl (Or.inl rfl) (pe_call Ctake.G hr1 (by rfl) Ctake.g Ctake.kp Ctake.b .nil pass0 (pa_cons (pv 1) (pa_cons pe_int pa_nil))))
            (pss_one (ps_expr (pe_meth (pv 2) T.cl Marm Garm hr5 barm .nil passF (pa_cons (pv 5) pa_nil))))) (pss_one (ps_if (pt_cmpR op_gt (pv 8) pe_int (nomark _)) (pss_cons (ps_set (i := 12) scLw.nd rfl (Or.inl rfl) (pe_call Ctake.G hr1 (by rfl) Ctake.g Ctake.kp Ctake.b .nil pass0 (pa_cons (pv 1) (pa_cons (pe_ix (RK.ixL (K := K)) (pe_lst (pa_cons pe_int (pa_cons pe_int pa_nil))) (pe_call Ctake.G hr1 (by rfl) Ctake.g Ctake.kp Ctake.b .nil pass0 (pa_cons (pv 1) (pa_cons pe_int pa_nil))) (fun _ _ => rfl)) pa_nil))))
              (pss_cons (ps_expr (pe_meth (pv 2) T.cl Mfall Gfall hr5 bfall .nil passF (pa_cons (pv 12) pa_nil)))
              (pss_one (ps_asg (pe_tup (pa_cons (pe_op op_cat (pv 3) (pe_slice (RK.slL (K := K)) (pv 4) po_none (po_some (pv 12)))) (pa_cons (pe_lst pa_nil) (pa_cons pe_non (pa_cons pe_bl pa_nil))))) (RK.pgTup (K := K) (n := 4) rfl (pgs_cons (pg_name (i := 3) scLw.nd rfl (Or.inl rfl)) (pgs_cons (pg_name (i := 4) scLw.nd rfl (Or.inl rfl)) (pgs_cons (pg_name (i := 5) scLw.nd rfl (Or.inl rfl)) (pgs_cons (pg_name (i := 6) scLw.nd rfl (Or.inl rfl)) pgs_nil))))))))) pss_nil)))))
        (pss_cons (ps_set (i := 13) scLw.nd rfl (Or.inr rfl) (pe_op op_sub (pe_un un_neg pe_int) (pe_call Ctake.G hr1 (by rfl) Ctake.g Ctake.kp Ctake.b .nil pass0 (pa_cons (pv 1) (pa_cons pe_int pa_nil)))))
        (pss_cons (ps_if (pt_not (pt_val (TH.pe_callC (E := E0) Call.G hr8 (by rfl) Call.g Call.kp Call.b .nil (fun _ => rfl) (pa_cons (pe_lst (pa_cons (TH.pe_lam0 (k := 5) (T := Tb PB) (c := cB) (P := PB) (N := ["_law_bad", "_law_disk"]) (js := [13, 2]) TB rfl (List.mem_singleton.mpr rfl) (fun q m _ => by rw [List.mem_singleton.mp m]; rfl) (nscope_by (by decide +kernel)) (by show ndefB (defScope sLaw) _ _ = true; decide +kernel) rfl rfl (fun _ _ _ => rfl) (fun f9 c9 A9 o9 s9 H9 E9 r9 => (pe_meth (pe_var (i := 1) rfl (.inr (.inr rfl))) T.cl Mfall Gfall (r9.mono (by decide)) bfall .nil passN (pa_cons (pe_var (i := 0) rfl (.inr (.inr rfl))) pa_nil)))) (pa_cons (TH.pe_lam1 (k := 5) (T := Tb PB) (c := cB) (P := PB) (p := "_law_a") (N := ["_law_a", "_law_bad", "_law_disk"]) (fr := ["_law_bad", "_law_disk"]) (js := [13, 2]) TB rfl (List.mem_singleton.mpr rfl) (fun q m _ => by rw [List.mem_singleton.mp m]; rfl) (nscope_by (by decide +kernel)) (by show ndefB (defScope sLaw) _ _ = true; decide +kernel) rfl rfl (fun _ _ _ _ => ⟨_, rfl, fun _ => rfl⟩) pe_int (fun f9 c9 A9 o9 s9 H9 E9 r9 => (pe_meth (pe_var (i := 2) rfl (.inr (.inr rfl))) T.cl Marm Garm (r9.mono (by decide)) barm .nil passN (pa_cons (pe_var (i := 1) rfl (.inr (.inr rfl))) pa_nil)))) pa_nil))) (pa_cons (pe_tup (pa_cons pe_str (pa_cons pe_int pa_nil))) pa_nil))))) (pss_one (ps_ret pe_bl)) pss_nil)
        (pss_one (ps_for PassesOwn.never rfl (pi_range1 rfl T.range (pa_cons pe_int pa_nil)) (pg_name (i := 14) scLw.nd rfl (Or.inl rfl))
          (pss_cons (ps_set (i := 11) scLw.nd rfl (Or.inl rfl) (TH.pe_callC (E := E0) Ctold.G hr7 (by rfl) Ctold.g Ctold.kp Ctold.b .nil (fun _ => rfl) (pa_cons (TH.pe_lam0 (k := 5) (T := Tb PB) (c := cB) (P := PB) (N := ["_law_disk"]) (js := [2]) TB rfl (List.mem_singleton.mpr rfl) (fun q m _ => by rw [List.mem_singleton.mp m]; rfl) (nscope_by (by decide +kernel)) (by show ndefB (defScope sLaw) _ _ = true; decide +kernel) rfl rfl (fun _ _ _ => rfl) (fun f9 c9 A9 o9 s9 H9 E9 r9 => (pe_meth0 (pe_var (i := 0) rfl (.inr (.inr rfl))) T.cl Munits Gunits (r9.mono (by decide)) bunits .nil passN))) pa_nil)))
          (pss_cons (ps_if (pt_not (pt_val (pe_call Calike.G hr7 (by rfl) Calike.g Calike.kp Calike.b .nil pass0 (pa_cons (pv 11) (pa_cons (pe_ifExp (pt_val (pv 6)) (pe_tup (pa_cons pe_str (pa_cons pe_int pa_nil))) (pe_op op_cat (pv 3) (pv 4))) pa_nil))))) (pss_one (ps_ret pe_bl)) pss_nil)
          (pss_one (ps_if (pt_not (pt_val (pv 6))) (pss_one (ps_expr (RK.bm (K := K) PySem.F.plainAttrs_list PySem.F.slot_list_append PySem.F.type_list_append mt_append (pv 11) (pa_cons pe_int pa_nil)))) pss_nil)))))))))))
      (pss_one (ps_ret pe_bl))))), ?_⟩
    have KX : (cxOf CX0 P w K mg base ["_law_script", "_law_box", "_law_disk", "_law_there", "_law_late", "_law_left", "_law_is_gone", "_law_turn", "_law_way", "_law_unit", "_law_is_out", "_law_found", "_law_cut", "_law_bad", "_law_again"] "law" (defScope sLaw) f (.ref cB) A outer s H E).nox.K = K := rfl
    refine sa1 ?_
    refine ⟨_, rfl, l0, ns, rfl, hS, hlen, fun a b H1 na nb bx s1 => ?_⟩
    refine gn ?_
    have t1 := hT.ext s1
    -- the disk, the lists
    refine sa1 ?_
    refine fun p dx np ndx nxp => ?_
    refine ⟨p, dx, rfl, upd_same, fun r H2 nr d2 k2 => ⟨rfl, ?_⟩⟩
    have e12 : ∀ x o, H1 x = some o → H2 x = some o := fun x o h => k2 x o (by rw [upd_ne (ne_of_none h np), upd_ne (ne_of_none h ndx)]; exact h) (ne_of_none h np)
    refine ⟨(by show 0 ≤ sizeLine; decide), fun lt nlt => ⟨(by show 0 ≤ sizeLine; decide), fun ll nll => ?_⟩⟩
    refine ⟨(by show 5 ≤ sizeLine; decide), fun tq ntq => ?_⟩
    have s3 := same_new (o := .lst []) nlt
    have e3 : (upd H2 lt (.lst [])) lt = some (.lst []) := upd_same
    generalize upd H2 lt (.lst []) = H3 at s3 e3 nll ntq ⊢
    have s4 := same_new (o := .lst []) nll
    have e4 : (upd H3 ll (.lst [])) ll = some (.lst []) := upd_same
    generalize upd H3 ll (.lst []) = H4 at s4 e4 ntq ⊢
    have s5 := same_new (o := .tup [V.ref p, V.ref lt, V.ref ll, V.non, V.bl false]) ntq
    have e5 : (upd H4 tq (.tup [V.ref p, V.ref lt, V.ref ll, V.non, V.bl false])) tq = some (.tup [V.ref p, V.ref lt, V.ref ll, V.non, V.bl false]) := upd_same
    generalize upd H4 tq (.tup [V.ref p, V.ref lt, V.ref ll, V.non, V.bl false]) = H5 at s5 e5 ⊢
    have t2 : Tabs (Tb PB) H2 := t1.ext e12
    obtain ⟨z0, cs0, b1, b2, b3⟩ := id bx
    obtain ⟨⟨dx2, d1'⟩, ⟨vs0, d2', pw0⟩, few0, lal0⟩ := id d2
    have r1 : H1 r = none := by
      cases q : H1 r with
      | none => rfl
      | some o => rw [upd_ne (ne_of_none q np), upd_ne (ne_of_none q ndx), q] at nr; cases nr
    have ra : r ≠ a := (ne_of_none b1 r1).symm
    have rb : r ≠ b := (ne_of_none b2 r1).symm
    have c2 : Cx8 C PB a b p r lt ll H5 ⟨[] ++ [], ([] : List U).length, none, false⟩ [] [] := by
      have ss := (s3.trans s4).trans s5
      refine ⟨⟨z0, cs0, ss _ _ (e12 _ _ b1), ss _ _ (e12 _ _ b2), b3⟩, d2.ext (ext_same ss), ⟨[], s5 _ _ (s4 _ _ e3), .nil⟩, ⟨[], s5 _ _ e4, .nil⟩, t2.ext ss,
        ⟨(ne_of_none (e12 _ _ b1) nlt).symm, (ne_of_none (e12 _ _ b2) nlt).symm, (ne_of_none d2' nlt).symm⟩, ⟨(ne_of_none (s3 _ _ (e12 _ _ b1)) nll).symm, (ne_of_none (s3 _ _ (e12 _ _ b2)) nll).symm, (ne_of_none (s3 _ _ d2') nll).symm⟩, ra, rb⟩
    refine ⟨tq, _, rfl, SqT.of e5, rfl, ?_⟩
    refine ⟨_, _, rfl, gn ⟨_, _, rfl, gn ⟨_, _, rfl, gn ⟨_, _, rfl, gn ⟨_, _, rfl, gn ⟨rfl, ?_⟩⟩⟩⟩⟩⟩
    refine rg1 ?_
    refine pick1 rfl c2.bx (by decide) (by decide) fun n H6 n0 n1 bx6 k6 => ?_
    have c6 := c2.take bx6 k6
    refine ⟨n, rfl, by omega, by omega, ?_⟩
    refine for_range (lo := 0) (n := n.toNat) (fun i σ H' => LV C PB a b p l0 i σ H') ⟨r, lt, ll, [], [], none, false, none, none, none, none, none, none, none, none, rfl, c6, Nat.le_refl _⟩ ?_ fun σ H' _ => k H'
    clear c2 c6 bx6 k6 bx d2 nr
    rintro i σ H7 hi ⟨r, lt, ll, th, la, le, go, v7, v8, v9, v10, v11, v12, v13, v14, rfl, c, few⟩
    have hi60 : i < 61 := by omega
    refine gn ?_
    -- way, unit
    refine sa1 ?_
    refine tk1 rfl c.bx (by decide) (by decide) fun way H8 w0 w1 bx8 k8 => ?_
    have c8 := c.take bx8 k8
    refine ⟨_, rfl, ?_⟩
    refine tk1 rfl c8.bx (by decide) (by decide) fun un H9 u0 u1 bx9 k9 => ?_
    have g9 := c8.take bx9 k9
    refine ⟨(by show 2 ≤ sizeLine; decide), fun q1 nq1 => ⟨(by show 3 ≤ sizeLine; decide), fun q2 nq2 => ⟨(by show 2 ≤ sizeLine; decide), fun q3 nq3 => ?_⟩⟩⟩
    have s1 := same_new (o := .tup [V.int un, V.non]) nq1
    have e1 : (upd H9 q1 (.tup [V.int un, V.non])) q1 = some (.tup [V.int un, V.non]) := upd_same
    generalize upd H9 q1 (.tup [V.int un, V.non]) = HA at s1 e1 nq2 nq3 ⊢
    have s2 := same_new (o := .tup [V.str "unit", V.int (0 + (i : Nat)), V.ref q1]) nq2
    have e2 : (upd HA q2 (.tup [V.str "unit", V.int (0 + (i : Nat)), V.ref q1])) q2 = some (.tup [V.str "unit", V.int (0 + (i : Nat)), V.ref q1]) := upd_same
    generalize upd HA q2 (.tup [V.str "unit", V.int (0 + (i : Nat)), V.ref q1]) = HB at s2 e2 nq3 ⊢
    have s3 := same_new (o := .tup [V.int way, V.ref q2]) nq3
    have e3 : (upd HB q3 (.tup [V.int way, V.ref q2])) q3 = some (.tup [V.int way, V.ref q2]) := upd_same
    generalize upd HB q3 (.tup [V.int way, V.ref q2]) = HC at s3 e3 ⊢
    have gc := ((g9.same s1).same s2).same s3
    have hu : UAt HC ((0 + (i : Nat) : Int), un) (.ref q2) := ⟨q2, q1, rfl, s3 _ _ e2, s3 _ _ (s2 _ _ e1)⟩
    refine ⟨q3, _, rfl, SqT.of e3, rfl, _, _, rfl, gn ⟨_, _, rfl, gn ⟨rfl, ?_⟩⟩⟩
    clear s1 s2 s3 e1 e2 e3 nq1 nq2 nq3 g9 c8 bx8 bx9 k8 k9 c
    have few2 : (th ++ la).length < 200 := by omega
    -- the deed; behind it the state is whole again
    refine sifR (fun σ' H' => LV C PB a b p l0 (i + 1) σ' H') ?_ fun Rest => ?_
    · rintro σ' HD ⟨r, lt, ll, th, la, le, go, v7, v8, v9, v10, v11, v12, v13, v14, rfl, c, few⟩
      refine sa1 ⟨_, rfl, tk1 rfl c.bx (by decide) (by decide) fun m HE m0 m1 bxe ke => ⟨_, _, rfl, rfl, gn ?_⟩⟩
      have ce := c.take bxe ke
      refine sif (nB ?_)
      refine te_alls (bad := -1 - m) KX eB ce ?_ ?_ (by omega) ?_
      · rfl
      · rfl
      refine fun HF cf => ⟨_, rfl, iteF ?_⟩
      dsimp only [tNext]
      refine ⟨2, rfl, by decide, by decide, for_range (lo := 0) (n := 2) (fun _ σ H' => LV C PB a b p l0 (i + 1) σ H') ⟨r, lt, ll, th, la, le, go, _, _, _, _, _, _, _, _, rfl, cf, few⟩ ?_ fun σ H' h => h⟩
      rintro j σ HG hj ⟨r, lt, ll, th, la, le, go, v7, v8, v9, v10, v11, v12, v13, v14, rfl, c, few⟩
      have few3 : (th ++ la).length ≤ 200 := by omega
      refine gn ?_
      refine sa1 (te_un KX eG c rfl ?_ ?_)
      · intro eg q HH ch hq
        have eg : go = true := eg
        subst eg
        refine gn ?_
        refine sif ⟨_, rfl, _, rfl, _, rfl, iteT ⟨(by show 2 ≤ sizeLine; decide), fun q2 nq2 => ?_⟩⟩
        have s1 := same_new (o := .tup [V.str "Gone", V.int 0]) nq2
        refine ⟨_, _, rfl, alk_gone (s1 _ _ hq) upd_same, _, rfl, iteF ?_⟩
        dsimp only [tNext]
        exact ifs ⟨_, rfl, _, rfl, iteF ⟨r, lt, ll, th, la, le, true, _, _, _, _, _, _, _, _, rfl, ch.same s1, few⟩⟩
      · intro eg l HH ws ch hl pw nel
        have eg : go = false := eg
        subst eg
        obtain ⟨vt, ht, pt⟩ := ch.ts
        obtain ⟨vl, hl2, pl⟩ := ch.ls
        have l1 := pw_len pt
        have l2 := pw_len pl
        have lsum : th.length + la.length ≤ 200 := by rw [List.length_append] at few3; exact few3
        refine gn ?_
        refine sif ⟨_, rfl, _, rfl, _, rfl, iteF ⟨_, rfl, _, rfl, lt, ll, vt, vl, rfl, rfl, ht, hl2, Nat.le_trans (by omega : vt.length + vl.length ≤ 200) (by show 200 ≤ sizeLine; decide), fun x nx => ?_⟩⟩
        have s1 := same_new (o := .lst (vt ++ vl)) nx
        have ex : (upd HH x (.lst (vt ++ vl))) x = some (.lst (vt ++ vl)) := upd_same
        have xl : l ≠ x := ne_of_none hl nx
        generalize upd HH x (.lst (vt ++ vl)) = HI at s1 ex ⊢
        have hl3 := s1 _ _ hl
        refine ⟨_, _, rfl, alk_units hl3 ex (pw_keep (TK.same s1) pw) (pw_keep (TK.same s1) (pw_app pt pl)) few3, _, rfl, iteF ?_⟩
        dsimp only [tNext]
        have ci := ch.same s1
        refine ifs ⟨_, rfl, _, rfl, iteT ⟨_, rfl, .inl ⟨rfl, _, SqL.of hl3⟩, l, _, _, rfl, rfl, hl3, ?_, ?_⟩⟩
        · have lw := pw_len pw
          have lw : (th ++ la).length = ws.length := lw
          exact Nat.lt_of_le_of_lt (by omega : ws.length ≤ 200) (by show 200 < sizeLine; decide)
        · obtain ⟨z, cs, b1, b2, _⟩ := c.bx
          obtain ⟨_, ⟨vs, d2, _⟩, _⟩ := c.dk
          obtain ⟨_, g1, _⟩ := c.ts
          obtain ⟨_, g2, _⟩ := c.ls
          exact ⟨r, lt, ll, th, la, le, false, _, _, _, _, _, _, _, _, rfl, ci.app hl3 (nel _ _ b1) (nel _ _ b2) (nel _ _ d2) (nel _ _ g1) (nel _ _ g2), few⟩
    · refine ⟨_, rfl, _, _, rfl, rfl, _, rfl, ?_⟩
      by_cases c7 : way < 7
      · rw [decide_eq_true c7]
        refine iteT ?_
        refine sa1 ?_
        refine te_out (us := th ++ la) (l := th.length) rfl rfl ?_
        refine gn ?_
        refine sa1 ?_
        refine te_ws KX eG gc rfl rfl rfl hu few2 ?_ ?_ ?_
        · intro o q HD cd tk hq
          rw [o]
          refine gn ?_
          refine sif ⟨_, rfl, _, rfl, _, rfl, iteT ⟨(by show 2 ≤ sizeLine; decide), fun q2 nq2 => ?_⟩⟩
          have s1 := same_new (o := .tup [V.str "Gone", V.int 0]) nq2
          refine ⟨_, _, rfl, alk_gone (s1 _ _ hq) upd_same, _, rfl, iteF ?_⟩
          have ce := cd.same s1
          dsimp only [tNext]
          refine sa1 ⟨_, rfl, gn ?_⟩
          refine sa1 ⟨_, rfl, _, rfl, iteT (iteT ⟨_, rfl, gn ?_⟩)⟩
          refine ifs ⟨_, rfl, _, rfl, iteF (iteF (ifs ⟨_, rfl, _, rfl, iteF (Rest _ _ ?_)⟩))⟩
          exact ⟨r, lt, ll, th, la, le, true, _, _, _, _, _, _, _, _, rfl, ce, by omega⟩
        · intro o cw HD cd tk
          have eg := out_go o
          have eg : go = false := eg
          subst eg
          rw [o]
          refine gn ?_
          refine sif ⟨_, rfl, _, rfl, _, rfl, iteF ?_⟩
          refine ⟨_, _, rfl, .inl ⟨rfl, rfl⟩, _, rfl, iteF ?_⟩
          dsimp only [tNext]
          refine sa1 ⟨_, rfl, gn ?_⟩
          refine sa1 (te_left (le := le) rfl rfl (gn ?_))
          refine ifs ⟨_, rfl, _, rfl, iteT ⟨_, rfl, _, _, rfl, rfl, _, rfl, ?_⟩⟩
          rw [decide_eq_true cw]
          refine iteT ?_
          obtain ⟨vt, ht, pt⟩ := cd.ts
          obtain ⟨vl, hl, pl⟩ := cd.ls
          have l1 := pw_len pt
          have l2 := pw_len pl
          have lsum : th.length + la.length < 200 := by rw [List.length_append] at few2; exact few2
          refine ⟨_, rfl, _, rfl, lt, ll, vt, vl, rfl, rfl, ht, hl, Nat.le_trans (by omega : vt.length + vl.length ≤ 200) (by show 200 ≤ sizeLine; decide), fun x nx => ⟨(by show 0 ≤ sizeLine; decide), fun y ny => ⟨_, _, rfl, Rest _ _ ?_⟩⟩⟩
          have sx := same_new (o := .lst (vt ++ vl)) nx
          have ex : (upd HD x (.lst (vt ++ vl))) x = some (.lst (vt ++ vl)) := upd_same
          have sy := same_new (o := .lst []) ny
          have c3 := cd.same (sx.trans sy)
          have f1 := cd.fresh nx
          have f2 := (cd.same sx).fresh ny
          refine ⟨r, x, y, th ++ la, [], le.map (· - 1), false, _, _, _, _, _, _, _, _, rfl, ?_, by rw [List.append_nil]; omega⟩
          have z : (⟨(th ++ la) ++ [], (th ++ la).length, le.map (· - 1), false⟩ : DS) = { tick (⟨th ++ la, th.length, le, false⟩ : DS) with la := (⟨th ++ la, th.length, le, false⟩ : DS).us.length } := by rw [List.append_nil]; rfl
          rw [z]
          exact c3.lists ⟨_, sy _ _ ex, pw_keep (TK.same (sx.trans sy)) (pw_app pt pl)⟩ ⟨[], upd_same, .nil⟩ f1 f2
        · intro o cw HD cd tk
          have eg := out_go o
          have eg : go = false := eg
          subst eg
          rw [o]
          refine gn ?_
          refine sif ⟨_, rfl, _, rfl, _, rfl, iteF ?_⟩
          refine ⟨_, _, rfl, .inl ⟨rfl, rfl⟩, _, rfl, iteF ?_⟩
          dsimp only [tNext]
          refine sa1 ⟨_, rfl, gn ?_⟩
          refine sa1 (te_left (le := le) rfl rfl (gn ?_))
          refine ifs ⟨_, rfl, _, rfl, iteT ⟨_, rfl, _, _, rfl, rfl, _, rfl, ?_⟩⟩
          rw [decide_eq_false cw]
          refine iteF (ifs ⟨_, rfl, _, rfl, iteT ?_⟩)
          obtain ⟨vl, hl, pl⟩ := cd.ls
          have l2 := pw_len pl
          have lsum : th.length + la.length < 200 := by rw [List.length_append] at few2; exact few2
          refine ⟨_, rfl, _, rfl, (by show 1 ≤ sizeLine; decide), fun x nx => ?_⟩
          have sx := same_new (o := .lst [V.ref q2]) nx
          refine ⟨ll, x, vl, _, rfl, rfl, sx _ _ hl, upd_same, Nat.le_trans (by show vl.length + 1 ≤ 200; omega) (by show 200 ≤ sizeLine; decide), fun y ny => gn (Rest _ _ ?_)⟩
          have sy := same_new (o := .lst (vl ++ [V.ref q2])) ny
          have ss := sx.trans sy
          have c3 := cd.same ss
          have f2 := (cd.same sx).fresh ny
          have tk3 := tk.trans' (TK.same ss)
          refine ⟨r, lt, y, th, la ++ [((0 + (i : Nat) : Int), un)], le.map (· - 1), false, _, _, _, _, _, _, _, _, rfl, ?_, by rw [← List.append_assoc, List.length_append]; show (th ++ la).length + 1 ≤ i + 1; omega⟩
          have z : (⟨th ++ (la ++ [((0 + (i : Nat) : Int), un)]), th.length, le.map (· - 1), false⟩ : DS) = { tick (⟨th ++ la, th.length, le, false⟩ : DS) with us := (⟨th ++ la, th.length, le, false⟩ : DS).us ++ [((0 + (i : Nat) : Int), un)] } := by rw [← List.append_assoc]; rfl
          rw [z]
          exact c3.lists c3.ts ⟨_, upd_same, pw_app (pw_keep (TK.same ss) pl) (.cons (hu.keep tk3) .nil)⟩ c3.n1 f2
      · rw [decide_eq_false c7]
        refine iteF ?_
        have skip : LV C PB a b p l0 (i + 1) [some (.ref l0), some (.ref a), some (.ref p), some (.ref lt), some (.ref ll), some (oV le), some (.bl go), some (.int (0 + (i : Nat))), some (.int way), some (.ref q2), v10, v11, v12, v13, v14] HC := ⟨r, lt, ll, th, la, le, go, _, _, _, _, _, _, _, _, rfl, gc, by omega⟩
        have armed : way = 7 → go = false → ∀ (Qn : L2.St → Hp → Prop), (∀ σ' H', LV C PB a b p l0 (i + 1) σ' H' → Qn σ' H') → tSeq (tAsg (tCall (spTake K) [] E0 (tCons (tVar 1) (tCons (tC (.int 9)) tNil))) (gName 5)) (tDrop (tMeth C "arm" (spArm C CB) [] E0 (tVar 2) (tCons (tVar 5) tNil)))
            { nx := Qn, rt := Q } [some (.ref l0), some (.ref a), some (.ref p), some (.ref lt), some (.ref ll), some (oV le), some (.bl go), some (.int (0 + (i : Nat))), some (.int way), some (.ref q2), v10, v11, v12, v13, v14] HC := fun _ _ Qn hQ => by
          refine sa1 (tk1 rfl gc.bx (by decide) (by decide) fun m HD m0 m1 bxd kd => gn ?_)
          have cd := gc.take bxd kd
          obtain ⟨⟨dx, ob⟩, _⟩ := id cd.dk
          refine ⟨_, rfl, p, dx, _, rfl, ob, rfl, _, rfl, p, r, _, m, rfl, cd.dk, fun z => absurd z (by omega), fun _ HE kp d => hQ _ _ ?_⟩
          exact ⟨r, lt, ll, th, la, some m, go, _, _, _, _, _, _, _, _, rfl, cd.disk kp d (.inl rfl), by omega⟩
        refine ifs ⟨_, rfl, rfl, _, rfl, ?_⟩
        by_cases e7 : way = 7
        · have z : decide (V.int way = V.int 7) = true := by rw [e7]; rfl
          rw [z]
          refine iteT ⟨_, rfl, _, rfl, ?_⟩
          cases go with
          | false => exact iteT (armed e7 rfl _ Rest)
          | true =>
            refine iteF (ifs ⟨_, rfl, _, _, rfl, rfl, _, rfl, ?_⟩)
            rw [decide_eq_false (by omega : ¬ 7 < way)]
            exact iteF (Rest _ _ skip)
        · have z : decide (V.int way = V.int 7) = false := decide_eq_false fun z => e7 (by injection z)
          rw [z]
          refine iteF (iteF (ifs ⟨_, rfl, _, _, rfl, rfl, _, rfl, ?_⟩))
          rw [decide_eq_true (by omega : 7 < way)]
          refine iteT ?_
          refine sa1 (pick1 rfl gc.bx (by decide) (by decide) fun cut HD m0 m1 bxd kd => gn ?_)
          have cd := gc.take bxd kd
          obtain ⟨⟨dx, ob⟩, _⟩ := id cd.dk
          refine sq1 ⟨_, rfl, p, dx, _, rfl, ob, rfl, _, rfl, p, r, _, cut, rfl, cd.dk, by omega, fun z => absurd z (by omega), fun _ HE r' nr' kp d => ?_⟩
          have ce := cd.disk kp d (.inr nr')
          obtain ⟨vt, ht, pt⟩ := ce.ts
          obtain ⟨vl, hl, pl⟩ := ce.ls
          have l1 := pw_len pt
          have l2 := pw_len pl
          have lsum : th.length + la.length < 200 := by rw [List.length_append] at few2; exact few2
          refine ⟨_, rfl, _, rfl, _, rfl, _, rfl, ll, vl, rfl, SqL.of hl, fun x nx => ?_⟩
          rw [cut_to m0]
          have sx := same_new (o := .lst (vl.take cut.toNat)) nx
          have lx : (vl.take cut.toNat).length ≤ vl.length := by rw [List.length_take]; omega
          refine ⟨lt, x, vt, _, rfl, rfl, sx _ _ ht, upd_same, Nat.le_trans (by omega : vt.length + (vl.take cut.toNat).length ≤ 200) (by show 200 ≤ sizeLine; decide), fun y ny => ⟨(by show 0 ≤ sizeLine; decide), fun x2 nx2 => ⟨(by show 4 ≤ sizeLine; decide), fun x3 nx3 => ?_⟩⟩⟩
          have sy := same_new (o := .lst (vt ++ vl.take cut.toNat)) ny
          have ey : (upd (upd HE x (.lst (vl.take cut.toNat))) y (.lst (vt ++ vl.take cut.toNat))) y = some (.lst (vt ++ vl.take cut.toNat)) := upd_same
          have f1 := (ce.same sx).fresh ny
          have ssy := sx.trans sy
          generalize upd (upd HE x (.lst (vl.take cut.toNat))) y (.lst (vt ++ vl.take cut.toNat)) = HF at sy ey ssy nx2 nx3 ⊢
          have f2 := (ce.same ssy).fresh nx2
          have s2 := same_new (o := .lst []) nx2
          have e2 : (upd HF x2 (.lst [])) x2 = some (.lst []) := upd_same
          generalize upd HF x2 (.lst []) = HG at s2 e2 nx3 ⊢
          have s3 := same_new (o := .tup [V.ref y, V.ref x2, V.non, V.bl false]) nx3
          refine ⟨x3, _, rfl, SqT.of upd_same, rfl, _, _, rfl, gn ⟨_, _, rfl, gn ⟨_, _, rfl, gn ⟨_, _, rfl, gn ⟨rfl, Rest _ _ ?_⟩⟩⟩⟩⟩
          have ss := (ssy.trans s2).trans s3
          have c3 := ce.same ss
          refine ⟨r', y, x2, th ++ la.take cut.toNat, [], none, false, _, _, _, _, _, _, _, _, rfl, ?_, ?_⟩
          · have z1 : (th ++ la).take (th.length + cut.toNat) = th ++ la.take cut.toNat := by rw [List.take_append, List.take_of_length_le (by omega), Nat.add_sub_cancel_left]
            have z : (⟨(th ++ la.take cut.toNat) ++ [], (th ++ la.take cut.toNat).length, none, false⟩ : DS) = ⟨(th ++ la).take (th.length + cut.toNat), ((th ++ la).take (th.length + cut.toNat)).length, none, false⟩ := by rw [z1, List.append_nil]
            rw [z]
            exact c3.lists ⟨_, s3 _ _ (s2 _ _ ey), pw_keep (TK.same ss) (pw_app pt (pw_take _ pl))⟩ ⟨[], s3 _ _ e2, .nil⟩ f1 f2
          · rw [List.append_nil, List.length_append, List.length_take]
            rw [List.length_append] at few
            omega
end
end G38


set_option Elab.async false
set_option maxRecDepth 100000
set_option maxHeartbeats 4000000
namespace G38
open PySem L2 HX
theorem all_mk {l : PySem.W.OpenLaw} {w : World} {K : PySem.W.Frag} {h : Heap} {mg : Str → Option Value} {fa f1 f2 f3 f4 f5 f6 f7 : Addr} (X : K.In h) (G : h.Ns mainGlobals mg) (hfa : mg "law" = some (.ref fa))
    {od1 an1 od2 an2 od3 an3 od4 an4 od5 an5 od6 an6 od7 an7 : Option Addr} {C CS cB PB c1 c2 c3 c4 c5 c6 c7 c8 c9 h1 h2 h3 h4 h5 h6 h7 h8 : Addr} {oe1 am1 oe2 am2 oe3 am3 oe4 am4 oe5 am5 oe6 am6 oe7 am7 oe8 am8 : Option Addr} {sm1 sm2 sm3 sm4 sm5 sm6 sm7 sm8 : Array (Option Value)} {oq1 kW1 dd1 pn1 ce1 cu1 oq2 kW2 dd2 pn2 ce2 cu2 oq3 kW3 dd3 pn3 ce3 cu3 oq4 kW4 dd4 pn4 ce4 cu4 oq5 kW5 dd5 pn5 ce5 cu5 oq6 kW6 dd6 pn6 ce6 cu6 oq7 kW7 dd7 pn7 ce7 cu7 oq8 kW8 dd8 pn8 ce8 cu8 : Value} {sl1 sl2 sl3 sl4 sl5 sl6 sl7 : Array (Option Value)} {oc1 kV1 dc1 pm1 cd1 ct1 oc2 kV2 dc2 pm2 cd2 ct2 oc3 kV3 dc3 pm3 cd3 ct3 oc4 kV4 dc4 pm4 cd4 ct4 oc5 kV5 dc5 pm5 cd5 ct5 oc6 kV6 dc6 pm6 cd6 ct6 oc7 kV7 dc7 pm7 ct7 : Value}
    (a1 : PySem.W.nsIn K mainGlobals "copied" = some (some (.ref f1))) (l1 : K.lookup f1 = some ⟨oc1, od1, .func (PySem.W.fnOf "copied" "copied" (defArgs sCopied) (defBody sCopied) (defScope sCopied) .none kV1 dc1 pm1 an1 cd1 ct1), sl1⟩) (d1 : PySem.W.codeIn K cd1 "copied" = true) (k1 : PySem.W.keepIn K (.ref f1) = true)
    (a2 : PySem.W.nsIn K mainGlobals "_law_begun" = some (some (.ref f2))) (l2 : K.lookup f2 = some ⟨oc2, od2, .func (PySem.W.fnOf "_law_begun" "_law_begun" (defArgs sBegun) (defBody sBegun) (defScope sBegun) .none kV2 dc2 pm2 an2 cd2 ct2), sl2⟩) (d2 : PySem.W.codeIn K cd2 "_law_begun" = true) (k2 : PySem.W.keepIn K (.ref f2) = true)
    (a3 : PySem.W.nsIn K mainGlobals "_law_take" = some (some (.ref f3))) (l3 : K.lookup f3 = some ⟨oc3, od3, .func (PySem.W.fnOf "_law_take" "_law_take" (defArgs sTake) (defBody sTake) (defScope sTake) .none kV3 dc3 pm3 an3 cd3 ct3), sl3⟩) (d3 : PySem.W.codeIn K cd3 "_law_take" = true) (k3 : PySem.W.keepIn K (.ref f3) = true)
    (a4 : PySem.W.nsIn K mainGlobals "_law_alike" = some (some (.ref f4))) (l4 : K.lookup f4 = some ⟨oc4, od4, .func (PySem.W.fnOf "_law_alike" "_law_alike" (defArgs sAlike) (defBody sAlike) (defScope sAlike) .none kV4 dc4 pm4 an4 cd4 ct4), sl4⟩) (d4 : PySem.W.codeIn K cd4 "_law_alike" = true) (k4 : PySem.W.keepIn K (.ref f4) = true)
    (a5 : PySem.W.nsIn K mainGlobals "_law_told" = some (some (.ref f5))) (l5 : K.lookup f5 = some ⟨oc5, od5, .func (PySem.W.fnOf "_law_told" "_law_told" (defArgs sTold) (defBody sTold) (defScope sTold) .none kV5 dc5 pm5 an5 cd5 ct5), sl5⟩) (d5 : PySem.W.codeIn K cd5 "_law_told" = true) (k5 : PySem.W.keepIn K (.ref f5) = true)
    (a6 : PySem.W.nsIn K mainGlobals "_law_all" = some (some (.ref f6))) (l6 : K.lookup f6 = some ⟨oc6, od6, .func (PySem.W.fnOf "_law_all" "_law_all" (defArgs sAll) (defBody sAll) (defScope sAll) .none kV6 dc6 pm6 an6 cd6 ct6), sl6⟩) (d6 : PySem.W.codeIn K cd6 "_law_all" = true) (k6 : PySem.W.keepIn K (.ref f6) = true)
    (a7 : PySem.W.nsIn K mainGlobals "law" = some (some (.ref f7))) (l7 : K.lookup f7 = some ⟨oc7, od7, .func (PySem.W.fnOf "law" "law" (defArgs sLaw) (defBody sLaw) (defScope sLaw) .none kV7 dc7 pm7 an7 (.ref cB) ct7), sl7⟩) (d7 : PySem.W.codeIn K (.ref cB) "law" = true) (k7 : PySem.W.keepIn K (.ref f7) = true)
    (z_len : PySem.W.nsIn K mainGlobals "len" = some none) (z_range : PySem.W.nsIn K mainGlobals "range" = some none) (z_list : PySem.W.nsIn K mainGlobals "list" = some none) (z_tuple : PySem.W.nsIn K mainGlobals "tuple" = some none) (z_int : PySem.W.nsIn K mainGlobals "int" = some none) (z_isinstance : PySem.W.nsIn K mainGlobals "isinstance" = some none) (z_dict : PySem.W.nsIn K mainGlobals "dict" = some none) (z_bool : PySem.W.nsIn K mainGlobals "bool" = some none) (z_str : PySem.W.nsIn K mainGlobals "str" = some none) (z_ValueError : PySem.W.nsIn K mainGlobals "ValueError" = some none)
    (aC : PySem.W.nsIn K mainGlobals "Disk" = some (some (.ref C)))
    (x1 : PySem.W.findIn K (.ref C) "__init__" = some (some (.ref h1)))
    (y1 : PySem.W.isFn K (.ref h1) = true)
    (v1 : K.lookup h1 = some ⟨oq1, oe1, .func (PySem.W.fnOf "__init__" "Disk.__init__" (defArgs sDInit) (defBody sDInit) (defScope sDInit) .none kW1 dd1 pn1 am1 ce1 cu1), sm1⟩)
    (w1 : PySem.W.codeIn K ce1 "Disk.__init__" = true)
    (u1 : PySem.W.keepIn K (.ref h1) = true)
    (x2 : PySem.W.findIn K (.ref C) "write" = some (some (.ref h2)))
    (y2 : PySem.W.isFn K (.ref h2) = true)
    (v2 : K.lookup h2 = some ⟨oq2, oe2, .func (PySem.W.fnOf "write" "Disk.write" (defArgs sWrite) (defBody sWrite) (defScope sWrite) .none kW2 dd2 pn2 am2 ce2 cu2), sm2⟩)
    (w2 : PySem.W.codeIn K ce2 "Disk.write" = true)
    (u2 : PySem.W.keepIn K (.ref h2) = true)
    (x3 : PySem.W.findIn K (.ref C) "settle" = some (some (.ref h3)))
    (y3 : PySem.W.isFn K (.ref h3) = true)
    (v3 : K.lookup h3 = some ⟨oq3, oe3, .func (PySem.W.fnOf "settle" "Disk.settle" (defArgs sSettle) (defBody sSettle) (defScope sSettle) .none kW3 dd3 pn3 am3 ce3 cu3), sm3⟩)
    (w3 : PySem.W.codeIn K ce3 "Disk.settle" = true)
    (u3 : PySem.W.keepIn K (.ref h3) = true)
    (x4 : PySem.W.findIn K (.ref C) "_need_power" = some (some (.ref h4)))
    (y4 : PySem.W.isFn K (.ref h4) = true)
    (v4 : K.lookup h4 = some ⟨oq4, oe4, .func (PySem.W.fnOf "_need_power" "Disk._need_power" (defArgs sNeed) (defBody sNeed) (defScope sNeed) .none kW4 dd4 pn4 am4 ce4 cu4), sm4⟩)
    (w4 : PySem.W.codeIn K ce4 "Disk._need_power" = true)
    (u4 : PySem.W.keepIn K (.ref h4) = true)
    (x5 : PySem.W.findIn K (.ref C) "_refuse_gone" = some (some (.ref h5)))
    (y5 : PySem.W.isFn K (.ref h5) = true)
    (v5 : K.lookup h5 = some ⟨oq5, oe5, .func (PySem.W.fnOf "_refuse_gone" "Disk._refuse_gone" (defArgs sRefuse) (defBody sRefuse) (defScope sRefuse) .none kW5 dd5 pn5 am5 ce5 cu5), sm5⟩)
    (w5 : PySem.W.codeIn K ce5 "Disk._refuse_gone" = true)
    (u5 : PySem.W.keepIn K (.ref h5) = true)
    (x6 : PySem.W.findIn K (.ref C) "units" = some (some (.ref h6)))
    (y6 : PySem.W.isFn K (.ref h6) = true)
    (v6 : K.lookup h6 = some ⟨oq6, oe6, .func (PySem.W.fnOf "units" "Disk.units" (defArgs sUnits) (defBody sUnits) (defScope sUnits) .none kW6 dd6 pn6 am6 ce6 cu6), sm6⟩)
    (w6 : PySem.W.codeIn K ce6 "Disk.units" = true)
    (u6 : PySem.W.keepIn K (.ref h6) = true)
    (x7 : PySem.W.findIn K (.ref C) "arm" = some (some (.ref h7)))
    (y7 : PySem.W.isFn K (.ref h7) = true)
    (v7 : K.lookup h7 = some ⟨oq7, oe7, .func (PySem.W.fnOf "arm" "Disk.arm" (defArgs sArm) (defBody sArm) (defScope sArm) .none kW7 dd7 pn7 am7 ce7 cu7), sm7⟩)
    (w7 : PySem.W.codeIn K ce7 "Disk.arm" = true)
    (u7 : PySem.W.keepIn K (.ref h7) = true)
    (x8 : PySem.W.findIn K (.ref C) "fall" = some (some (.ref h8)))
    (y8 : PySem.W.isFn K (.ref h8) = true)
    (v8 : K.lookup h8 = some ⟨oq8, oe8, .func (PySem.W.fnOf "fall" "Disk.fall" (defArgs sFall) (defBody sFall) (defScope sFall) .none kW8 dd8 pn8 am8 ce8 cu8), sm8⟩)
    (w8 : PySem.W.codeIn K ce8 "Disk.fall" = true)
    (u8 : PySem.W.keepIn K (.ref h8) = true)
    (pg : PySem.W.plainGet K C Str.empty = true)
    (hd : PySem.W.hasDictIn K C = true)
    (po : PySem.W.plainOver K C = true)
    (sa : PySem.W.findIn K (.ref C) "__setattr__" = some (some (.builtin "object.__setattr__")))
    (mk : PySem.W.makesIn K C = true)
    (kc : PySem.W.keepIn K (.ref C) = true)
    (nU : PySem.W.findIn K (.ref C) "_units" = some none)
    (nA : PySem.W.findIn K (.ref C) "_lasting" = some none)
    (nE : PySem.W.findIn K (.ref C) "_left" = some none)
    (nG : PySem.W.findIn K (.ref C) "_gone" = some none)
    (q1 : PySem.W.nsIn K mainGlobals "BadName" = some (some (.ref c1)))
    (q2 : PySem.W.nsIn K mainGlobals "BadNumber" = some (some (.ref c2)))
    (q3 : PySem.W.nsIn K mainGlobals "BadPlan" = some (some (.ref c3)))
    (q4 : PySem.W.nsIn K mainGlobals "BadRow" = some (some (.ref c4)))
    (q5 : PySem.W.nsIn K mainGlobals "BadText" = some (some (.ref c5)))
    (q6 : PySem.W.nsIn K mainGlobals "Gone" = some (some (.ref c6)))
    (q7 : PySem.W.nsIn K mainGlobals "TooGreat" = some (some (.ref c7)))
    (q8 : PySem.W.nsIn K mainGlobals "Twice" = some (some (.ref c8)))
    (q9 : PySem.W.nsIn K mainGlobals "Within" = some (some (.ref c9)))
    (qS : PySem.W.nsIn K mainGlobals "StoreError" = some (some (.ref CS)))
    (rGx : PySem.W.excIn K c6 [.type "ValueError", .type "Exception", .type "BaseException", .type "object"] "ValueError.__new__" = true)
    (rGk : PySem.W.keepIn K (.ref c6) = true)
    (rGb : PySem.W.subIn K (.ref c6) (.type "BaseException") = some true)
    (rGt : PySem.W.typeIn K (.ref c6) = some (.type "type"))
    (eG1 : PySem.W.findIn K (.ref c6) "__getattribute__" = some (some (.builtin "BaseException.__getattribute__")))
    (eG2 : PySem.W.findIn K (.ref c6) "__getattr__" = some none)
    (eG4 : PySem.W.hasDictIn K c6 = true)
    (eG5 : PySem.W.findIn K (.ref c6) "__class__" = some (some (.builtin "object.__class__")))
    (eG8 : PySem.W.mroIn K c6 (.type "object") = some true)
    (eGs : PySem.W.exmOne K (.ref c6) (.ref CS) = some true)
    (eGv : PySem.W.kitOne K (.ref c6) (.type "ValueError") = some true)
    (kG1 : PySem.W.kitOne K (.ref c6) (.ref c1) = some false)
    (kG2 : PySem.W.kitOne K (.ref c6) (.ref c2) = some false)
    (kG3 : PySem.W.kitOne K (.ref c6) (.ref c3) = some false)
    (kG4 : PySem.W.kitOne K (.ref c6) (.ref c4) = some false)
    (kG5 : PySem.W.kitOne K (.ref c6) (.ref c5) = some false)
    (kG6 : PySem.W.kitOne K (.ref c6) (.ref c6) = some true)
    (kG7 : PySem.W.kitOne K (.ref c6) (.ref c7) = some false)
    (kG8 : PySem.W.kitOne K (.ref c6) (.ref c8) = some false)
    (kG9 : PySem.W.kitOne K (.ref c6) (.ref c9) = some false)
    (rBx : PySem.W.excIn K c2 [.type "ValueError", .type "Exception", .type "BaseException", .type "object"] "ValueError.__new__" = true)
    (rBk : PySem.W.keepIn K (.ref c2) = true)
    (rBb : PySem.W.subIn K (.ref c2) (.type "BaseException") = some true)
    (rBt : PySem.W.typeIn K (.ref c2) = some (.type "type"))
    (eB1 : PySem.W.findIn K (.ref c2) "__getattribute__" = some (some (.builtin "BaseException.__getattribute__")))
    (eB2 : PySem.W.findIn K (.ref c2) "__getattr__" = some none)
    (eB4 : PySem.W.hasDictIn K c2 = true)
    (eB5 : PySem.W.findIn K (.ref c2) "__class__" = some (some (.builtin "object.__class__")))
    (eB8 : PySem.W.mroIn K c2 (.type "object") = some true)
    (eBs : PySem.W.exmOne K (.ref c2) (.ref CS) = some true)
    (eBv : PySem.W.kitOne K (.ref c2) (.type "ValueError") = some true)
    (kB1 : PySem.W.kitOne K (.ref c2) (.ref c1) = some false)
    (kB2 : PySem.W.kitOne K (.ref c2) (.ref c2) = some true)
    (kB3 : PySem.W.kitOne K (.ref c2) (.ref c3) = some false)
    (kB4 : PySem.W.kitOne K (.ref c2) (.ref c4) = some false)
    (kB5 : PySem.W.kitOne K (.ref c2) (.ref c5) = some false)
    (kB6 : PySem.W.kitOne K (.ref c2) (.ref c6) = some false)
    (kB7 : PySem.W.kitOne K (.ref c2) (.ref c7) = some false)
    (kB8 : PySem.W.kitOne K (.ref c2) (.ref c8) = some false)
    (kB9 : PySem.W.kitOne K (.ref c2) (.ref c9) = some false)
    (sp6 : PySem.W.specialIn K (.builtin "object.__class__") "__get__" = some (some (.builtin "getset_descriptor.__get__")))
    (sp7 : PySem.W.takesIn K (.builtin "object.__class__") = some true)
    (tI : PySem.W.tabIn K "law" = some (cB, PB))
    (nP : K.lookup PB = none)
    (hTab : ∀ c P, PySem.W.tabIn K "law" = some (c, P) → PySem.W.CodeHd h c P ∧ h.get? P = some { cls := .none, data := .fields #[] }) :
    LamX.LawAtS l w K CX0 9 63 "_law_script" mg fa h := by
  have e := hfa.symm.trans (PySem.W.mg_of X G a7)
  cases e
  have m_len : mg "len" = none := PySem.W.mg_none_of X G z_len
  have m_range : mg "range" = none := PySem.W.mg_none_of X G z_range
  have m_list : mg "list" = none := PySem.W.mg_none_of X G z_list
  have m_tuple : mg "tuple" = none := PySem.W.mg_none_of X G z_tuple
  have m_int : mg "int" = none := PySem.W.mg_none_of X G z_int
  have m_isinstance : mg "isinstance" = none := PySem.W.mg_none_of X G z_isinstance
  have m_dict : mg "dict" = none := PySem.W.mg_none_of X G z_dict
  have m_bool : mg "bool" = none := PySem.W.mg_none_of X G z_bool
  have m_str : mg "str" = none := PySem.W.mg_none_of X G z_str
  have m_ValueError : mg "ValueError" = none := PySem.W.mg_none_of X G z_ValueError
  have F1 := fun_mk (st := sCopied) l1 d1 k1
  have g1 : mg "copied" = some (.ref f1) := PySem.W.mg_of X G a1
  have b1 := F1.binds (ps := ["value"]) fun _ _ _ _ _ _ us hl => match us, hl with | [_], _ => rfl
  have F2 := fun_mk (st := sBegun) l2 d2 k2
  have g2 : mg "_law_begun" = some (.ref f2) := PySem.W.mg_of X G a2
  have b2 := F2.binds (ps := ["_law_script"]) fun _ _ _ _ _ _ us hl => match us, hl with | [_], _ => rfl
  have F3 := fun_mk (st := sTake) l3 d3 k3
  have g3 : mg "_law_take" = some (.ref f3) := PySem.W.mg_of X G a3
  have b3 := F3.binds (ps := ["_law_box", "_law_many"]) fun _ _ _ _ _ _ us hl => match us, hl with | [_, _], _ => rfl
  have F4 := fun_mk (st := sAlike) l4 d4 k4
  have g4 : mg "_law_alike" = some (.ref f4) := PySem.W.mg_of X G a4
  have b4 := F4.binds (ps := ["_law_found", "_law_due"]) fun _ _ _ _ _ _ us hl => match us, hl with | [_, _], _ => rfl
  have F5 := fun_mk (st := sTold) l5 d5 k5
  have g5 : mg "_law_told" = some (.ref f5) := PySem.W.mg_of X G a5
  have b5 := F5.binds (ps := ["_law_work"]) fun _ _ _ _ _ _ us hl => match us, hl with | [_], _ => rfl
  have F6 := fun_mk (st := sAll) l6 d6 k6
  have g6 : mg "_law_all" = some (.ref f6) := PySem.W.mg_of X G a6
  have b6 := F6.binds (ps := ["_law_works", "_law_due"]) fun _ _ _ _ _ _ us hl => match us, hl with | [_, _], _ => rfl
  have F7 := fun_mk (st := sLaw) l7 d7 k7
  have T0 : Txt mg := ⟨m_len, m_range, m_list, m_tuple, m_int, m_isinstance, m_dict, m_bool, m_str⟩
  have G1 := PySem.W.mg_of X G q1
  have G2 := PySem.W.mg_of X G q2
  have G3 := PySem.W.mg_of X G q3
  have G4 := PySem.W.mg_of X G q4
  have G5 := PySem.W.mg_of X G q5
  have G6 := PySem.W.mg_of X G q6
  have G7 := PySem.W.mg_of X G q7
  have G8 := PySem.W.mg_of X G q8
  have G9 := PySem.W.mg_of X G q9
  have TD : TxtD K mg C c6 c2 := ⟨T0, ⟨pg, hd, po, sa⟩, nU, nA, nE, nG, ⟨G6, rGx, rGk, rGb, rGt⟩, ⟨G2, rBx, rBk, rBb, rBt⟩⟩
  have TL : TxtL K mg C c6 c2 := ⟨TD, PySem.W.mg_of X G aC⟩
  have TE : TxtE K mg CS c1 c2 c3 c4 c5 c6 c7 c8 c9 := ⟨T0, G1, G2, G3, G4, G5, G6, G7, G8, G9, PySem.W.mg_of X G qS, m_ValueError⟩
  have eG : IsErr K CS c1 c2 c3 c4 c5 c6 c7 c8 c9 c6 5 := ⟨⟨eG1, eG2, rGb, eG4, eG5, sp6, sp7, eG8⟩, eGs, eGv, by decide, kG1, kG2, kG3, kG4, kG5, kG6, kG7, kG8, kG9⟩
  have eB : IsErr K CS c1 c2 c3 c4 c5 c6 c7 c8 c9 c2 1 := ⟨⟨eB1, eB2, rBb, eB4, eB5, sp6, sp7, eB8⟩, eBs, eBv, by decide, kB1, kB2, kB3, kB4, kB5, kB6, kB7, kB8, kB9⟩
  have N1 := fun_mk (st := sDInit) v1 w1 u1
  have e1 := N1.binds (ps := ["self"]) fun _ _ _ _ _ _ us hl => match us, hl with | [_], _ => rfl
  have N2 := fun_mk (st := sWrite) v2 w2 u2
  have e2 := N2.binds (ps := ["self", "unit"]) fun _ _ _ _ _ _ us hl => match us, hl with | [_, _], _ => rfl
  have N3 := fun_mk (st := sSettle) v3 w3 u3
  have e3 := N3.binds (ps := ["self"]) fun _ _ _ _ _ _ us hl => match us, hl with | [_], _ => rfl
  have N4 := fun_mk (st := sNeed) v4 w4 u4
  have e4 := N4.binds (ps := ["self"]) fun _ _ _ _ _ _ us hl => match us, hl with | [_], _ => rfl
  have N5 := fun_mk (st := sRefuse) v5 w5 u5
  have e5 := N5.binds (ps := ["self"]) fun _ _ _ _ _ _ us hl => match us, hl with | [_], _ => rfl
  have N6 := fun_mk (st := sUnits) v6 w6 u6
  have e6 := N6.binds (ps := ["self"]) fun _ _ _ _ _ _ us hl => match us, hl with | [_], _ => rfl
  have N7 := fun_mk (st := sArm) v7 w7 u7
  have e7 := N7.binds (ps := ["self", "many"]) fun _ _ _ _ _ _ us hl => match us, hl with | [_, _], _ => rfl
  have N8 := fun_mk (st := sFall) v8 w8 u8
  have e8 := N8.binds (ps := ["self", "cut"]) fun _ _ _ _ _ _ us hl => match us, hl with | [_, _], _ => rfl
  have hT2 := hTab cB PB tI
  refine ⟨PySem.W.fnOf "law" "law" (defArgs sLaw) (defBody sLaw) (defScope sLaw) .none kV7 dc7 pm7 an7 (.ref cB) ct7, [(cB, PB)], spLaw K PB, fun p hp => ?_, fun p hp => ?_, fun p hp => ?_, fun s v => .of_eq rfl, fun H a ns hl _ hH hS => ⟨a, ns, rfl, hS, hl, fun p hp => ?_, fun _ => rfl⟩, fun base _ _ TBs => ?_⟩
  · rw [List.mem_singleton.mp hp]; exact hT2.2
  · rw [List.mem_singleton.mp hp]; exact nP
  · rw [List.mem_singleton.mp hp]; exact hT2.1
  · rw [List.mem_singleton.mp hp]; exact LamX.TabS.nil (hH (cB, PB) (List.mem_singleton.mpr rfl))
  have TB := TBs (cB, PB) (List.mem_singleton.mpr rfl)
  have P0 : Cal l.prog w K mg base 1 "copied" ["value"] (spCopied 0) f1 _ := ⟨g1, k1, b1, ok_copied (n := 0) (j := 0) F1 T0 (fun _ h => nomatch h)⟩
  have P1 : Cal l.prog w K mg base 2 "copied" ["value"] (spCopied 1) f1 _ := ⟨g1, k1, b1, ok_copied (n := 1) (j := 1) F1 T0 (fun m h => by cases h; exact P0)⟩
  have P2 : Cal l.prog w K mg base 3 "copied" ["value"] (spCopied 2) f1 _ := ⟨g1, k1, b1, ok_copied (n := 2) (j := 2) F1 T0 (fun m h => by cases h; exact P1)⟩
  have P3 : Cal l.prog w K mg base 4 "copied" ["value"] (spCopied 3) f1 _ := ⟨g1, k1, b1, ok_copied (n := 3) (j := 3) F1 T0 (fun m h => by cases h; exact P2)⟩
  have Cb : Cal l.prog w K mg base 1 "_law_begun" ["_law_script"] (spBegun K) f2 _ := ⟨g2, k2, b2, ok_begun F2 T0⟩
  have Ct : Cal l.prog w K mg base 1 "_law_take" ["_law_box", "_law_many"] (spTake K) f3 _ := ⟨g3, k3, b3, ok_take F3 T0⟩
  have A0 : Cal l.prog w K mg base 1 "_law_alike" ["_law_found", "_law_due"] (spAlk K 0) f4 _ := ⟨g4, k4, b4, ok_alk (n := 0) (j := 0) F4 T0 (fun _ h => nomatch h)⟩
  have A1 : Cal l.prog w K mg base 2 "_law_alike" ["_law_found", "_law_due"] (spAlk K 1) f4 _ := ⟨g4, k4, b4, ok_alk (n := 1) (j := 1) F4 T0 (fun m h => by cases h; exact A0)⟩
  have A2 : Cal l.prog w K mg base 3 "_law_alike" ["_law_found", "_law_due"] (spAlk K 2) f4 _ := ⟨g4, k4, b4, ok_alk (n := 2) (j := 2) F4 T0 (fun m h => by cases h; exact A1)⟩
  have A3 : Cal l.prog w K mg base 4 "_law_alike" ["_law_found", "_law_due"] (spAlk K 3) f4 _ := ⟨g4, k4, b4, ok_alk (n := 3) (j := 3) F4 T0 (fun m h => by cases h; exact A2)⟩
  have Cto : Cal l.prog w K mg base 7 "_law_told" ["_law_work"] (spTold l.prog w K mg base 6 CS c1 c2 c3 c4 c5 c6 c7 c8 c9) f5 _ := ⟨g5, k5, b5, ok_told (k := 6) F5 T0 TE⟩
  have A7 := A3.mono (k := 7) (by decide)
  have Cal2 : Cal l.prog w K mg base 8 "_law_all" ["_law_works", "_law_due"] (spAll l.prog w K mg base 6 3 CS c1 c2 c3 c4 c5 c6 c7 c8 c9) f6 _ := ⟨g6, k6, b6, ok_all (k := 6) F6 T0 A7 Cto⟩
  have GR := ok_refuse (P := l.prog) (w := w) (base := base) N5 TD
  have GN := ok_need N4 TD ⟨x5, y5, u5⟩ GR e5
  have GW := ok_write N2 TD ⟨x4, y4, u4⟩ GN e4 (P2.mono (by decide))
  have GS := ok_settle N3 TD ⟨x4, y4, u4⟩ GN e4
  have GU := ok_units N6 TD ⟨x5, y5, u5⟩ GR e5 P3
  have GA := ok_arm (P := l.prog) (w := w) (base := base) N7 TD
  have GF := ok_fall (P := l.prog) (w := w) (base := base) N8 TD
  exact ok_law l7 d7 TB TL TE eG eB ⟨mk, x1, y1, kc⟩ (ok_dinit N1 TD) e1 ⟨x2, y2, u2⟩ GW e2 ⟨x3, y3, u3⟩ GS e3 ⟨x6, y6, u6⟩ GU e6 ⟨x7, y7, u7⟩ GA e7 ⟨x8, y8, u8⟩ GF e8 Cb Ct A7 Cto Cal2

theorem walk {l : PySem.W.OpenLaw} {q : Program} {loose : List Str} {XP : (Str → Option Value) → Heap → Prop} {YP : World → Heap → Prop} {d : DefRec} {K : Params → PySem.W.Frag} (hn : l.most = some 63) (hdf : d.params.defaults = []) (hrec : ((PyProof.Rows.recsOf q).find? fun e => e.name == (("law" : String) : Str)).isSome = true)
    (hY : ∀ (w : World) (h : Heap), YP w h → (K w.params).In h)
    (F : ∀ (w : World) (mg : Str → Option Value) (fa : Addr) (h : Heap), (K w.params).In h → h.Ns mainGlobals mg → mg d.name = some (.ref fa) → (∀ c P, PySem.W.tabIn (K w.params) "law" = some (c, P) → PySem.W.CodeHd h c P ∧ h.get? P = some { cls := .none, data := .fields #[] }) →
      LamX.LawAtS l w (K w.params) CX0 9 63 "_law_script" mg fa h) :
    PySem.W.WalkO q loose XP YP l.row.toRowW d [] (fun f vs => PySem.call f vs) := by
  refine Att.attach_callB hn hdf fun w s₀ s₁ mg mb fa o pm cd doc a vs ns G Y ho hd hcd hmg hobj hints hlen hbits hg => ?_
  have KX := hY w _ Y
  obtain ⟨dB, hB⟩ := Option.isSome_iff_exists.mp hrec
  obtain ⟨fd, cs, sp, hT, nT, C, hb, hsp, hF⟩ := F w mg fa _ KX G.T.g hmg fun c P ht => PySem.W.tab_of G.T KX hB ht
  exact LamX.law_callTs KX G.T.g G.T.b G.T.builtins G.T.nolimit hg hT nT C G.T.bmain hobj hints (Nat.le_trans hlen (by decide)) ⟨rfl, by decide, by decide⟩ hF hb (fun H hH hS => hsp H a ns hlen hbits hH hS) fun H e s' z => z
end G38
open PySem PySem.W PyProof.Rows in
set_option maxRecDepth 100000 in
set_option maxHeartbeats 0 in
theorem PySem.Challenge.cw_granary_k38_disks_step_by_step_holds : PySem.Challenge.rw_granary_k38_disks_step_by_step.Holds := by
  w_on; o_law; k_head; (case hw => w_witness2)
  k_fill
  refine G38.walk (l := PySem.Challenge.rw_granary_k38_disks_step_by_step) rfl rfl (by decide +kernel) (fun w h Y => PySem.W.km_in_of Y) ?F
  case F =>
    intro w mg fa h KX G hmg hTab
    refine' G38.all_mk KX G hmg ?a1 ?l1 ?d1 ?k1 ?a2 ?l2 ?d2 ?k2 ?a3 ?l3 ?d3 ?k3 ?a4 ?l4 ?d4 ?k4 ?a5 ?l5 ?d5 ?k5 ?a6 ?l6 ?d6 ?k6 ?a7 ?l7 ?d7 ?k7 ?z_len ?z_range ?z_list ?z_tuple ?z_int ?z_isinstance ?z_dict ?z_bool ?z_str ?z_ValueError ?aC ?x1 ?y1 ?v1 ?w1 ?u1 ?x2 ?y2 ?v2 ?w2 ?u2 ?x3 ?y3 ?v3 ?w3 ?u3 ?x4 ?y4 ?v4 ?w4 ?u4 ?x5 ?y5 ?v5 ?w5 ?u5 ?x6 ?y6 ?v6 ?w6 ?u6 ?x7 ?y7 ?v7 ?w7 ?u7 ?x8 ?y8 ?v8 ?w8 ?u8 ?pg ?hd ?po ?sa ?mk ?kc ?nU ?nA ?nE ?nG ?q1 ?q2 ?q3 ?q4 ?q5 ?q6 ?q7 ?q8 ?q9 ?qS ?rGx ?rGk ?rGb ?rGt ?eG1 ?eG2 ?eG4 ?eG5 ?eG8 ?eGs ?eGv ?kG1 ?kG2 ?kG3 ?kG4 ?kG5 ?kG6 ?kG7 ?kG8 ?kG9 ?rBx ?rBk ?rBb ?rBt ?eB1 ?eB2 ?eB4 ?eB5 ?eB8 ?eBs ?eBv ?kB1 ?kB2 ?kB3 ?kB4 ?kB5 ?kB6 ?kB7 ?kB8 ?kB9 ?sp6 ?sp7 ?tI ?nP hTab
    (case a1 => k_is)
    (case l1 => k_is)
    (case d1 => k_is)
    (case k1 => k_is)
    (case a2 => k_is)
    (case l2 => k_is)
    (case d2 => k_is)
    (case k2 => k_is)
    (case a3 => k_is)
    (case l3 => k_is)
    (case d3 => k_is)
    (case k3 => k_is)
    (case a4 => k_is)
    (case l4 => k_is)
    (case d4 => k_is)
    (case k4 => k_is)
    (case a5 => k_is)
    (case l5 => k_is)
    (case d5 => k_is)
    (case k5 => k_is)
    (case a6 => k_is)
    (case l6 => k_is)
    (case d6 => k_is)
    (case k6 => k_is)
    (case a7 => k_is)
    (case l7 => k_is)
    (case d7 => k_is)
    (case k7 => k_is)
    (case z_len => k_is)
    (case z_range => k_is)
    (case z_list => k_is)
    (case z_tuple => k_is)
    (case z_int => k_is)
    (case z_isinstance => k_is)
    (case z_dict => k_is)
    (case z_bool => k_is)
    (case z_str => k_is)
    (case z_ValueError => k_is)
    (case aC => k_is)
    (case x1 => k_is)
    (case y1 => k_is)
    (case v1 => k_is)
    (case w1 => k_is)
    (case u1 => k_is)
    (case x2 => k_is)
    (case y2 => k_is)
    (case v2 => k_is)
    (case w2 => k_is)
    (case u2 => k_is)
    (case x3 => k_is)
    (case y3 => k_is)
    (case v3 => k_is)
    (case w3 => k_is)
    (case u3 => k_is)
    (case x4 => k_is)
    (case y4 => k_is)
    (case v4 => k_is)
    (case w4 => k_is)
    (case u4 => k_is)
    (case x5 => k_is)
    (case y5 => k_is)
    (case v5 => k_is)
    (case w5 => k_is)
    (case u5 => k_is)
    (case x6 => k_is)
    (case y6 => k_is)
    (case v6 => k_is)
    (case w6 => k_is)
    (case u6 => k_is)
    (case x7 => k_is)
    (case y7 => k_is)
    (case v7 => k_is)
    (case w7 => k_is)
    (case u7 => k_is)
    (case x8 => k_is)
    (case y8 => k_is)
    (case v8 => k_is)
    (case w8 => k_is)
    (case u8 => k_is)
    (case pg => k_is)
    (case hd => k_is)
    (case po => k_is)
    (case sa => k_is)
    (case mk => k_is)
    (case kc => k_is)
    (case nU => k_is)
    (case nA => k_is)
    (case nE => k_is)
    (case nG => k_is)
    (case q1 => k_is)
    (case q2 => k_is)
    (case q3 => k_is)
    (case q4 => k_is)
    (case q5 => k_is)
    (case q6 => k_is)
    (case q7 => k_is)
    (case q8 => k_is)
    (case q9 => k_is)
    (case qS => k_is)
    (case rGx => k_exc)
    (case rGk => k_is)
    (case rGb => k_is)
    (case rGt => k_is)
    (case eG1 => k_is)
    (case eG2 => k_is)
    (case eG4 => k_is)
    (case eG5 => k_is)
    (case eG8 => k_is)
    (case eGs => first | k_is | rfl | decide +kernel)
    (case eGv => first | k_is | rfl | decide +kernel)
    (case kG1 => first | k_is | rfl | decide +kernel)
    (case kG2 => first | k_is | rfl | decide +kernel)
    (case kG3 => first | k_is | rfl | decide +kernel)
    (case kG4 => first | k_is | rfl | decide +kernel)
    (case kG5 => first | k_is | rfl | decide +kernel)
    (case kG6 => first | k_is | rfl | decide +kernel)
    (case kG7 => first | k_is | rfl | decide +kernel)
    (case kG8 => first | k_is | rfl | decide +kernel)
    (case kG9 => first | k_is | rfl | decide +kernel)
    (case rBx => k_exc)
    (case rBk => k_is)
    (case rBb => k_is)
    (case rBt => k_is)
    (case eB1 => k_is)
    (case eB2 => k_is)
    (case eB4 => k_is)
    (case eB5 => k_is)
    (case eB8 => k_is)
    (case eBs => first | k_is | rfl | decide +kernel)
    (case eBv => first | k_is | rfl | decide +kernel)
    (case kB1 => first | k_is | rfl | decide +kernel)
    (case kB2 => first | k_is | rfl | decide +kernel)
    (case kB3 => first | k_is | rfl | decide +kernel)
    (case kB4 => first | k_is | rfl | decide +kernel)
    (case kB5 => first | k_is | rfl | decide +kernel)
    (case kB6 => first | k_is | rfl | decide +kernel)
    (case kB7 => first | k_is | rfl | decide +kernel)
    (case kB8 => first | k_is | rfl | decide +kernel)
    (case kB9 => first | k_is | rfl | decide +kernel)
    (case sp6 => k_is)
    (case sp7 => k_is)
    (case tI => first | k_is | rfl)
    (case nP => first | k_is | rfl)

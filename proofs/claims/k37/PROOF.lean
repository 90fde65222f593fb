import PyProof.Rows.All
import Wide.All
import OpenK.AllK
import Wide.FinOn
import HandS.ForMost
import HandS.IsInst
import HandS.TupAny
import HandS.Deep
import HandS.TupSets
import HandS.SortOrd
import HandS.WideMore
import PySem.Challenge.RW_granary_k37_an_index_alone
import PyProof.DictMoreH
import HandS.DictTup
import HandS.Flow
import HandS.Style
set_option Elab.async false
namespace RK
open PySem L2
section
variable {X : Cx} {K : PySem.W.Frag}
theorem ixL (h : X.K = K := by rfl) : IxR X (rIxL K) := by subst h; exact ix_list
theorem ixT (h : X.K = K := by rfl) : IxR X (rIxT K) := by subst h; exact ix_tup
theorem ixQ (h : X.K = K := by rfl) : IxR X (rIx K) := by subst h; exact ix_seq
theorem eqD (hu : X.A.units + 64 < cLine) (h : X.K = K := by rfl) : OpR X (compareOp .Eq) (rEqD K) := by subst h; exact op_eqD hu
theorem neD (hu : X.A.units + 64 < cLine) (h : X.K = K := by rfl) : OpR X (compareOp .NotEq) (rNeD K) := by subst h; exact op_neD hu
theorem inQ (h : X.K = K := by rfl) : OpR X (compareOp .In) (rIn K false) := by subst h; exact op_in_seq
theorem notInQ (h : X.K = K := by rfl) : OpR X (compareOp .NotIn) (rIn K true) := by subst h; exact op_notIn_seq
def rLenQ (K : PySem.W.Frag) : List V → Hp → VK → Prop := fun xs H Q => ∃ p ys, xs = [.ref p] ∧ (SqL K H p ys ∨ SqT K H p ys) ∧ Q (.int ys.length) H
theorem lenQ (h : X.K = K := by rfl) : CallR X (.builtin "len") (rLenQ K) := by subst h; exact call_len_seq
def rListQ (K : PySem.W.Frag) : List V → Hp → VK → Prop := fun xs H Q => ∃ p ys, xs = [.ref p] ∧ (SqL K H p ys ∨ SqT K H p ys) ∧ ∀ l, H l = none → Q (.ref l) (upd H l (.lst ys))
theorem listQ (h : X.K = K := by rfl) : CallR X (.type "list") (rListQ K) := by subst h; exact call_list_of
def rTupQ (K : PySem.W.Frag) : List V → Hp → VK → Prop := fun xs H Q => ∃ p ys, xs = [.ref p] ∧ ((SqL K H p ys ∧ ∀ l, H l = none → Q (.ref l) (upd H l (.tup ys))) ∨ (SqT K H p ys ∧ Q (.ref p) H))
theorem tupQ (h : X.K = K := by rfl) : CallR X (.type "tuple") (rTupQ K) := by subst h; exact call_tuple_of
theorem slL (h : X.K = K := by rfl) : SlR X (rSlL K) := by subst h; exact sl_list
theorem slT (h : X.K = K := by rfl) : SlR X (rSlA K) := by subst h; exact sl_tupA
theorem catT (h : X.K = K := by rfl) : OpR X (binaryOp .Add) (rCatA K) := by subst h; exact op_catA
theorem isi (h : X.K = K := by rfl) : CallR X (.builtin "isinstance") (rIsi K) := by subst h; exact call_isi
theorem isiT (h : X.K = K := by rfl) : CallR X (.builtin "isinstance") (rIsiT K) := by subst h; exact call_isiT
theorem piL {tg l : Expr} {tl : TE} (hl : PE X l tl) (h : X.K = K := by rfl) : PI X tg l (iList K tl) := by subst h; exact pi_list hl
theorem piT {tg l : Expr} {tl : TE} (hl : PE X l tl) (h : X.K = K := by rfl) : PI X tg l (iTup K tl) := by subst h; exact pi_tup hl
def rAllQ (K : PySem.W.Frag) : List V → Hp → VK → Prop := fun xs H Q => ∃ (a : Addr) (bs : List Bool), xs = [.ref a] ∧ SqL K H a (bs.map V.bl) ∧ Q (.bl (bs.all id)) H
def rAnyQ (K : PySem.W.Frag) : List V → Hp → VK → Prop := fun xs H Q => ∃ (a : Addr) (bs : List Bool), xs = [.ref a] ∧ SqL K H a (bs.map V.bl) ∧ Q (.bl (bs.any id)) H
theorem allQ (hc : X.calm = true) (h : X.K = K := by rfl) : CallR X (.builtin "all") (rAllQ K) := by subst h; exact cr_all hc
theorem anyQ (hc : X.calm = true) (h : X.K = K := by rfl) : CallR X (.builtin "any") (rAnyQ K) := by subst h; exact cr_any hc
theorem pgTup {es : List Expr} {kk n : Nat} {pos : Pos} {t : TGs} (hc : X.calm = true) (ht : PGs X es t) (h : X.K = K := by rfl) (hn : (assignEach es X.env).length = n := by rfl) (hst : (assignEach es X.env).findIdx? (·.1) = none := by rfl) :
    PG X (.Tuple es kk pos) (gTup K n t) := by subst h; exact pg_tup hc ht hn hst
end
end RK

set_option Elab.async false
namespace RK
open PySem L2
section
variable {X : Cx} {K : PySem.W.Frag} {o e : Expr} {es : List Expr} {to : TE} {t : TA} {name : Str} {apos cpos : Pos} {T id : String} {r : V → List V → Hp → VK → Prop}
/-- a method of a list, in a comprehension too -/
theorem bm (pa : PlainAttrs T) (slot : Slot T name id) (ty : typeOf (.builtin id) = pure (.type "method_descriptor")) (mt : MtR X id r) (ho : PE X o to) (ha : PA X (e :: es) t) (hK : X.K = K := by rfl)
    (h1 : attributeBase o name X.env (eval o X.env) = eval o X.env := by rfl)
    (h2 : ((backTo cpos (starEach (e :: es) X.env)).all (fun y => !y.1) && (backToKw cpos (keywordEach [] X.env)).all (fun y => y.1.isSome)
      && decide ((e :: es).length + ([] : List Keyword).length + (if ([] : List Keyword).isEmpty then 0 else 1) < 30)) = true := by rfl)
    (h3 : (apos.endLine == cpos.line) = true := by rfl) (h4 : starEach (e :: es) X.env = (false, eval e X.env) :: starEach es X.env := by rfl) (h5 : (backTo cpos (starEach es X.env)).any (·.1) = false := by rfl) :
    PE X (.Call (.Attribute o name apos) (e :: es) [] cpos) (tBM K T r to t) := by subst hK; exact pe_bm pa slot ty mt ho ha h1 h2 h3 h4 h5
theorem bm0 (pa : PlainAttrs T) (slot : Slot T name id) (ty : typeOf (.builtin id) = pure (.type "method_descriptor")) (mt : MtR X id r) (ho : PE X o to) (hK : X.K = K := by rfl)
    (h1 : attributeBase o name X.env (eval o X.env) = eval o X.env := by rfl) (h2 : (apos.endLine == cpos.line) = true := by rfl) : PE X (.Call (.Attribute o name apos) [] [] cpos) (tBM0 K T r to) := by subst hK; exact pe_bm0 pa slot ty mt ho h1 h2
def rDictQ (K : PySem.W.Frag) : List V → Hp → VK → Prop := fun xs H Q => ∃ (a : Addr) (ps : List Addr) (kvs : List (Key × V)), xs = [.ref a] ∧ SqL K H a (ps.map V.ref) ∧ Paired (fun q kv => SqT K H q [kV kv.1, kv.2]) ps kvs ∧ ∀ q, H q = none → Q (.ref q) (upd H q (.dK (mergeK [] kvs)))
theorem dictQ (hc : X.calm = true) (h : X.K = K := by rfl) : CallR X (.type "dict") (rDictQ K) := by subst h; exact call_dictP hc
theorem minQ (hc : X.calm = true) (h : X.K = K := by rfl) : CallR X (.builtin "min") (rMin K) := by subst h; exact cr_min hc
theorem indexQ (h : X.K = K := by rfl) : MtR X "list.index" (rIndex K) := by subst h; exact mt_index
theorem inD (hu : X.A.units + 65 < cLine) (h : X.K = K := by rfl) : OpR X (compareOp .In) (rInD K) := by subst h; exact op_inD hu
end
end RK

set_option Elab.async false
set_option linter.all false
set_option maxRecDepth 100000
set_option maxHeartbeats 1000000
/-! tables of sets for masks 7, 31, 127, 511 -/
namespace IT
open PySem PySem.Spec PyProof.Rows L2

/-- the masks that come with up to eighty items -/
def Mk (m : Nat) : Prop := m = 7 ∨ m = 31 ∨ m = 127 ∨ m = 511
def orb (m : Nat) : Nat → Nat → List Nat
  | 0, _ => []
  | n + 1, i => i :: orb m n ((i * 5 + 1) % (m + 1))
theorem orb_at (m : Nat) : ∀ (n a : Nat) (k : Nat), k < n → (orb m n (lcgN m a))[k]? = some (lcgN m (a + k))
  | n + 1, a, 0, _ => rfl
  | n + 1, a, k + 1, h => by
    show (orb m n (lcgN m (a + 1)))[k]? = _
    rw [orb_at m n (a + 1) k (by omega), show a + 1 + k = a + (k + 1) by omega]
def meets (m : Nat) : Bool := (List.range (m + 1)).all fun j => (orb m (m + 1) 0).contains j
theorem meets7 : meets 7 = true := by decide +kernel
theorem meets31 : meets 31 = true := by decide +kernel
theorem meets127 : meets 127 = true := by decide +kernel
theorem meets511 : meets 511 = true := by decide +kernel
theorem meets_of {m : Nat} (hm : Mk m) : meets m = true := by
  rcases hm with rfl | rfl | rfl | rfl
  · exact meets7
  · exact meets31
  · exact meets127
  · exact meets511
theorem round_of {m : Nat} (hm : Mk m) : lcgN m (m + 1) = 0 := by
  rcases hm with rfl | rfl | rfl | rfl <;> decide +kernel
theorem some_of {m : Nat} (hm : Mk m) {j : Nat} (hj : j ≤ m) : ∃ b, b ≤ m ∧ lcgN m b = j := by
  have z := List.all_eq_true.mp (meets_of hm) j (List.mem_range.mpr (Nat.lt_succ_of_le hj))
  have z := List.contains_iff_mem.mp z
  obtain ⟨b, hb, e⟩ := List.getElem_of_mem z
  have len : ∀ (n i : Nat), (orb m n i).length = n := fun n => by
    induction n with
    | zero => intro i; rfl
    | succ n ih => intro i; show (orb m n _).length + 1 = n + 1; rw [ih]
  rw [len] at hb
  have q := orb_at m (m + 1) 0 b hb
  have q : (orb m (m + 1) 0)[b]? = some (lcgN m (0 + b)) := q
  rw [List.getElem?_eq_getElem (by rw [len]; exact hb), e, Nat.zero_add] at q
  exact ⟨b, Nat.le_of_lt_succ hb, (Option.some.inj q).symm⟩
theorem period {m : Nat} (hm : Mk m) : ∀ k, lcgN m (m + 1 + k) = lcgN m k
  | 0 => round_of hm
  | k + 1 => by
    show (lcgN m (m + 1 + k) * 5 + 1) % (m + 1) = (lcgN m k * 5 + 1) % (m + 1)
    rw [period hm k]
theorem from_any {m : Nat} (hm : Mk m) {i j : Nat} (hi : i ≤ m) (hj : j ≤ m) : ∃ k, k ≤ m ∧ lcgI m i k = j := by
  obtain ⟨a, la, rfl⟩ := some_of hm hi
  obtain ⟨b, lb, rfl⟩ := some_of hm hj
  by_cases c : a ≤ b
  · exact ⟨b - a, by omega, by rw [lcgN_add, show a + (b - a) = b by omega]⟩
  · exact ⟨b + (m + 1) - a, by omega, by rw [lcgN_add, show a + (b + (m + 1) - a) = m + 1 + b by omega, period hm]⟩
theorem run_to {m : Nat} (hm : Mk m) (h : Int) {j : Nat} (hj : j ≤ m) : ∃ n, n ≤ m + 12 ∧ runI m (SetTable.bits h) n = j := by
  obtain ⟨k, lk, e⟩ := from_any hm (runI_le m (SetTable.bits h) 12) hj
  exact ⟨12 + k, by omega, (runI_tail (bits_lt h) k).trans e⟩
theorem way_to {m : Nat} (hm : Mk m) (h : Int) {j : Nat} (hj : j ≤ m) : ∃ k, k < 10 * SetTable.turns m ∧ way m h k = j := by
  obtain ⟨n, ln, e⟩ := run_to hm h hj
  obtain ⟨k, lk, f⟩ := run_nth m (SetTable.bits h) n
  refine ⟨k, by unfold SetTable.turns; omega, ?_⟩
  unfold way
  rw [f]
  exact e
theorem in_tab (m : Nat) (h : Int) (k : Nat) : way m h k ≤ m := by
  have hi : SetTable.bits h % (m + 1) ≤ m := Nat.le_of_lt_succ (Nat.mod_lt _ (Nat.succ_pos m))
  have b := runEnd_bd hi
  have q := nth_in (m := m) k (runAt m (SetTable.bits h % (m + 1)) (SetTable.bits h)) (show SetTable.bits h % (m + 1) + (SetTable.runEnd m (SetTable.bits h % (m + 1)) - SetTable.bits h % (m + 1)) ≤ m by omega)
  unfold way
  omega
/-- a table each hash of which is found again -/
structure Tab (t : SetTable) (hs : List Int) : Prop where
  ris : Ris t.place.toList
  dm : t.dummies = #[]
  sz : t.place.toList.length = hs.length
  mok : Mk t.mask
  bd : ∀ x ∈ t.place.toList, x ≤ t.mask
  way : ∀ (i : Nat) (h : Int) (j : Nat), hs[i]? = some h → t.place.toList[i]? = some j → ∃ k, way t.mask h k = j ∧ ∀ q, q < k → way t.mask h q ∈ t.place.toList
theorem Tab.free {t : SetTable} {hs : List Int} (T : Tab t hs) (few : hs.length ≤ t.mask) (h : Int) : ∃ K, K < 10 * SetTable.turns t.mask ∧ L2.way t.mask h K ∉ t.place.toList ∧ ∀ k, k < K → L2.way t.mask h k ∈ t.place.toList := by
  obtain ⟨j, lj, nj⟩ := st_missing t.place.toList (t.mask + 1) (by rw [T.sz]; omega)
  obtain ⟨k, lk, rfl⟩ := way_to T.mok h (Nat.le_of_lt_succ lj)
  obtain ⟨K, a, b, c⟩ := st_least (p := fun k => L2.way t.mask h k ∉ t.place.toList) k nj
  exact ⟨K, by omega, b, fun q lq => Classical.byContradiction fun z => c q lq z⟩
theorem Tab.ahead {t : SetTable} {hs : List Int} (T : Tab t hs) {h : Int} {K i j : Nat} (nK : L2.way t.mask h K ∉ t.place.toList) (hi : hs[i]? = some h) (hj : t.place.toList[i]? = some j) : ∃ k, k < K ∧ L2.way t.mask h k = j := by
  obtain ⟨k, e, b⟩ := T.way i h j hi hj
  refine ⟨k, ?_, e⟩
  rcases Nat.lt_trichotomy k K with z | z | z
  · exact z
  · subst z
    rw [e] at nK
    exact absurd (List.mem_of_getElem? hj) nK
  · exact absurd (b K z) nK
theorem Tab.put {t : SetTable} {hs : List Int} (T : Tab t hs) {h : Int} {K : Nat} (nK : L2.way t.mask h K ∉ t.place.toList) (b : ∀ k, k < K → L2.way t.mask h k ∈ t.place.toList) :
    Tab (t.put (L2.way t.mask h K)).1 (hs.take (SetTable.below t.place (L2.way t.mask h K)) ++ h :: hs.drop (SetTable.below t.place (L2.way t.mask h K))) ∧ (t.put (L2.way t.mask h K)).1.fill = hs.length + 1 := by
  have lj := in_tab t.mask h K
  generalize ej : L2.way t.mask h K = j at nK lj ⊢
  obtain ⟨c1, _, _⟩ := below_cut T.ris j
  have sz := T.sz
  rw [Array.length_toList] at sz
  have p1 : SetTable.below t.place j ≤ t.place.toList.length := by rw [Array.length_toList]; exact c1
  have p2 : SetTable.below t.place j ≤ hs.length := by rw [← sz]; exact c1
  have pl := put_place t j
  have up : ∀ {x : Nat}, x ∈ t.place.toList → x ∈ (t.put j).1.place.toList := fun {x} m => by
    rw [pl]
    exact L2.mem_ins.mpr (.inr m)
  have len : (t.put j).1.place.toList.length = hs.length + 1 := by rw [pl, len_ins _ p1, Array.length_toList, sz]
  refine ⟨⟨ris_insert T.ris fun e => nK (List.mem_of_getElem? (by rw [Array.getElem?_toList]; exact e)), put_dm T.dm j, by rw [len, len_ins _ p2], T.mok, fun x m => ?_, fun i h' j' e1 e2 => ?_⟩, ?_⟩
  · rw [pl] at m
    rcases L2.mem_ins.mp m with z | z
    · rw [z]; exact lj
    · exact T.bd x z
  · rw [tins_get hs p2] at e1
    rw [pl, tins_get _ p1] at e2
    by_cases c : i < SetTable.below t.place j
    · rw [if_pos c] at e1 e2
      obtain ⟨k, e, z⟩ := T.way i h' j' e1 e2
      exact ⟨k, e, fun q lq => up (z q lq)⟩
    · rw [if_neg c] at e1 e2
      by_cases d : i = SetTable.below t.place j
      · rw [if_pos d] at e1 e2
        cases e1
        cases e2
        exact ⟨K, ej, fun q lq => up (b q lq)⟩
      · rw [if_neg d] at e1 e2
        obtain ⟨k, e, z⟩ := T.way (i - 1) h' j' e1 e2
        exact ⟨k, e, fun q lq => up (z q lq)⟩
  · show (t.put j).1.place.size + (t.put j).1.dummies.size = hs.length + 1
    rw [put_dm T.dm j, ← Array.length_toList, len]
    rfl
/-- who sits where, as all is laid anew -/
structure Sits (m : Nat) (done : List Int) (owner : Array (Option Nat)) : Prop where
  sz : owner.size = m + 1
  of : ∀ j k, j ≤ m → oAt owner j = some k → ∃ h K, done[k]? = some h ∧ way m h K = j ∧ ∀ q, q < K → oAt owner (way m h q) ≠ none
  all : ∀ k, k < done.length → ∃ j, j ≤ m ∧ oAt owner j = some k
  ps : ∃ ps : List Nat, ps.length = done.length ∧ ∀ j, j ≤ m → oAt owner j ≠ none → j ∈ ps
theorem sit_more {m : Nat} (hm : Mk m) {done : List Int} {owner : Array (Option Nat)} (W : Sits m done owner) (few : done.length ≤ m) (h : Int) :
    ∃ j, SetTable.layClean.free m owner (SetTable.turns m) (SetTable.bits h % (m + 1)) (SetTable.bits h) = some j ∧ Sits m (done ++ [h]) (owner.setIfInBounds j (some done.length)) := by
  obtain ⟨ps, lp, inp⟩ := W.ps
  obtain ⟨j0, l0, n0⟩ := st_missing ps (m + 1) (by omega)
  have free0 : oAt owner j0 = none := by
    cases z : oAt owner j0 with
    | none => rfl
    | some k => exact absurd (inp j0 (Nat.le_of_lt_succ l0) (by rw [z]; exact fun e => nomatch e)) n0
  obtain ⟨n, ln, e⟩ := run_to hm h (Nat.le_of_lt_succ l0)
  have at0 : way m h (off m (SetTable.bits h % (m + 1)) (SetTable.bits h) n) = j0 := by
    unfold way
    rw [nth_off, itL_run]
    exact e
  obtain ⟨K, k1, k2, k3⟩ := st_least (p := fun q => oAt owner (way m h q) = none) _ (show oAt owner (way m h (off m (SetTable.bits h % (m + 1)) (SetTable.bits h) n)) = none by rw [at0]; exact free0)
  have lj := in_tab m h K
  have ls : way m h K < owner.size := by rw [W.sz]; exact Nat.lt_succ_of_le lj
  have self := oAt_set_self (some done.length) ls
  have more : ∀ {i : Nat}, oAt owner i ≠ none → oAt (owner.setIfInBounds (way m h K) (some done.length)) i ≠ none := fun {i} hi => by
    by_cases c : i = way m h K
    · rw [c, self]; exact fun e => nomatch e
    · rw [oAt_set_ne _ c]; exact hi
  refine ⟨way m h K, free_spec m owner (SetTable.turns m) n _ _ K (by unfold SetTable.turns; omega) k1 (fun q lq => ?_) ?_, ?_⟩
  · cases z : oAt owner (nth m (runAt m (SetTable.bits h % (m + 1)) (SetTable.bits h)) q).j with
    | none => exact absurd z (k3 q lq)
    | some _ => rfl
  · show (oAt owner (way m h K)).isNone = true
    rw [show oAt owner (way m h K) = none from k2]
    rfl
  · refine ⟨by rw [Array.size_setIfInBounds]; exact W.sz, fun j k hj e => ?_, fun k lk => ?_, way m h K :: ps, by rw [List.length_cons, List.length_append, lp]; rfl, fun j hj e => ?_⟩
    · by_cases c : j = way m h K
      · rw [c, self] at e
        cases e
        exact ⟨h, K, by rw [List.getElem?_append_right (Nat.le_refl _), Nat.sub_self]; rfl, c.symm, fun q lq => more (k3 q lq)⟩
      · rw [oAt_set_ne _ c] at e
        obtain ⟨h', K', a1, a2, a3⟩ := W.of j k hj e
        exact ⟨h', K', by rw [List.getElem?_append_left (List.getElem?_eq_some_iff.mp a1).1]; exact a1, a2, fun q lq => more (a3 q lq)⟩
    · rw [List.length_append, List.length_singleton] at lk
      by_cases c : k < done.length
      · obtain ⟨j, hj, e⟩ := W.all k c
        exact ⟨j, hj, by rw [oAt_set_ne _ fun z => by rw [z] at e; exact absurd (e.symm.trans k2) (fun x => nomatch x)]; exact e⟩
      · rw [show k = done.length by omega]
        exact ⟨way m h K, lj, self⟩
    · by_cases c : j = way m h K
      · rw [c]; exact List.mem_cons_self
      · rw [oAt_set_ne _ c] at e
        exact List.mem_cons_of_mem _ (inp j hj e)
theorem sit_fold {m : Nat} (hm : Mk m) : ∀ (rest done : List Int) (owner : Array (Option Nat)), Sits m done owner → done.length + rest.length ≤ m →
    ∃ owner', rest.foldl (stepF m) (some (owner, done.length)) = some (owner', (done ++ rest).length) ∧ Sits m (done ++ rest) owner'
  | [], done, owner, W, _ => ⟨owner, by rw [List.append_nil]; rfl, by rw [List.append_nil]; exact W⟩
  | h :: rest, done, owner, W, few => by
    rw [List.length_cons] at few
    obtain ⟨j, e, W1⟩ := sit_more hm W (by omega) h
    have el : (done ++ [h]).length = done.length + 1 := by rw [List.length_append]; rfl
    obtain ⟨o2, f, W2⟩ := sit_fold hm rest (done ++ [h]) _ W1 (by rw [el]; omega)
    rw [List.append_assoc, el] at f
    rw [List.append_assoc] at W2
    exact ⟨o2, by rw [List.foldl_cons, stepF_some e]; exact f, W2⟩
theorem laid_anew {m : Nat} (hm : Mk m) (t : SetTable) {hs : Array Int} {wanted : Nat} (hw : SetTable.sizeAbove wanted - 1 = m) (few : hs.size ≤ m) :
    ∃ t' order, t.relaid hs wanted = some (t', order) ∧ order.toList.Perm (List.range hs.size) ∧ Tab t' (order.toList.map fun i => hs.getD i 0) ∧ t'.mask = m ∧ t'.led = t.led ∧ t'.plain = t.plain := by
  have W0 : Sits m [] (Array.replicate (m + 1) none) := ⟨by simp, fun j k hj e => (by rw [oAt_init hj] at e; cases e), fun k lk => absurd lk (Nat.not_lt_zero _), [], rfl, fun j hj e => absurd (oAt_init hj) e⟩
  obtain ⟨owner, f, W⟩ := sit_fold hm hs.toList [] _ W0 (by rw [Array.length_toList]; show 0 + hs.size ≤ m; omega)
  rw [List.nil_append] at f W
  have e : SetTable.layClean m hs = some owner := by
    rw [layClean_eq]
    have f : hs.toList.foldl (stepF m) (some (Array.replicate (m + 1) none, 0)) = some (owner, hs.toList.length) := f
    rw [f]
    rfl
  have hr : t.relaid hs wanted = some (tabOf t m owner, ((liveOf m owner).map (·.2)).toArray) := by
    rw [relaid_eq, hw, e]
    rfl
  have ris := ris_live (fun j => owner.getD j none) (List.range (m + 1)) (by
    unfold Ris
    first | exact List.pairwise_lt_range | exact List.pairwise_lt_range _)
  have r1 : Ris ((liveOf m owner).map (·.1)) := ris.1
  have nd : ((liveOf m owner).map (·.1)).Nodup := List.Pairwise.imp (fun h => Nat.ne_of_lt h) r1
  have hl : hs.toList.length = hs.size := rfl
  have len : (liveOf m owner).length = hs.size := by
    obtain ⟨ps, p1, p2⟩ := W.ps
    have a := nat_nodup_len ((liveOf m owner).map (·.1)) ps nd fun x mx => by
      obtain ⟨⟨y, k⟩, mq, ey⟩ := List.mem_map.mp mx
      have ey : y = x := ey
      subst ey
      obtain ⟨b1, b2⟩ := (mem_live W.sz).1 mq
      exact p2 y b1 (by rw [b2]; exact fun z => nomatch z)
    have b := nat_nodup_len (List.range hs.size) ((liveOf m owner).map (·.2)) List.nodup_range fun k mk => by
      obtain ⟨j, b1, b2⟩ := W.all k (by rw [hl]; exact List.mem_range.mp mk)
      exact List.mem_map.mpr ⟨(j, k), (mem_live W.sz).2 ⟨b1, b2⟩, rfl⟩
    rw [List.length_map] at a b
    rw [List.length_range] at b
    omega
  refine ⟨tabOf t m owner, _, hr, ?_, ⟨r1, rfl, ?_, hm, fun x mx => Nat.le_of_lt_succ (List.mem_range.mp (ris.2 x mx)), fun i h j e1 e2 => ?_⟩, rfl, rfl, rfl⟩
  · refine perm_range hs.size _ ((List.length_map _).trans len) fun k lk => ?_
    obtain ⟨j, b1, b2⟩ := W.all k (by rw [hl]; exact lk)
    exact List.mem_map.mpr ⟨(j, k), (mem_live W.sz).2 ⟨b1, b2⟩, rfl⟩
  · show ((liveOf m owner).map (·.1)).length = (((liveOf m owner).map (·.2)).map fun i => hs.getD i 0).length
    rw [List.length_map, List.length_map, List.length_map]
  · have e1 : (((liveOf m owner).map (·.2)).map fun i => hs.getD i 0)[i]? = some h := e1
    have e2 : ((liveOf m owner).map (·.1))[i]? = some j := e2
    rw [List.getElem?_map, List.getElem?_map] at e1
    rw [List.getElem?_map] at e2
    cases q : (liveOf m owner)[i]? with
    | none => rw [q] at e2; cases e2
    | some p =>
      obtain ⟨y, k⟩ := p
      rw [q] at e1 e2
      have ej : y = j := Option.some.inj e2
      have eh : hs.getD k 0 = h := Option.some.inj e1
      subst ej
      obtain ⟨b1, b2⟩ := (mem_live W.sz).1 (List.mem_of_getElem? q)
      obtain ⟨h0, K, a1, a2, a3⟩ := W.of y k b1 b2
      have e0 : hs.getD k 0 = h0 := by
        rw [Array.getD_eq_getD_getElem?, ← Array.getElem?_toList, a1]
        rfl
      have z : h0 = h := e0.symm.trans eh
      subst z
      refine ⟨K, a2, fun q lq => ?_⟩
      show way m h0 q ∈ (liveOf m owner).map (·.1)
      cases z : oAt owner (way m h0 q) with
      | none => exact absurd z (a3 q lq)
      | some k2 => exact List.mem_map.mpr ⟨(way m h0 q, k2), (mem_live W.sz).2 ⟨in_tab m h0 q, z⟩, rfl⟩
end IT

set_option Elab.async false
set_option linter.all false
set_option maxRecDepth 100000
set_option maxHeartbeats 1000000
/-! the set's state; the search -/
noncomputable section
namespace IT
open PySem PySem.Spec PyProof.Rows L2
abbrev hsh (P : Program) (w : World) (k : List Int) : Int := thash P w k
/-- q.1 has the ints q.2 -/
abbrev Has (P : Program) (w : World) (h : Heap) (q : Addr × List Int) : Prop := IsT P w h q.2 q.1
def ent (P : Program) (w : World) (q : Addr × List Int) : Int × Value := (hsh P w q.2, .ref q.1)
theorem odd_of {m : Nat} (h : Mk m) : m % 2 = 1 := by
  rcases h with rfl | rfl | rfl | rfl <;> rfl
/-- the set at a: its tuples as they lie in the table -/
structure Here (P : Program) (w : World) (h : Heap) (a : Addr) (L : List (Addr × List Int)) (es : Array (Int × Value)) (ep : Nat) (t : SetTable) : Prop where
  lies : ∃ ob, h.get? a = some ob ∧ ob.ExactSet ∧ ob.data = .set es ep t
  rows : es.toList = L.map (ent P w)
  tabs : Tab t (L.map fun q => hsh P w q.2)
  once : (L.map Prod.snd).Nodup
  tups : ∀ q ∈ L, Has P w h q
  leds : w.params.followText "set-order" = true ∨ t.led = true
  room : L.length * 5 < t.mask * 3
  most : L.length ≤ 80
section
variable {P : Program} {w : World} {A : Around} {E : Value → Shared → Prop} {s : Shared} {a : Addr} {L : List (Addr × List Int)} {es : Array (Int × Value)} {ep : Nat} {t : SetTable}
theorem Here.many (R : Here P w s.heap a L es ep t) : es.size = L.length := by
  have z := congrArg List.length R.rows
  rwa [Array.length_toList, List.length_map] at z
theorem Here.plen (R : Here P w s.heap a L es ep t) : t.place.toList.length = L.length := by
  have z := R.tabs.sz
  rwa [List.length_map] at z
theorem Here.fit (R : Here P w s.heap a L es ep t) : t.fits es.size = true := by
  have z := R.plen
  rw [Array.length_toList] at z
  have r := R.room
  unfold SetTable.fits SetTable.fill
  rw [R.tabs.dm, R.many, z]
  simp
  omega
theorem Here.row (R : Here P w s.heap a L es ep t) {i : Nat} {q : Addr × List Int} (e : L[i]? = some q) : es[i]? = some (ent P w q) := by
  have z := congrArg (fun l => l[i]?) R.rows
  have z : es.toList[i]? = (L.map (ent P w))[i]? := z
  rw [List.getElem?_map, e, Array.getElem?_toList] at z
  exact z
theorem Here.noGw (R : Here P w s.heap a L es ep t) : t.gaveWay ≠ true := by
  have o := odd_of R.tabs.mok
  unfold SetTable.gaveWay
  simp [o]

/-- the c-th step of a search -/
abbrev stp (t : SetTable) (h : Int) (c : Nat) : SetTable.Probe := nth t.mask (runAt t.mask (SetTable.bits h % (t.mask + 1)) (SetTable.bits h)) c
theorem stp_none (t : SetTable) (h : Int) : ∀ c, (stp t h c).dummy = none
  | 0 => rfl
  | c + 1 => by
    have ih := stp_none t h c
    show (nth t.mask _ (c + 1)).dummy = none
    rw [nth_succ]
    unfold adv
    split
    · exact ih
    · exact ih
theorem stp_on (t : SetTable) (h : Int) (c q : Nat) : nth t.mask (stp t h c) q = stp t h (c + q) := (nth_add t.mask c _ q).symm
/-- what lies at the d-th step has another hash -/
def Other (P : Program) (w : World) (L : List (Addr × List Int)) (t : SetTable) (h : Int) (d : Nat) : Prop := ∀ (i : Nat) (q : Addr × List Int), t.place.toList[i]? = some (way t.mask h d) → L[i]? = some q → hsh P w q.2 ≠ h
/-- what the probe answers from the c-th step on, K being the first free one -/
theorem Here.ans (R : Here P w s.heap a L es ep t) {h : Int} {K c : Nat} (kf : K < 10 * SetTable.turns t.mask) (k1 : way t.mask h K ∉ t.place.toList) (k2 : ∀ d, d < K → way t.mask h d ∈ t.place.toList) (hc : c ≤ K) :
    (∃ d i q, c ≤ d ∧ d < K ∧ t.place.toList[i]? = some (way t.mask h d) ∧ L[i]? = some q ∧ hsh P w q.2 = h ∧ (∀ d', c ≤ d' → d' < d → Other P w L t h d') ∧
      t.probe (fun i => (es[i]?.map (·.1)).getD 0) h (stp t h c) = some (.candidate (way t.mask h d) i (stp t h (d + 1)))) ∨
    ((∀ d', c ≤ d' → d' < K → Other P w L t h d') ∧ t.probe (fun i => (es[i]?.map (·.1)).getD 0) h (stp t h c) = some (.empty (way t.mask h K) none)) := by
  have kk : c + (K - c) = K := by omega
  have G := go_spec t R.tabs.ris R.tabs.dm (fun i => (es[i]?.map (·.1)).getD 0) h (10 * SetTable.turns t.mask) (K - c) (stp t h c) (stp_none t h c) (by omega)
    (fun q lt => by rw [stp_on]; exact k2 (c + q) (by omega)) (by rw [stp_on, kk]; exact k1)
  have hash : ∀ {i : Nat} {q : Addr × List Int}, L[i]? = some q → (fun i => (es[i]?.map (·.1)).getD 0) i = hsh P w q.2 := fun {i q} e => by
    show (es[i]?.map (·.1)).getD 0 = _
    rw [R.row e]
    rfl
  have oth : ∀ n : Nat, (∀ (k' i' : Nat), k' < n → t.place.toList[i']? = some (nth t.mask (stp t h c) k').j → (fun i => (es[i]?.map (·.1)).getD 0) i' ≠ h) → ∀ d', c ≤ d' → d' < c + n → Other P w L t h d' := fun n g d' l1 l2 => fun i q e1 e2 => by
    have z := g (d' - c) i (by omega) (by rw [stp_on, show c + (d' - c) = d' by omega]; exact e1)
    rwa [hash e2] at z
  rcases G with ⟨q, i, g1, g2, g3, g4, g5⟩ | ⟨g1, g2⟩
  · left
    rw [stp_on] at g2
    obtain ⟨p, lp⟩ : ∃ p, L[i]? = some p := by
      have z := (List.getElem?_eq_some_iff.mp g2).1
      rw [R.plen] at z
      exact ⟨_, List.getElem?_eq_getElem z⟩
    have g3 : (fun i => (es[i]?.map (·.1)).getD 0) i = h := g3
    rw [hash lp] at g3
    rw [stp_on, stp_on] at g5
    exact ⟨c + q, i, p, by omega, by omega, g2, lp, g3, oth q g4, g5⟩
  · right
    rw [stp_on, kk] at g2
    refine ⟨fun d' l1 l2 => oth (K - c) g1 d' l1 (by omega), g2⟩

/-- the search from the c-th step on -/
theorem Here.seek (R : Here P w s.heap a L es ep t) {x : Addr} {k : List Int} (hx : Has P w s.heap (x, k)) (hu : A.units < cLine) {K : Nat} (kf : K < 10 * SetTable.turns t.mask)
    (k1 : way t.mask (hsh P w k) K ∉ t.place.toList) (k2 : ∀ d, d < K → way t.mask (hsh P w k) d ∈ t.place.toList) {Q : SetFound → Shared → Prop}
    (yes : k ∈ L.map Prod.snd → Q (.there none) s) (no : k ∉ L.map Prod.snd → Q (.free (way t.mask (hsh P w k) K) false) s) :
    ∀ (m c f : Nat) (stand : Option SetTable.Probe), K - c = m → m < f → c ≤ K → stand.getD (t.probeStart (hsh P w k)) = stp t (hsh P w k) c →
      (∀ (i : Nat) q, L[i]? = some q → q.2 = k → ∃ d, c ≤ d ∧ d < K ∧ t.place.toList[i]? = some (way t.mask (hsh P w k) d)) →
      wpAny (model P w) A (setSearchFrom a (.ref x) (hsh P w k) true f stand) Q E s := by
  intro m
  induction m using Nat.strongRecOn with
  | ind m ih =>
    intro c f stand hm hf hc st ahead
    obtain ⟨f, rfl⟩ : ∃ g, f = g + 1 := ⟨f - 1, by omega⟩
    obtain ⟨ob, o1, o2, o3⟩ := R.lies
    rw [setSearchFrom_succ]
    refine wpAny_bind (wpAny_setState_of o1 o3 R.fit ?_)
    dsimp only
    refine wp_if_neg R.noGw ?_
    try refine wpAny_bind (wpAny_pure ?_)
    rw [st]
    rcases R.ans kf k1 k2 hc with ⟨d, i, p, l1, l2, pl, lp, hh, ot, pr⟩ | ⟨ot, pr⟩
    · rw [pr]
      dsimp only
      have pin := List.mem_of_getElem? lp
      have px := R.tups p pin
      have sl := slot_live R.tabs.ris pl
      have go : wpAny (model P w) A (searchRest a (.ref x) (hsh P w k) true f es t (way t.mask (hsh P w k) d) i (stp t (hsh P w k) (d + 1))) Q E s := by
        unfold searchRest
        rw [R.row lp]
        unfold ent
        dsimp only
        refine wpAny_bind (wpAny_holding (wpAny_eqBool_tuple hu px hx (wpAny_bind (wpAny_setState_of o1 o3 R.fit ?_))))
        dsimp only
        by_cases same : p.2 = k
        · refine wp_if_pos (by rw [decide_eq_true same]; rfl) (wpAny_pure (yes ?_))
          rw [← same]
          exact List.mem_map_of_mem pin
        · rw [decide_eq_false same]
          refine wp_if_neg (by decide) ?_
          try refine wpAny_bind (wpAny_pure ?_)
          rw [sameMem]
          dsimp only
          rw [if_pos rfl, sl]
          dsimp only
          rw [R.row lp]
          unfold ent
          dsimp only
          refine wpAny_bind (wpAny_isSame_ref_self (wpAny_bind (wpAny_pure ?_)))
          rw [if_pos rfl]
          dsimp only
          refine wp_if_neg (by decide) ?_
          refine ih (K - (d + 1)) (by omega) (d + 1) f _ rfl (by omega) (by omega) rfl fun i' q' e1 e2 => ?_
          obtain ⟨d', b1, b2, b3⟩ := ahead i' q' e1 e2
          refine ⟨d', ?_, b2, b3⟩
          rcases Nat.lt_trichotomy d' d with z | z | z
          · exact absurd (by rw [e2]) (ot d' b1 z i' q' b3 e1)
          · subst z
            have s2 := slot_live R.tabs.ris b3
            rw [sl] at s2
            injection s2 with s2
            rw [← s2, lp] at e1
            injection e1 with e1
            exact absurd (e1 ▸ e2) same
          · exact z
      by_cases ld : t.led = true
      · refine wp_if_neg (by rw [ld]; decide) ?_
        try refine wpAny_bind (wpAny_pure ?_)
        exact go
      · refine wp_if_pos (by rw [Bool.not_eq_true] at ld; rw [ld]; rfl) ?_
        refine wpAny_bind (seen_tup hx (fun u mu => ?_) ?_)
        · obtain ⟨e, me, ue⟩ := List.mem_map.mp mu
          have me2 : e ∈ es.toList := by
            have z : e ∈ es ∧ e.1 = hsh P w k := by simpa using me
            simpa using z.1
          rw [R.rows] at me2
          obtain ⟨r, mr, re⟩ := List.mem_map.mp me2
          exact ⟨r.2, r.1, by rw [← ue, ← re]; rfl, R.tups r mr⟩
        · refine wp_if_neg (by decide) ?_
          try refine wpAny_bind (wpAny_pure ?_)
          exact go
    · rw [pr]
      dsimp only
      refine wpAny_pure (no fun mk => ?_)
      obtain ⟨q, mq, e2⟩ := List.mem_map.mp mk
      obtain ⟨i, hi, e1⟩ := List.getElem_of_mem mq
      have e1 : L[i]? = some q := by rw [List.getElem?_eq_getElem hi, e1]
      obtain ⟨d, b1, b2, b3⟩ := ahead i q e1 e2
      exact ot d b1 b2 i q b3 e1 (by rw [e2])
/-- the search as adding asks for it -/
theorem Here.find (R : Here P w s.heap a L es ep t) {x : Addr} {k : List Int} (hx : Has P w s.heap (x, k)) (hu : A.units < cLine) {Q : SetFound → Shared → Prop} (yes : k ∈ L.map Prod.snd → Q (.there none) s)
    (no : ∀ K, k ∉ L.map Prod.snd → way t.mask (hsh P w k) K ∉ t.place.toList → (∀ d, d < K → way t.mask (hsh P w k) d ∈ t.place.toList) → Q (.free (way t.mask (hsh P w k) K) false) s) :
    wpAny (model P w) A (setSearch a (.ref x) (hsh P w k) true) Q E s := by
  have rm := R.room
  obtain ⟨K, kf, k1, k2⟩ := R.tabs.free (h := hsh P w k) (by rw [List.length_map]; omega)
  have big : K < 100000 := by
    have tu : 10 * SetTable.turns t.mask ≤ 9000 := by
      unfold SetTable.turns
      rcases R.tabs.mok with e | e | e | e <;> omega
    omega
  unfold setSearch
  refine R.seek hx hu kf k1 k2 yes (fun n => no K n k1 k2) (K - 0) 0 100000 none rfl (by omega) (Nat.zero_le _) rfl fun i q e1 e2 => ?_
  have li := (List.getElem?_eq_some_iff.mp e1).1
  rw [← R.plen] at li
  obtain ⟨d, b1, b2⟩ := R.tabs.ahead (i := i) k1 (by rw [List.getElem?_map, e1, ← e2]; rfl) (List.getElem?_eq_getElem li)
  exact ⟨d, Nat.zero_le _, b1, by rw [List.getElem?_eq_getElem li, b2]⟩
end
end IT

set_option Elab.async false
set_option linter.all false
set_option maxRecDepth 100000
set_option maxHeartbeats 1000000
/-! one tuple of texts added -/
noncomputable section
namespace IT
open PySem PySem.Spec PyProof.Rows L2
theorem fm_map {α β : Type} (f : α → Option β) (g : α → β) : ∀ l : List α, (∀ x ∈ l, f x = some (g x)) → l.filterMap f = l.map g
  | [], _ => rfl
  | x :: l, h => by
    rw [List.filterMap_cons_some (h x List.mem_cons_self), fm_map f g l fun y m => h y (List.mem_cons_of_mem _ m)]
    rfl
theorem getD_range {α : Type} (L : List α) (d : α) : (List.range L.length).map (fun i => L.getD i d) = L := by
  refine List.ext_getElem (by rw [List.length_map, List.length_range]) fun i h1 h2 => ?_
  rw [List.getElem_map, List.getElem_range, List.getD_eq_getElem?_getD, List.getElem?_eq_getElem h2]
  rfl
section
variable {P : Program} {w : World} {A : Around} {E : Value → Shared → Prop} {s : Shared} {a : Addr} {L : List (Addr × List Int)} {es : Array (Int × Value)} {ep : Nat} {t : SetTable}
theorem Has.kept {h h' : Heap} {q : Addr × List Int} (x : Has P w h q) (k : ∀ b o, h.get? b = some o → h'.get? b = some o) : Has P w h' q :=
  let ⟨ob, its, n, e, r⟩ := x; ⟨ob, its, n, k _ _ e, r⟩
theorem Has.but {h h' : Heap} {q : Addr × List Int} {ob : Obj} (x : Has P w h q) (e : h.get? a = some ob) (d : ob.data = .set es ep t) (sb : Heap.SameBut a h h') : Has P w h' q := by
  obtain ⟨o2, its, n, e2, c, d2, r⟩ := x
  refine ⟨o2, its, n, (sb.2 _ fun z => ?_).trans e2, c, d2, r⟩
  rw [z, e] at e2
  rw [← Option.some.inj e2, d] at d2
  cases d2
theorem size_308 : SetTable.sizeAbove (SetTable.grown 77) = 512 := by decide +kernel
/-- the table laid anew, greater -/
theorem relaidN {ob : Obj} {n M : Nat} (o1 : s.heap.get? a = some ob) (o2 : ob.ExactSet) (o3 : ob.data = .set es ep t) (rows : es.toList = L.map (ent P w)) (T : Tab t (L.map fun q => hsh P w q.2)) (once : (L.map Prod.snd).Nodup) (tups : ∀ q ∈ L, Has P w s.heap q)
    (leds : w.params.followText "set-order" = true ∨ t.led = true) (hl : L.length = n) (hm : n ≤ t.mask) (hM : Mk M) (hw : SetTable.sizeAbove (SetTable.grown n) = M + 1) (hn : n * 5 < M * 3) (h80 : n ≤ 80) {Q : Unit → Shared → Prop}
    (h : ∀ h' L' es' ep' t', Heap.SameBut a s.heap h' → Here P w h' a L' es' ep' t' → L'.Perm L → Q () { s with heap := h' }) : wpAny (model P w) A (setRelay a (SetTable.grown n)) Q E s := by
  have m512 : M + 1 ≤ 512 := by rcases hM with e | e | e | e <;> omega
  have sz : es.size = n := by
    have z := congrArg List.length rows
    rwa [Array.length_toList, List.length_map, hl] at z
  have psz : t.place.size = n := by
    have z := T.sz
    rwa [List.length_map, hl, Array.length_toList] at z
  have fit : t.fits es.size = true := by
    unfold SetTable.fits SetTable.fill
    rw [T.dm, sz, psz]
    simp
    exact hm
  obtain ⟨t', order, e, pm, T', em, el, _⟩ := laid_anew hM t (hs := es.map (·.1)) (wanted := SetTable.grown n) (by rw [hw]; rfl) (by rw [Array.size_map, sz]; omega)
  rw [Array.size_map, sz, ← hl] at pm
  have lt : ∀ i ∈ order.toList, i < L.length := fun i m => List.mem_range.mp (pm.mem_iff.mp m)
  obtain ⟨d, _⟩ : ∃ d : Addr × List Int, True := ⟨(0, []), trivial⟩
  have at_ : ∀ i ∈ order.toList, es[i]? = some (ent P w (L.getD i d)) := fun i m => by
    have z : es.toList[i]? = (L.map (ent P w))[i]? := congrArg (fun l => l[i]?) rows
    rw [List.getElem?_map, Array.getElem?_toList] at z
    rw [z, List.getD_eq_getElem?_getD, List.getElem?_eq_getElem (lt i m)]
    rfl
  have rows' : (order.filterMap (es[·]?)).toList = (order.toList.map fun i => L.getD i d).map (ent P w) := by
    rw [Array.toList_filterMap, List.map_map]
    exact fm_map _ _ _ at_
  have pmL : (order.toList.map fun i => L.getD i d).Perm L := by
    have z := pm.map (fun i => L.getD i d)
    rwa [getD_range] at z
  have hs' : (order.toList.map fun i => L.getD i d).map (fun q => hsh P w q.2) = order.toList.map fun i => (es.map (·.1)).getD i 0 := by
    rw [List.map_map]
    refine List.map_congr_left fun i m => ?_
    have z : (es.map (·.1))[i]? = some (hsh P w (L.getD i d).2) := by rw [Array.getElem?_map, at_ i m]; rfl
    rw [Array.getD_eq_getD_getElem?, z]
    rfl
  rw [← hs'] at T'
  generalize (order.toList.map fun i => L.getD i d) = L' at rows' pmL T'
  have sz' : (order.filterMap (es[·]?)).size = es.size := by
    have z := congrArg List.length rows'
    rw [Array.length_toList, List.length_map, pmL.length_eq, hl] at z
    rw [z, sz]
  rw [setRelay_eq]
  refine wpAny_bind (wpAny_setState_of o1 o3 fit ?_)
  dsimp only
  refine wp_if_neg (by rw [hw, sizeLine_eq]; omega) ?_
  try refine wpAny_bind (wpAny_pure ?_)
  rw [e]
  dsimp only
  refine wpAny_bind ?_
  refine wp_if_neg (by rw [sz']; simp) ?_
  try refine wpAny_bind (wpAny_pure ?_)
  refine wpAny_pure ?_
  dsimp only
  refine wpAny_storeSet_of o1 o3 ?_ (by rw [sz', sz, sizeLine_eq]; omega)
  have sb : Heap.SameBut a s.heap (s.heap.update a (Obj.putSet (order.filterMap (es[·]?)) t')) := Heap.SameBut.update ..
  refine h _ L' _ (ep + 1) t' sb ⟨⟨_, store_at o1 o3, ⟨o2.1, o2.2.1, o2.2.2⟩, rfl⟩, rows', T', (pmL.map Prod.snd).nodup_iff.mpr once, fun q m => (tups q (pmL.mem_iff.mp m)).but o1 o3 sb, by rw [el]; exact leds, ?_, ?_⟩ pmL
  · rw [pmL.length_eq, hl, em]
    exact hn
  · rw [pmL.length_eq, hl]
    exact h80
/-- one more, or one that is there -/
theorem Here.add (R : Here P w s.heap a L es ep t) {x : Addr} {k : List Int} (hx : Has P w s.heap (x, k)) (hu : A.units < cLine) (hl : L.length < 80) {Q : Bool → Shared → Prop}
    (h : ∀ b h' L' es' ep' t', Heap.SameBut a s.heap h' → Here P w h' a L' es' ep' t' → (k ∈ L.map Prod.snd → L' = L) → (k ∉ L.map Prod.snd → L'.Perm ((x, k) :: L)) → Q b { s with heap := h' }) :
    wpAny (model P w) A (setAddHashed a (.ref x) (hsh P w k)) Q E s := by
  obtain ⟨ob, o1, o2, o3⟩ := R.lies
  have rm := R.room
  unfold setAddHashed
  refine wpAny_holding ?_
  rw [show (100000 : Nat) = 99999 + 1 from rfl, setAddHashedIn_succ]
  refine wpAny_bind (wpAny_setState_of o1 o3 R.fit ?_)
  dsimp only
  refine wp_if_neg (by simp [byScan, Value.scannable]) ?_
  try refine wpAny_bind (wpAny_pure ?_)
  refine wpAny_bind (R.find hx hu (fun y => ?_) fun K n k1 k2 => ?_)
  · dsimp only
    exact wpAny_pure (h false s.heap L es ep t (Heap.SameBut.refl a s.heap) R (fun _ => rfl) fun z => absurd y z)
  · dsimp only
    refine wpAny_bind (wpAny_setState_of o1 o3 R.fit ?_)
    dsimp only
    obtain ⟨q3, q9⟩ := R.tabs.put k1 k2
    rw [List.length_map] at q9
    have q1 : (t.put (way t.mask (hsh P w k) K)).2 = SetTable.below t.place (way t.mask (hsh P w k) K) := rfl
    have q4 : (t.put (way t.mask (hsh P w k) K)).1.mask = t.mask := rfl
    have q5 : (t.put (way t.mask (hsh P w k) K)).1.led = t.led := rfl
    generalize t.put (way t.mask (hsh P w k) K) = pt at q1 q3 q4 q5 q9 ⊢
    obtain ⟨t1, p⟩ := pt
    dsimp only at q1 q3 q4 q5 q9 ⊢
    subst q1
    have tail : ∀ t2 : SetTable, (t2 = t1 ∨ t2 = { t1 with plain := false }) → wpAny (model P w) A (do
        storeSet a (SetTable.insertAt es (SetTable.below t.place (way t.mask (hsh P w k) K)) (hsh P w k, Value.ref x)) t2
        if !false && t2.tooFull then setRelay a (SetTable.grown (es.size + 1))
        return true) Q E s := by
      intro t2 ht
      have T2 : Tab t2 ((L.map fun q => hsh P w q.2).take (SetTable.below t.place (way t.mask (hsh P w k) K)) ++ hsh P w k :: (L.map fun q => hsh P w q.2).drop (SetTable.below t.place (way t.mask (hsh P w k) K))) := by
        rcases ht with rfl | rfl
        · exact q3
        · exact ⟨q3.ris, q3.dm, q3.sz, q3.mok, q3.bd, q3.way⟩
      have m2 : t2.mask = t.mask := by rcases ht with rfl | rfl <;> exact q4
      have l2 : t2.led = t.led := by rcases ht with rfl | rfl <;> exact q5
      have f2 : t2.fill = L.length + 1 := by rcases ht with rfl | rfl <;> exact q9
      clear ht q3 q4 q5 q9
      have rows : (SetTable.insertAt es (SetTable.below t.place (way t.mask (hsh P w k) K)) (hsh P w k, Value.ref x)).toList = (L.take (SetTable.below t.place (way t.mask (hsh P w k) K)) ++ (x, k) :: L.drop (SetTable.below t.place (way t.mask (hsh P w k) K))).map (ent P w) := by
        rw [SetTable.toList_insertAt, R.rows, List.map_append, List.map_cons, List.map_take, List.map_drop]
        rfl
      have pm := put_perm L (SetTable.below t.place (way t.mask (hsh P w k) K)) (x, k)
      rw [← List.map_take, ← List.map_drop, ← List.map_cons (f := fun q : Addr × List Int => hsh P w q.2) (a := (x, k)), ← List.map_append] at T2
      generalize SetTable.insertAt es (SetTable.below t.place (way t.mask (hsh P w k) K)) (hsh P w k, Value.ref x) = es1 at rows ⊢
      generalize L.take (SetTable.below t.place (way t.mask (hsh P w k) K)) ++ (x, k) :: L.drop (SetTable.below t.place (way t.mask (hsh P w k) K)) = L1 at pm T2 rows
      have len : L1.length = L.length + 1 := pm.length_eq
      have sz1 : es1.size = L.length + 1 := by
        have z := congrArg List.length rows
        rwa [Array.length_toList, List.length_map, len] at z
      have once : (L1.map Prod.snd).Nodup := by
        refine (pm.map Prod.snd).nodup_iff.mpr ?_
        rw [List.map_cons]
        exact List.nodup_cons.mpr ⟨n, R.once⟩
      refine wpAny_bind (wpAny_storeSet_of o1 o3 ?_ (by rw [sz1, sizeLine_eq]; omega))
      have sb : Heap.SameBut a s.heap (s.heap.update a (Obj.putSet es1 t2)) := Heap.SameBut.update ..
      have at1 := store_at (es' := es1) (t' := t2) o1 o3
      have tups : ∀ q ∈ L1, Has P w (s.heap.update a (Obj.putSet es1 t2)) q := fun q m => by
        rcases List.mem_cons.mp (pm.mem_iff.mp m) with e | m
        · rw [e]; exact hx.but o1 o3 sb
        · exact (R.tups q m).but o1 o3 sb
      generalize s.heap.update a (Obj.putSet es1 t2) = h1 at sb at1 tups ⊢
      have leds : w.params.followText "set-order" = true ∨ t2.led = true := by rw [l2]; exact R.leds
      have ex1 : ({ ob with data := .set es1 (ep + 1) t2 } : Obj).ExactSet := ⟨o2.1, o2.2.1, o2.2.2⟩
      have tf : t2.tooFull = decide ((L.length + 1) * 5 ≥ t.mask * 3) := by
        unfold SetTable.tooFull
        rw [f2, m2]
      by_cases full : (L.length + 1) * 5 ≥ t.mask * 3
      · have cases3 : (t.mask = 7 ∧ L.length = 4) ∨ (t.mask = 31 ∧ L.length = 18) ∨ (t.mask = 127 ∧ L.length = 76) := by
          rcases R.tabs.mok with e | e | e | e
          · left; rw [e] at full rm; exact ⟨e, by omega⟩
          · right; left; rw [e] at full rm; exact ⟨e, by omega⟩
          · right; right; rw [e] at full rm; exact ⟨e, by omega⟩
          · rw [e] at full; omega
        rw [decide_eq_true full] at tf
        have szn : es.size + 1 = L.length + 1 := by rw [R.many]
        rw [tf, szn]
        have go : wpAny (model P w) A (setRelay a (SetTable.grown (L.length + 1))) (fun _ s' => wpAny (model P w) A (pure true) Q E s') E { s with heap := h1 } := by
          have fin : ∀ h' L' es' ep' t', Heap.SameBut a h1 h' → Here P w h' a L' es' ep' t' → L'.Perm L1 → wpAny (model P w) A (pure true) Q E { s with heap := h' } := fun h2 L2 es2 ep2 t3 sb2 R2 pm2 =>
            wpAny_pure (h true h2 L2 es2 ep2 t3 (sb.trans sb2) R2 (fun z => absurd z n) fun _ => pm2.trans pm)
          rcases cases3 with ⟨e1, e2⟩ | ⟨e1, e2⟩ | ⟨e1, e2⟩
          · exact relaidN (M := 31) (s := { s with heap := h1 }) at1 ex1 rfl rows T2 once tups leds len (by rw [m2, e1, e2]; omega) (.inr (.inl rfl)) (by rw [e2, size_20]) (by omega) (by omega) fin
          · exact relaidN (M := 127) (s := { s with heap := h1 }) at1 ex1 rfl rows T2 once tups leds len (by rw [m2, e1, e2]; omega) (.inr (.inr (.inl rfl))) (by rw [e2, size_76]) (by omega) (by omega) fin
          · exact relaidN (M := 511) (s := { s with heap := h1 }) at1 ex1 rfl rows T2 once tups leds len (by rw [m2, e1, e2]; omega) (.inr (.inr (.inr rfl))) (by rw [e2, size_308]) (by omega) (by omega) fin
        first
          | exact wp_if_pos (by decide) (wpAny_bind go)
          | exact wpAny_bind (wp_if_pos (by decide) go)
          | exact wpAny_bind go
      · rw [decide_eq_false full] at tf
        rw [tf]
        have fin : wpAny (model P w) A (pure true) Q E { s with heap := h1 } :=
          wpAny_pure (h true h1 L1 es1 (ep + 1) t2 sb ⟨⟨_, at1, ex1, rfl⟩, rows, T2, once, tups, leds, by rw [len, m2]; omega, by rw [len]; omega⟩ (fun z => absurd z n) fun _ => pm)
        first
          | exact wp_if_neg (by decide) fin
          | exact wp_if_neg (by decide) (wpAny_bind (wpAny_pure fin))
          | exact wpAny_bind (wp_if_neg (by decide) (wpAny_pure fin))
    by_cases pl : t1.plain = true
    · have step : ∀ b : Bool, wpAny (model P w) A (do
          let u := if b then t1 else { t1 with plain := false }
          storeSet a (SetTable.insertAt es (SetTable.below t.place (way t.mask (hsh P w k) K)) (hsh P w k, Value.ref x)) u
          if !false && u.tooFull then setRelay a (SetTable.grown (es.size + 1))
          return true) Q E s := fun b => by
        cases b
        · exact tail _ (.inr rfl)
        · exact tail _ (.inl rfl)
      first
        | (refine wpAny_bind ?_; refine wp_if_pos pl ?_; exact hashBy_tup hx (step true))
        | exact wp_if_pos pl (wpAny_bind (hashBy_tup hx (step true)))
    · have one := tail t1 (.inl rfl)
      first
        | (refine wpAny_bind ?_; refine wp_if_neg pl ?_; exact wpAny_pure one)
        | exact wp_if_neg pl (wpAny_bind (wpAny_pure one))
end
end IT

set_option Elab.async false
set_option linter.all false
set_option maxRecDepth 100000
set_option maxHeartbeats 3200000
/-! set(xs) of a list of tuples of texts -/
noncomputable section
namespace IT
open PySem PySem.Spec PyProof.Rows L2
/-- L has what the first i of ks have -/
def Seen (ks : List (Addr × List Int)) (i : Nat) (L : List (Addr × List Int)) : Prop := (∀ q ∈ L, q ∈ ks) ∧ (∀ q ∈ ks.take i, q.2 ∈ L.map Prod.snd) ∧ L.length ≤ i
theorem take_one {α : Type} {l : List α} {i : Nat} {x : α} (h : l[i]? = some x) {y : α} (m : y ∈ l.take (i + 1)) : y ∈ l.take i ∨ y = x := by
  rw [List.take_add_one, h] at m
  rcases List.mem_append.mp m with m | m
  · exact .inl m
  · exact .inr (by simpa using m)
section
variable {P : Program} {w : World} {A : Around} {E : Value → Shared → Prop} {s : Shared}
theorem Here.moved {h h' : Heap} {a : Addr} {L : List (Addr × List Int)} {es : Array (Int × Value)} {ep : Nat} {t : SetTable} (R : Here P w h a L es ep t) (ha : ∀ o, h.get? a = some o → h'.get? a = some o) (tups : ∀ q ∈ L, Has P w h' q) : Here P w h' a L es ep t :=
  let ⟨ob, o1, r⟩ := R.lies
  ⟨⟨ob, ha _ o1, r⟩, R.rows, R.tabs, R.once, tups, R.leds, R.room, R.most⟩
abbrev bare (w : World) : Obj := { cls := .type "set", dict := none, data := .set #[] 0 (.fresh 0 0 (!w.params.followText "set-order")) }
theorem Here.new {h : Heap} {a : Addr} (e : h.get? a = some (bare w)) : Here P w h a [] #[] 0 (.fresh 0 0 (!w.params.followText "set-order")) := by
  refine ⟨⟨_, e, ⟨rfl, rfl, rfl⟩, rfl⟩, rfl, ⟨List.Pairwise.nil, rfl, rfl, .inl rfl, fun x m => absurd m (by intro z; cases z), fun i h j z => by simp at z⟩, List.nodup_nil, fun q m => (by cases m), ?_, (by show 0 * 5 < 7 * 3; decide), Nat.zero_le _⟩
  cases q : w.params.followText "set-order"
  · exact .inr rfl
  · exact .inl rfl
/-- the loop of set.update -/
theorem loop {I S : Addr} {fp wr : List Addr} {G : Array GenState → Array GenState → Prop} {n : Nat} {Pv : Nat → Value → Prop} {St : Nat → Shared → Prop} {R : Result → Shared → Prop} (W : WalksS P w A.in1 I fp wr G n Pv St) (nS : S ∉ fp) {ks : List (Addr × List Int)} (en : n = ks.length)
    (l80 : ks.length ≤ 80) (vals : ∀ i v, Pv i v → ∃ q, ks[i]? = some q ∧ v = .ref q.1) {h0 : Heap} (hk : ∀ q ∈ ks, Has P w h0 q) (S0 : h0.get? S = none) (w0 : ∀ b ∈ wr, h0.get? b = none) (hu : A.in1.units < cLine)
    (fin : ∀ (s₁ s' : Shared) L es ep t, Moved (S :: wr) G s₁ s' → Here P w s'.heap S L es ep t → Seen ks n L → (∀ b o, h0.get? b = some o → s'.heap.get? b = some o) → s₁ = s → R (.ok (.ret .none)) s') :
    ∀ (m i : Nat) (s₂ : Shared), n - i = m → i ≤ n → St i s₂ → (s₂ = s ∨ Moved (S :: wr) G s s₂) → (∀ b o, h0.get? b = some o → s₂.heap.get? b = some o) → (∃ L es ep t, Here P w s₂.heap S L es ep t ∧ Seen ks i L) →
      codeAny (model P w) A (.builtin "set.update.loop" ⟨[.ref S, .ref I], []⟩) R s₂ := by
  have Sw : S ∉ wr := fun z => nS (W.sub _ z)
  have up : ∀ b ∈ wr, b ∈ S :: wr := fun b m => List.mem_cons_of_mem _ m
  have old : ∀ {u u' : Shared}, Moved wr G u u' → (∀ b o, h0.get? b = some o → u.heap.get? b = some o) → ∀ b o, h0.get? b = some o → u'.heap.get? b = some o := fun mv k b o e =>
    mv.heap b o (fun z => by rw [w0 b z] at e; cases e) (k b o e)
  have chain : ∀ {u u' : Shared}, (u = s ∨ Moved (S :: wr) G s u) → Moved (S :: wr) G u u' → Moved (S :: wr) G s u' := fun c mv => by
    rcases c with rfl | c
    · exact mv
    · exact Moved.trans W.gtrans c mv
  intro m
  induction m with
  | zero =>
    intro i s₂ em hi st ch k0 ⟨L, es, ep, t, R0, sn⟩
    obtain rfl : i = n := by omega
    refine codeAny_builtin F.entry_set_update_loop ?_
    rw [Around.under_plainId F.plain_set_update_loop _]
    show wpAny _ A.in1 (pyNext (.ref I) >>= _) _ _ s₂
    refine wpAny_bind (W.done s₂ _ _ st fun s' mv => ?_)
    have k1 := old mv k0
    show wpAny _ A.in1 (ret Value.none) _ _ s'
    exact wpAny_pure (fin s s' L es ep t (chain ch (mv.mono up)) (R0.moved (fun o e => mv.heap S o Sw e) fun q mq => (hk q (sn.1 q mq)).kept k1) sn k1 rfl)
  | succ m ih =>
    intro i s₂ em hi st ch k0 ⟨L, es, ep, t, R0, sn⟩
    have lt : i < n := by omega
    refine codeAny_builtin F.entry_set_update_loop ?_
    rw [Around.under_plainId F.plain_set_update_loop _]
    show wpAny _ A.in1 (pyNext (.ref I) >>= _) _ _ s₂
    refine wpAny_bind (W.item i s₂ _ _ lt st fun v s' pv st' mv => ?_)
    obtain ⟨⟨x, k⟩, eq, rfl⟩ := vals i v pv
    have mk := List.mem_of_getElem? eq
    have k1 := old mv k0
    have R1 : Here P w s'.heap S L es ep t := R0.moved (fun o e => mv.heap S o Sw e) fun q mq => (hk q (sn.1 q mq)).kept k1
    have hx : Has P w s'.heap (x, k) := (hk _ mk).kept k1
    show wpAny _ A.in1 (holding [Value.ref x] (setAdd S (.ref x)) >>= _) _ _ s'
    refine wpAny_bind (wpAny_holding ?_)
    unfold setAdd
    refine wpAny_holding (wpAny_bind (wpAny_pyHash_tuple hu hx ?_))
    have few : L.length < 80 := by have z := sn.2.2; omega
    refine Here.add (s := { s' with toks := s'.toks + (k.length + 1) }) R1 hx hu few fun b h' L' es' ep' t' sb R2 y1 y2 => ?_
    have sn' : Seen ks (i + 1) L' := by
      by_cases c : k ∈ L.map Prod.snd
      · rw [y1 c]
        refine ⟨sn.1, fun q mq => ?_, Nat.le_succ_of_le sn.2.2⟩
        rcases take_one eq mq with z | z
        · exact sn.2.1 q z
        · rw [z]; exact c
      · have pm := y2 c
        refine ⟨fun q mq => ?_, fun q mq => ?_, by rw [pm.length_eq]; exact Nat.succ_le_succ sn.2.2⟩
        · rcases List.mem_cons.mp (pm.mem_iff.mp mq) with z | z
          · rw [z]; exact mk
          · exact sn.1 q z
        · rw [(pm.map Prod.snd).mem_iff, List.map_cons]
          rcases take_one eq mq with z | z
          · exact List.mem_cons_of_mem _ (sn.2.1 q z)
          · rw [z]; exact List.mem_cons_self
    have k2 : ∀ b o, h0.get? b = some o → h'.get? b = some o := fun b o e => (sb.2 b (fun z => by rw [z, S0] at e; cases e)).trans (k1 b o e)
    have mv2 : Moved (S :: wr) G s₂ { s' with heap := h', toks := s'.toks + (k.length + 1) } := by
      refine (mv.mono up).then_heap (Nat.le_add_right _ _) fun b o nb e => ?_
      rw [sb.2 b fun z => nb (by rw [z]; exact List.mem_cons_self)]
      exact e
    refine wpAny_pure ⟨plainId_quiet F.plain_set_update_loop _, ih (i + 1) _ (by omega) lt (W.frame _ s' _ _ st' (Nat.le_add_right _ _) fun c mc o e => ?_) (.inr (chain ch mv2)) k2 ⟨L', es', ep', t', R2, sn'⟩⟩
    rw [sb.2 c fun z => nS (by rw [← z]; exact mc)]
    exact e
end
end IT

set_option Elab.async false
set_option linter.all false
set_option maxRecDepth 100000
set_option maxHeartbeats 3200000
/-! set(xs), xs a list of tuples of texts; sorted of it -/
noncomputable section
namespace IT
open PySem PySem.Spec PyProof.Rows L2
section
variable {P : Program} {w : World} {A : Around} {E : Value → Shared → Prop} {s : Shared}
theorem call_setP {l : Addr} {its : Array Value} {ks : List (Addr × List Int)} {Q : Value → Shared → Prop} (hh : A.handled = none) (hl : s.heap.IsList l its) (ei : its.toList = ks.map fun q => Value.ref q.1) (hk : ∀ q ∈ ks, Has P w s.heap q)
    (l80 : ks.length ≤ 80) (hu : A.units + 3 < cLine)
    (h : ∀ (h' : Heap) (tk : Nat) L es ep t, Here P w h' s.heap.objs.size L es ep t → Seen ks ks.length L → (∀ b o, s.heap.get? b = some o → h'.get? b = some o) → Q (.ref s.heap.objs.size) { s with heap := h', toks := tk }) :
    wpAny (model P w) A (call (.type "set") [.ref l]) Q E s := by
  have len : its.size = ks.length := by
    have z := congrArg List.length ei
    rwa [Array.length_toList, List.length_map] at z
  obtain ⟨c, tl, hmro⟩ := F.called_set.mro
  have hmade := F.called_set.made
  have hsub := F.called_set.sub
  refine wpAny_call (codeAny_of_tree ?_)
  show wpAny _ _ (callAny (.type "set") _) _ _ _
  refine wpAny_pure ⟨Code.quiet_builtin _ (by decide +kernel), codeAny_builtin F.entry_type_call ?_⟩
  rw [Around.under_plain (weight_type_call_type "set" [.ref l] []) rfl]
  have h1 := F.called_set.notType
  have h2 := F.called_set.canCreate
  have hct := F.typeCall_set_1 (.ref l)
  repeat (any_goals (first | assumption | wp_step))
  refine codeAny_mono (code_set_led1 (.ref l) (E := E) (Q₁ := fun made s₁ => made = .ref s.heap.objs.size ∧ s₁ = { s with heap := s.heap.push (bare w) }) ⟨rfl, rfl⟩) fun r s₁ hr => ?_
  cases r with
  | error e => exact hr
  | ok fl =>
    cases fl with
    | ret made =>
      obtain ⟨rfl, rfl⟩ := hr
      have atS : (s.heap.push (bare w)).get? s.heap.objs.size = some (bare w) := Heap.get?_push_size _ rfl
      have tyS : Shared.TypeIs { s with heap := s.heap.push (bare w) } (.ref s.heap.objs.size) "set" := ⟨_, atS, rfl⟩
      have hli := F.called_set.init.lookup
      have hbi := F.called_set.init.bind (.ref s.heap.objs.size)
      repeat (any_goals (first | assumption | wp_step))
      refine codeAny_mono (codeAny_call_builtin (R := wants (fun r s₂ => r = .none ∧ ∃ h' tk L es ep t, s₂ = { s with heap := h', toks := tk } ∧ Here P w h' s.heap.objs.size L es ep t ∧ Seen ks ks.length L ∧
          ∀ b o, s.heap.get? b = some o → h'.get? b = some o) E) F.called_set.init.plain F.entry_set_init (check_set_init_1 tyS ?_)) fun r₂ s₂ hr₂ => ?_
      · obtain ⟨⟨kc, kd, kt, ksl⟩, e1, e2, ne, e3⟩ := hl
        have e2 : kc = Value.type "list" := e2
        have e3 : kt = .seq its ne := e3
        subst e2 e3
        have onL : (s.heap.push (bare w)).get? l = some { cls := .type "list", dict := kd, data := .seq its ne, slots := ksl } := Heap.get?_push_of_some _ e1
        have hsls := F.sub_list_set
        have hslf := F.sub_list_frozenset
        have nd : (Value.type "list" == Value.type "dict") = false := by decide
        have isL : (s.heap.push (bare w)).IsList l its := ⟨_, onL, rfl, ne, rfl⟩
        unfold Builtin.«set.__init__» noKeywords Builtin.Frozenset.updateFrom
        generalize hPI : pyIter = PI
        wp_walk
        subst hPI
        refine wpAny_pyIter_list isL (wpAny_bind (wpAny_runValue ?_))
        have lt : l < s.heap.objs.size := Heap.lt_size e1
        have h3 : A.in1.in1.in1.handled = none := by simp [hh]
        have neI : l ≠ (s.heap.push (bare w)).objs.size := by rw [Heap.size_push]; exact Nat.ne_of_lt (Nat.lt_succ_of_lt lt)
        have nS : s.heap.objs.size ∉ [(s.heap.push (bare w)).objs.size, l] := by
          rw [Heap.size_push]
          simp only [List.mem_cons, List.not_mem_nil, or_false, not_or]
          exact ⟨Nat.ne_of_lt (Nat.lt_succ_self _), Nat.ne_of_gt lt⟩
        have gone : ∀ b, s.heap.objs.size ≤ b → s.heap.get? b = none := fun b le => by
          cases z : s.heap.get? b with
          | none => rfl
          | some o => exact absurd (Nat.lt_of_lt_of_le (Heap.lt_size z) le) (Nat.lt_irrefl _)
        have vals : ∀ (i : Nat) (v : Value), its[i]? = some v → ∃ q, ks[i]? = some q ∧ v = .ref q.1 := fun i v e => by
          rw [← Array.getElem?_toList, ei, List.getElem?_map] at e
          obtain ⟨q, e, z⟩ := Option.map_eq_some_iff.mp e
          exact ⟨q, e, z.symm⟩
        refine loop (s := { s with heap := (s.heap.push (bare w)).push { cls := .type "list_iterator", data := .fields #[.ref l, .int 0 0] } }) ((Walks.list h3 _ l neI its).toS) nS (n := its.size) len l80 vals (h0 := s.heap) hk (gone _ (Nat.le_refl _)) (fun b m => gone b (by
          rw [List.mem_singleton.mp m, Heap.size_push]; exact Nat.le_succ _)) hu ?fin (its.size - 0) 0 _ rfl (Nat.zero_le _) ⟨⟨_, Heap.get?_push_size _ rfl, rfl, rfl⟩, isL.push _⟩ (.inl rfl) (fun b o e => Heap.get?_push_of_some _ (Heap.get?_push_of_some _ e)) ⟨[], #[], 0, _, Here.new (Heap.get?_push_of_some _ atS), fun q m => (by cases m), fun q m => (by simp at m), Nat.le_refl _⟩
        case fin =>
          intro s₁ s' L es ep t mv R sn k e
          subst e
          obtain ⟨h', g2, d2, tk2, os2⟩ := s'
          have eg : g2 = s.gens := mv.gens
          have ed : d2 = s.drawn := mv.drawn
          have eo : os2 = s.os := mv.os
          subst eg ed eo
          rw [len] at sn
          show wpAny _ _ _ _ _ _
          refine wpAny_pure ?_
          show wpAny _ _ (ret Value.none) _ _ _
          exact wpAny_pure ⟨rfl, h', tk2, L, es, ep, t, rfl, R, sn, k⟩
      · cases r₂ with
        | error e => exact hr₂
        | ok fl₂ =>
          cases fl₂ with
          | ret r =>
            obtain ⟨rfl, h', tk2, L, es, ep, t, rfl, a1, a2, a3⟩ := hr₂
            repeat (any_goals (first | assumption | wp_step))
            exact h _ _ _ _ _ _ a1 a2 a3
          | _ => exact hr₂.elim
    | _ => exact hr.elim
end
end IT

set_option Elab.async false
set_option linter.all false
set_option maxRecDepth 100000
set_option maxHeartbeats 3200000
/-! sorted of a set of pairs of ints, of any of them -/
noncomputable section
namespace IT
open PySem PySem.Spec PyProof.Rows L2
def prI : List Int → Int × Int
  | [x, y] => (x, y)
  | _ => (0, 0)
theorem perm_back {α β : Type} (f : α → β) {l m : List β} (h : l.Perm m) : ∀ L : List α, m = L.map f → ∃ L' : List α, L'.Perm L ∧ l = L'.map f := by
  induction h with
  | nil => intro L e; exact ⟨L, List.Perm.refl _, e⟩
  | cons x _ ih =>
    intro L e
    cases L with
    | nil => cases e
    | cons y L =>
      rw [List.map_cons] at e
      injection e with e1 e2
      obtain ⟨L', p, e3⟩ := ih L e2
      exact ⟨y :: L', p.cons y, by rw [List.map_cons, ← e1, ← e3]⟩
  | swap x y l =>
    intro L e
    match L, e with
    | u :: v :: L, e =>
      rw [List.map_cons, List.map_cons] at e
      injection e with e1 e2
      injection e2 with e2 e3
      exact ⟨v :: u :: L, List.Perm.swap u v L, by rw [List.map_cons, List.map_cons, ← e1, ← e2, ← e3]⟩
  | trans _ _ ih1 ih2 =>
    intro L e
    obtain ⟨L1, p1, e1⟩ := ih2 L e
    obtain ⟨L2, p2, e2⟩ := ih1 L1 e1
    exact ⟨L2, p2.trans p1, e2⟩
section
variable {P : Program} {w : World} {A : Around} {E : Value → Shared → Prop} {s : Shared}
open Classical in
/-- the ints at v -/
def keyAt (P : Program) (w : World) (h : Heap) (v : Value) : List Int := if x : ∃ q : Addr × List Int, v = .ref q.1 ∧ Has P w h q then x.choose.2 else []
theorem keyAt_eq {h : Heap} {q : Addr × List Int} (x : Has P w h q) : keyAt P w h (.ref q.1) = q.2 := by
  have y : ∃ r : Addr × List Int, Value.ref q.1 = .ref r.1 ∧ Has P w h r := ⟨q, rfl, x⟩
  unfold keyAt
  rw [dif_pos y]
  obtain ⟨e, z⟩ := y.choose_spec
  injection e with e
  rw [Has, ← e] at z
  exact z.inj x
theorem pair_of {h : Heap} {q : Addr × List Int} {x y : Int} (g : Has P w h q) (e : q.2 = [x, y]) : Srt.IsPair h (.ref q.1) x y := by
  obtain ⟨ob, its, n, o1, o2, o3, hi⟩ := g
  rw [e] at hi
  have z := ints_of_items hi
  generalize hz : its.toList = us at z
  cases z with
  | cons _ t z =>
    cases z with
    | cons _ u z =>
      cases z
      exact ⟨q.1, ob, t, u, n, rfl, o1, o2, by rw [o3, ← hz]⟩
theorem sortedI {a : Addr} {L : List (Addr × List Int)} {es : Array (Int × Value)} {ep : Nat} {t : SetTable} {Q : Value → Shared → Prop} (R : Here P w s.heap a L es ep t) (hh : A.handled = none) (two : ∀ q ∈ L, ∃ x y, q.2 = [x, y])
    (h : ∀ s' p (out : Array Value) (c : Nat) (L' : List (Addr × List Int)), (∀ b o, s.heap.get? b = some o → s'.heap.get? b = some o) → s'.gens = s.gens → s'.os = s.os → s.heap.objs.size ≤ p → s'.heap.get? p = some (seqObj "list" out c) →
      out.toList = L'.map (fun q => Value.ref q.1) → L'.Perm L → L'.Pairwise (fun q r => SrtO.lexB (prI r.2) (prI q.2) = false) → Q (.ref p) s') : wpAny (model P w) A (call (.builtin "sorted") [.ref a]) Q E s := by
  obtain ⟨ob, o1, o2, o3⟩ := R.lies
  have few := R.most
  refine Calls.call_function_entry kind_sorted plain_sorted entry_sorted (args_sorted1 _) ?_
  unfold Builtin.«sorted»
  refine wpAny_bind (m := checkCount "sorted" 1 1 _) (wpAny_pure ?_)
  refine wpAny_bind (collect_set (A := A.in1) hh ⟨ob, o1, o2.1, o3⟩ R.fit (by rw [R.many]; unfold scanBound; omega) R.tabs.ris R.leds fun s1 vs k1 hz g1 os1 pm => ?_)
  have pm : vs.Perm (L.map fun q => Value.ref q.1) := by
    rw [R.rows, List.map_map] at pm
    exact pm
  have len : vs.length ≤ 80 := by rw [pm.length_eq, List.length_map]; exact few
  have l80 : vs.length ≤ sizeLine := Nat.le_trans len (by rw [sizeLine_eq]; decide)
  refine wpAny_bind (wpAny_newList ?_ l80)
  have atL : (s1.heap.push (seqObj "list" vs.toArray 0)).get? s1.heap.objs.size = some (seqObj "list" vs.toArray 0) := Heap.get?_push_size _ rfl
  have tup : ∀ q ∈ L, Has P w (s1.heap.push (seqObj "list" vs.toArray 0)) q := fun q mq => (R.tups q mq).kept fun b u e => Heap.get?_push_of_some _ (k1 b u e)
  have all : ∀ v ∈ vs, Srt.IsPair (s1.heap.push (seqObj "list" vs.toArray 0)) v (prI (keyAt P w (s1.heap.push (seqObj "list" vs.toArray 0)) v)).1 (prI (keyAt P w (s1.heap.push (seqObj "list" vs.toArray 0)) v)).2 := fun v m => by
    obtain ⟨q, mq, e⟩ := List.mem_map.mp (pm.mem_iff.mp m)
    obtain ⟨x, y, exy⟩ := two q mq
    rw [← e, keyAt_eq (tup q mq), exy]
    exact pair_of (tup q mq) exy
  refine wpAny_bind (wpAny_holding (wpAny_call_entry slot_list_sort ⟨_, atL, rfl⟩ entry_list_sort (SrtO.list_sort_ord (s := { s1 with heap := s1.heap.push (seqObj "list" vs.toArray 0) }) (ltv := fun v u => SrtO.lexB (prI (keyAt P w (s1.heap.push (seqObj "list" vs.toArray 0)) v)) (prI (keyAt P w (s1.heap.push (seqObj "list" vs.toArray 0)) u)))
    (SrtO.swo_lex _) atL l80 (fun h2 => SrtO.pairs_sortableO (s := { s1 with heap := s1.heap.push (seqObj "list" vs.toArray 0) }) (by omega) all fun o e => ?_) fun out hs hb => ⟨_, rfl, ?_⟩) (args_list_sort _)))
  · have e' : some o = some (seqObj "list" vs.toArray 0) := e.symm.trans atL
    cases e'
    intro c
    exact absurd (Value.type.inj c) (by decide)
  obtain ⟨c, hc⟩ := sortedHeap_at (vs := vs) (out := out.toArray) atL
  have po : out.Perm vs := hb.perm
  obtain ⟨L', pL, eL⟩ := perm_back (fun q : Addr × List Int => Value.ref q.1) (po.trans pm) L rfl
  refine wpAny_pure ⟨_, rfl, h _ s1.heap.objs.size out.toArray c L' (fun b u e => ?_) g1 os1 hz hc (by simpa using eL) pL ?_⟩
  · have q := k1 b u e
    have lt := Heap.lt_size q
    show (sortedHeap (s1.heap.push (seqObj "list" vs.toArray 0)) s1.heap.objs.size vs out.toArray).get? b = some u
    rw [sortedHeap_old (Nat.ne_of_lt lt) (by rw [size_push']; exact Nat.lt_succ_of_lt lt)]
    exact Heap.get?_push_of_some _ q
  · rw [eL] at hs
    refine List.Pairwise.imp_of_mem (fun {q r} mq mr z => ?_) (List.pairwise_map.mp hs)
    have e1 := keyAt_eq (tup q (pL.mem_iff.mp mq))
    have e2 := keyAt_eq (tup r (pL.mem_iff.mp mr))
    dsimp only at z
    rw [e1, e2] at z
    exact z
end
end IT

set_option Elab.async false
set_option linter.all false
set_option maxRecDepth 100000
set_option maxHeartbeats 3200000
/-! rules: set(xs) and sorted of it -/
noncomputable section
namespace IT
open PySem PySem.Spec PyProof.Rows L2
def SetI (P : Program) (w : World) (a : Addr) (L : List (Addr × List Int)) : HO := .ext fun h => ∃ (es : Array (Int × Value)) (ep : Nat) (t : SetTable), (∃ ob, h.get? a = some ob ∧ ob.ExactSet ∧ ob.data = .set es ep t) ∧ es.toList = L.map (ent P w) ∧ Tab t (L.map fun q => hsh P w q.2) ∧
  (L.map Prod.snd).Nodup ∧ (w.params.followText "set-order" = true ∨ t.led = true) ∧ L.length * 5 < t.mask * 3 ∧ L.length ≤ 80
theorem setI_new {P : Program} {w : World} {H : Hp} {h : Heap} {a : Addr} {L : List (Addr × List Int)} {es : Array (Int × Value)} {ep : Nat} {t : SetTable} (R : Here P w h a L es ep t) : ObjOk P w H h a (SetI P w a L) := by
  obtain ⟨ob, o1, o2⟩ := R.lies
  refine ⟨⟨es, ep, t, ⟨ob, o1, o2⟩, R.rows, R.tabs, R.once, R.leds, R.room, R.most⟩, ⟨ob, o1⟩, fun h1 h2 p k => ?_⟩
  obtain ⟨es', ep', t', ⟨ob', p1, p2⟩, r⟩ := p
  exact ⟨es', ep', t', ⟨ob', k _ p1, p2⟩, r⟩
section
variable {X : Cx}
theorem has_of {pins : List (Addr × Obj)} {σ : L2.St} {H : Hp} {s : Shared} {q : Addr × List Int} (I : Inv X pins σ H s) (h : SqT X.K H q.1 (q.2.map V.int)) : Has X.prog X.w s.heap q := by
  obtain ⟨its, r, ⟨ob, o1, o2, n, o3⟩, _⟩ := I.tuple h
  exact ⟨ob, its.toArray, n, o1, o2, o3, by simpa using items_of_vals r⟩
theorem refs_vals : ∀ {ks : List (Addr × List Int)} {us : List Value}, Vals (ks.map fun q => V.ref q.1) us → us = ks.map fun q => Value.ref q.1
  | [], _, .nil => rfl
  | q :: ks, _, .cons r t => by
    cases r
    rw [refs_vals t, List.map_cons]
theorem vals_refs : ∀ ks : List (Addr × List Int), Vals (ks.map fun q => V.ref q.1) (ks.map fun q => Value.ref q.1)
  | [] => .nil
  | q :: ks => .cons rfl (vals_refs ks)
/-- set(xs) -/
def rSetI (K : PySem.W.Frag) (P : Program) (w : World) : List V → Hp → VK → Prop := fun xs H Q => ∃ (l : Addr) (ks : List (Addr × List Int)), xs = [V.ref l] ∧ SqL K H l (ks.map fun q => V.ref q.1) ∧ (∀ q ∈ ks, SqT K H q.1 (q.2.map V.int)) ∧ ks.length ≤ 80 ∧
  ∀ a L, H a = none → (∀ q ∈ L, q ∈ ks) → (∀ q ∈ ks, q.2 ∈ L.map Prod.snd) → Q (.ref a) (upd H a (SetI P w a L))
theorem cr_setI (hc : X.calm = true) (hu : X.A.units + 3 < cLine) : CallR X (.type "set") (rSetI X.K X.prog X.w) := by
  intro pins s σ H xs us Q I r h
  obtain ⟨l, ks, rfl, hl, hk, l80, q⟩ := h
  rw [Vals.ref1 r]
  obtain ⟨its, rv, pl, hz⟩ := I.list hl
  refine call_setP (P := X.prog) (w := X.w) (ks := ks) (I.ok.hd hc) pl.isList (by simpa using refs_vals rv) (fun p m => has_of I (hk p m)) l80 hu fun h' tk L es ep t R sn k => ?_
  refine ⟨.ref s.heap.objs.size, upd H s.heap.objs.size (SetI X.prog X.w s.heap.objs.size L), I.laid (t' := tk) k (Nat.le_refl _) (setI_new R), rfl, q _ L (I.hok.fresh (Nat.le_refl _)) sn.1 fun p m => sn.2.1 p ?_⟩
  rw [List.take_length]
  exact m
/-- sorted(x) -/
def rSortI (K : PySem.W.Frag) (P : Program) (w : World) : List V → Hp → VK → Prop := fun vs H Q => ∃ (a : Addr) (L : List (Addr × List Int)), vs = [V.ref a] ∧ H a = some (SetI P w a L) ∧ (∀ q ∈ L, SqT K H q.1 (q.2.map V.int)) ∧ (∀ q ∈ L, ∃ x y, q.2 = [x, y]) ∧
  ∀ (L' : List (Addr × List Int)) (p : Addr), L'.Perm L → (L.map Prod.snd).Nodup → L'.Pairwise (fun q r => SrtO.lexB (prI r.2) (prI q.2) = false) → H p = none → Q (.ref p) (upd H p (.lst (L'.map fun q => V.ref q.1)))
theorem cr_sortI (hc : X.calm = true) : CallR X (.builtin "sorted") (rSortI X.K X.prog X.w) := by
  intro pins s σ H vs us Q I r h
  obtain ⟨a, L, rfl, ha, hk, kU, q⟩ := h
  obtain ⟨es, ep, t, r1, r2, r3, r4, r5, r6, r7⟩ := (I.hok a _ ha).1
  have R : Here X.prog X.w s.heap a L es ep t := ⟨r1, r2, r3, r4, fun p m => has_of I (hk p m), r5, r6, r7⟩
  rw [Vals.ref1 r]
  refine sortedI R (I.ok.hd hc) kU fun s' p out c L' k g o hp hg ho pm pw => ?_
  have len : (L'.map fun q => V.ref q.1).length ≤ sizeLine := by rw [List.length_map, pm.length_eq, sizeLine_eq]; omega
  have hn : H p = none := I.hok.fresh hp
  have hv : Vals (L'.map fun q => V.ref q.1) out.toList := by rw [ho]; exact vals_refs L'
  have J : Inv X pins σ (upd H p (.lst (L'.map fun q => V.ref q.1))) { s with heap := s'.heap, gens := s'.gens, drawn := s'.drawn, toks := s'.toks } :=
    I.call (ch := []) (Un.laid k hp hn) (I.hok.laid k hp ⟨len, out.toList, c, hv, hg⟩) (by rw [g]; exact I.bare) (fun _ z => nomatch z)
  have e : s' = { s with heap := s'.heap, gens := s'.gens, drawn := s'.drawn, toks := s'.toks } := by
    cases s'
    cases s
    cases o
    rfl
  rw [e]
  exact ⟨.ref p, _, J, rfl, q L' p pm r4 pw hn⟩
end
end IT

set_option Elab.async false
set_option maxRecDepth 100000
set_option maxHeartbeats 4000000
namespace G37
open PySem L2
def top (i : Nat) : Stmt := PySem.Challenge.pw_granary_k37_an_index_alone.main.body.getD i (.Pass ⟨0, 0, 0, 0⟩)
abbrev sPlace : Stmt := top 1
abbrev sInit : Stmt := inClass (top 3) 0
abbrev sAdd : Stmt := inClass (top 3) 1
abbrev sLose : Stmt := inClass (top 3) 2
abbrev sBetween : Stmt := inClass (top 3) 3
abbrev sBegun : Stmt := top 5
abbrev sTake : Stmt := top 6
abbrev sAlike : Stmt := top 7
abbrev sLaw : Stmt := top 8

/-- the box: its cells (a list of ints) and a number -/
def BoxAt (H : Hp) (a b : Addr) : Prop := ∃ (z : Int) (cs : List Int), H a = some (.lst [.ref b, .int z]) ∧ H b = some (.lst (cs.map V.int)) ∧ cs.length ≤ 63
/-- all but the box stays -/
def Keep (a b : Addr) (H H' : Hp) : Prop := ∀ x o, x ≠ a → x ≠ b → H x = some o → H' x = some o

structure Txt (mg : Str → Option Value) : Prop where
  len : mg "len" = none
  range : mg "range" = none
  list : mg "list" = none
  tuple : mg "tuple" = none
  int : mg "int" = none
  isi : mg "isinstance" = none

def spBegun (K : PySem.W.Frag) : Sp := fun vs H Q _ => ∃ (l : Addr) (ns : List Int), vs = [.ref l] ∧ SqL K H l (ns.map V.int) ∧ ns.length ≤ 63 ∧
  ∀ (a b : Addr) (H' : Hp), H a = none → H b = none → BoxAt H' a b → Same H H' → Q (.ref a) H'
section
variable {P : Program} {w : World} {K : PySem.W.Frag} {mg : Str → Option Value} {base : Heap}
theorem getI {ns : List Int} {i : Nat} {y : V} (h : (ns.map V.int)[i]? = some y) : ∃ z, ns[i]? = some z ∧ y = V.int z := by
  rw [List.getElem?_map] at h
  cases e : ns[i]? with
  | none => rw [e] at h; cases h
  | some u => rw [e] at h; exact ⟨u, rfl, (Option.some.inj h).symm⟩
theorem scBegun : FnScope ["_law_script", "_law_stirred", "_law_cell"] ["_law_script"] (defScope sBegun) := ⟨rfl, rfl, rfl, by decide +kernel, rfl, by decide +kernel, by decide +kernel⟩
theorem ok_begun {f : Addr} {fd : FuncData} (F : Fun K "_law_begun" "_law_begun" sBegun f fd) (T : Txt mg) : FnOk P w K mg base CX0 1 f fd ["_law_script"] (spBegun K) := by
  refine F.ok scBegun (fun vs H Q E h => ?_) (fun cdv A outer s H vs Q E hr h => ?_)
  · obtain ⟨l, ns, rfl, _⟩ := h
    rfl
  · obtain ⟨l, ns, rfl, hS, hl, k⟩ := h
    refine ⟨_, pss_cons (ps_set (i := 1) scBegun.nd rfl (Or.inl rfl) pe_int)
      (pss_cons (ps_for PassesOwn.never rfl (pi_list (pv 0)) (pg_name (i := 2) scBegun.nd rfl (Or.inl rfl))
        (pss_one (ps_set (i := 1) scBegun.nd rfl (Or.inl rfl) (pe_op op_mod (pe_op op_add (pe_op op_add (pe_op op_mul (pv 1) pe_int) (pe_op op_mul (pv 2) pe_int)) pe_int) pe_int))))
      (pss_one (ps_ret (pe_lst (pa_cons (pe_callTy call_list_of (by rfl) T.list (by decide +kernel) (pa_cons (pv 0) pa_nil))
        (pa_cons (pe_op op_mul (pv 1) (pe_callTy call_int1 (by rfl) T.int (by decide +kernel) (pa_cons (pe_cmpR op_gt (pe_callB call_len_seq (by rfl) T.len PySem.boot_len (pa_cons (pv 0) pa_nil)) pe_int (nomark _)) pa_nil))) pa_nil)))))), ?_⟩
    refine ⟨_, rfl, l, rfl, ⟨_, hS⟩, for_list (K := K) (a := l) (xs := ns.map V.int) (fun i σ H' => ∃ (z : Int) (v : Option V), σ = [some (.ref l), some (.int z), v] ∧ H' = H) ⟨0, none, rfl, rfl⟩ (fun i σ H' _ ⟨_, _, _, e⟩ => by rw [e]; exact hS) ?_ ?_⟩
    · rintro i y σ H' hi ⟨z, v, rfl, rfl⟩
      obtain ⟨u, _, rfl⟩ := getI hi
      refine ⟨_, rfl, _, _, rfl, rfl, .inr ⟨by decide, by decide⟩, _, rfl, _, _, rfl, rfl, .inr ⟨by decide, by decide⟩, _, _, rfl, rfl, _, _, rfl, rfl, _, _, rfl, rfl, (by show (0 : Int) < 2147483647; decide), _, _, rfl, rfl⟩
    · rintro σ H' ⟨z, v, rfl, rfl⟩
      have hp1 : ∀ p, H' p = none → SqL K (upd H' p (.lst (ns.map V.int))) l (ns.map V.int) := fun p hp => (show Same H' (upd H' p (.lst (ns.map V.int))) from fun c o e => by rw [upd_ne (ne_of_none e hp)]; exact e).seq hS
      refine ⟨_, rfl, l, _, rfl, .inl hS, fun p hp => ⟨_, rfl, _, rfl, l, _, rfl, .inl (hp1 p hp), _, _, rfl, rfl, .inr ⟨_, rfl, ?_⟩⟩⟩
      have hb : ∀ c : Bool, (-(2 ^ 64) < (if c = true then (1 : Int) else 0)) ∧ ((if c = true then (1 : Int) else 0) < 2 ^ 64) := fun c => by cases c <;> decide
      refine ⟨_, _, rfl, rfl, .inr (hb _), (by show 2 ≤ sizeLine; decide), fun q hq => ?_⟩
      have npq : p ≠ q := fun e => by rw [← e, upd_same] at hq; cases hq
      have hq0 : H' q = none := by rw [upd_ne npq.symm] at hq; exact hq
      refine k q p _ hq0 hp ⟨_, ns, upd_same, (by rw [upd_ne npq, upd_same]), hl⟩ (fun c o e => ?_)
      rw [upd_ne (ne_of_none e hq0), upd_ne (ne_of_none e hp)]
      exact e
end
/-- ints as data -/
theorem dpInts (K : PySem.W.Frag) (H : Hp) : ∀ ns : List Int, DpAll K H (ns.map V.int) (ns.map PyData.int)
  | [] => .nil
  | n :: r => .cons (.int n) (dpInts K H r)
theorem eqv_nil (ds : List PyData) : PyData.eqv (.list ds) (.list []) = ds.isEmpty := by
  cases ds <;> simp [PyData.eqv, PyData.eqvAll]
theorem Keep.refl (a b : Addr) (H : Hp) : Keep a b H H := fun _ _ _ _ h => h
theorem Keep.trans {a b : Addr} {H H1 H2 : Hp} (p : Keep a b H H1) (q : Keep a b H1 H2) : Keep a b H H2 := fun x o h1 h2 h => q x o h1 h2 (p x o h1 h2 h)
theorem Keep.at1 {a b : Addr} {H : Hp} {o : HO} : Keep a b H (upd H a o) := fun x u h1 _ h => by rw [upd_ne h1]; exact h
theorem Keep.at2 {a b : Addr} {H : Hp} {o : HO} : Keep a b H (upd H b o) := fun x u _ h2 h => by rw [upd_ne h2]; exact h
theorem Keep.new {a b p : Addr} {H : Hp} {o : HO} (hp : H p = none) : Keep a b H (upd H p o) := fun x u _ _ h => by rw [upd_ne (ne_of_none h hp)]; exact h
theorem fmod_lt {x n : Int} (h : 0 < n) : 0 ≤ x.fmod n ∧ x.fmod n < n := ⟨Int.fmod_nonneg_of_pos x h, Int.fmod_lt_of_pos x h⟩
theorem at0 {x : V} {xs : List V} : atI (x :: xs) 0 = some x := atI_nat (j := 0) rfl
theorem ix0 {n : Nat} : ixN (n + 1) 0 = some 0 := by
  unfold ixN
  rw [if_pos (by decide), if_pos (by omega)]
  rfl
def spTake (_K : PySem.W.Frag) : Sp := fun vs H Q _ => ∃ (a b : Addr) (n : Int), vs = [.ref a, .int n] ∧ 0 < n ∧ n < 1000000 ∧ BoxAt H a b ∧
  ∀ (r : Int) (H' : Hp), 0 ≤ r → r < n → BoxAt H' a b → Keep a b H H' → Q (.int r) H'
section
variable {P : Program} {w : World} {K : PySem.W.Frag} {mg : Str → Option Value} {base : Heap}
theorem scTake : FnScope ["_law_box", "_law_many", "_law_drawn"] ["_law_box", "_law_many"] (defScope sTake) := ⟨rfl, rfl, rfl, by decide +kernel, rfl, by decide +kernel, by decide +kernel⟩
theorem ok_take {f : Addr} {fd : FuncData} (F : Fun K "_law_take" "_law_take" sTake f fd) (T : Txt mg) : FnOk P w K mg base CX0 1 f fd ["_law_box", "_law_many"] (spTake K) := by
  refine F.ok scTake (fun vs H Q E h => ?_) (fun cdv A outer s H vs Q E hr h => ?_)
  · obtain ⟨a, b, n, rfl, _⟩ := h
    rfl
  · obtain ⟨a, b, n, rfl, n0, n1, ⟨z, cs, ha, hb, hc⟩, k⟩ := h
    refine ⟨_, pss_cons (ps_if (pt_cmpR (op_eqD hr.units) (pe_ix ix_list (pv 0) pe_int (fun _ _ => rfl)) (pe_lst pa_nil) (nomark _))
        (pss_cons (ps_asg (pe_op op_mod (pe_op op_mul (pe_ix ix_list (pv 0) pe_int (fun _ _ => rfl)) pe_int) pe_int) (pg_sub (pv 0) pe_int set_list))
          (pss_one (ps_ret (pe_op op_modN (pe_op op_fdiv (pe_ix ix_list (pv 0) pe_int (fun _ _ => rfl)) pe_int) (pv 1))))) pss_nil)
      (pss_cons (ps_set (i := 2) scTake.nd rfl (Or.inl rfl) (pe_ix ix_list (pe_ix ix_list (pv 0) pe_int (fun _ _ => rfl)) pe_int (fun _ _ => rfl)))
      (pss_cons (ps_asg (pe_op op_fdivN (pv 2) (pv 1)) (pg_sub (pe_ix ix_list (pv 0) pe_int (fun _ _ => rfl)) pe_int set_list))
      (pss_cons (ps_if (PW.pt (pw_or (pt_cmpR op_eq (pe_ix ix_list (pe_ix ix_list (pv 0) pe_int (fun _ _ => rfl)) pe_int (fun _ _ => rfl)) pe_int (nomark _))
            (pw_or1 (pt_cmpR op_eq (pe_ix ix_list (pe_ix ix_list (pv 0) pe_int (fun _ _ => rfl)) pe_int (fun _ _ => rfl)) (pe_un un_neg pe_int) (nomark _)))))
          (pss_one (ps_expr (pe_bm PySem.F.plainAttrs_list PySem.F.slot_list_pop PySem.F.type_list_pop mt_popAt (pe_ix ix_list (pv 0) pe_int (fun _ _ => rfl)) (pa_cons pe_int pa_nil)))) pss_nil)
      (pss_one (ps_ret (pe_op op_modN (pv 2) (pv 1))))))), ?_⟩
    have nab : a ≠ b := ne_of ha hb (by
      intro e
      injection e with e
      cases cs with
      | nil => cases e
      | cons c r => rw [List.map_cons] at e; injection e with e1 _; cases e1)
    refine ⟨_, rfl, a, _, _, _, rfl, rfl, SqL.of ha, rfl, (by show 0 ≤ sizeLine; decide), fun e he => ?_⟩
    have nae : a ≠ e := ne_of_none ha he
    have nbe : b ≠ e := ne_of_none hb he
    have ha1 : upd H e (.lst []) a = some (.lst [.ref b, .int z]) := by rw [upd_ne nae]; exact ha
    have hb1 : upd H e (.lst []) b = some (.lst (cs.map V.int)) := by rw [upd_ne nbe]; exact hb
    refine ⟨_, _, .lst (SqL.of hb1) (dpInts K _ cs), .lst (SqL.of upd_same) .nil, PySem.W.shaped_ints cs, rfl, _, rfl, ?_⟩
    rw [eqv_nil]
    cases cs with
    | nil =>
      refine iteT ?_
      refine ⟨_, rfl, a, _, _, _, rfl, rfl, SqL.of ha1, rfl, _, _, rfl, rfl, .inr ⟨by decide, by decide⟩, _, _, rfl, rfl, (by show (0 : Int) < 2147483647; decide), ?_⟩
      refine ⟨_, rfl, a, _, _, 1, rfl, rfl, ha1, rfl, ?_⟩
      refine ⟨_, rfl, a, _, _, _, rfl, rfl, SqL.of upd_same, rfl, _, _, rfl, rfl, ⟨by decide, by decide⟩, _, rfl, _, _, rfl, rfl, (by show n ≠ 0; omega), ?_⟩
      refine k _ _ (fmod_lt n0).1 (fmod_lt n0).2 ⟨_, [], upd_same, (by rw [upd_ne nab.symm]; exact hb1), hc⟩ ((Keep.new he).trans Keep.at1)
    | cons c r =>
      refine iteF ?_
      have b0 : upd H e (.lst []) b = some (.lst (V.int c :: r.map V.int)) := hb1
      refine ⟨_, rfl, a, _, _, _, rfl, rfl, SqL.of ha1, rfl, b, _, _, _, rfl, rfl, SqL.of b0, at0, ?_⟩
      -- box[0][0] = drawn // many
      refine ⟨_, rfl, _, rfl, _, _, rfl, rfl, ⟨by omega, by omega⟩, _, rfl, a, _, _, _, rfl, rfl, SqL.of ha1, rfl, b, _, _, 0, rfl, rfl, b0, ix0, ?_⟩
      have nba := nab.symm
      let q := c.fdiv n
      have ha2 : upd (upd H e (.lst [])) b (.lst (V.int q :: r.map V.int)) a = some (.lst [.ref b, .int z]) := by rw [upd_ne nab]; exact ha1
      have hb2 : upd (upd H e (.lst [])) b (.lst (V.int q :: r.map V.int)) b = some (.lst (V.int q :: r.map V.int)) := upd_same
      have kp : Keep a b H (upd (upd H e (.lst [])) b (.lst (V.int q :: r.map V.int))) := (Keep.new he).trans Keep.at2
      have lr : r.length ≤ 62 := by rw [List.length_cons] at hc; omega
      have fin : ∀ H', BoxAt H' a b → Keep a b H H' → tRet (tOp (rI (fun x j => j ≠ 0) fun i j => V.int (i.fmod j)) (tVar 2) (tVar 1)) { nx := fun _ H' => Q .non H', rt := Q } [some (.ref a), some (.int n), some (.int c)] H' := fun H' B K' =>
        ⟨_, rfl, _, rfl, _, _, rfl, rfl, (by show n ≠ 0; omega), k _ _ (fmod_lt n0).1 (fmod_lt n0).2 B K'⟩
      have popped : tDrop (tBM K "list" rPopAt (tOp (rIxL K) (tVar 0) (tC (V.int 0))) (tCons (tC (.int 0)) tNil)) { nx := fun σ H' => tRet (tOp (rI (fun x j => j ≠ 0) fun i j => V.int (i.fmod j)) (tVar 2) (tVar 1)) { nx := fun _ H' => Q .non H', rt := Q } σ H', rt := Q } [some (.ref a), some (.int n), some (.int c)] (upd (upd H e (.lst [])) b (.lst (V.int q :: r.map V.int))) :=
        ⟨_, rfl, a, _, _, _, rfl, rfl, SqL.of ha2, rfl, .inl ⟨rfl, _, SqL.of hb2⟩, b, _, _, 0, _, rfl, rfl, hb2, by decide, by decide, (ixN_seq ix0).1, rfl, by
          refine fin _ ⟨z, r, (by rw [upd_ne nab]; exact ha2), upd_same, by omega⟩ (kp.trans Keep.at2)⟩
      refine ⟨_, rfl, a, _, _, _, rfl, rfl, SqL.of ha2, rfl, b, _, _, _, rfl, rfl, SqL.of hb2, at0, rfl, _, rfl, ?_⟩
      refine ite2 (fun _ => iteT popped) (fun _ => ?_)
      refine ⟨_, rfl, a, _, _, _, rfl, rfl, SqL.of ha2, rfl, b, _, _, _, rfl, rfl, SqL.of hb2, at0, _, rfl, rfl, _, rfl, ?_⟩
      refine ite2 (fun _ => popped) (fun _ => ?_)
      exact fin _ ⟨z, q :: r, ha2, hb2, by rw [List.length_cons]; omega⟩ kp
end
end G37

set_option linter.all false
set_option maxHeartbeats 1000000
namespace G37
open PySem L2
theorem Same.new {H : Hp} {p : Addr} {o : HO} (hp : H p = none) : Same H (upd H p o) := fun b u e => by rw [upd_ne (ne_of_none e hp)]; exact e
theorem Keep.same {a b : Addr} {H H' : Hp} (s : Same H H') : Keep a b H H' := fun x o _ _ h => s x o h
theorem gn {i : Nat} {x : V} {σ : L2.St} {H : Hp} {Q : L2.St → Hp → Prop} (h : Q (σ.set i (some x)) H) : gName i x σ H Q := h
theorem sa1 {te : TE} {g : TG} {u : TS} {D : Ends} {σ : L2.St} {H : Hp} (h : te σ H fun x H1 => g x σ H1 (u D)) : tSeq (tAsg te g) u D σ H := h
structure Cal (P : Program) (w : World) (K : PySem.W.Frag) (mg : Str → Option Value) (base : Heap) (k : Nat) (x : Str) (ps : List Str) (sp : Sp) (f : Addr) (fd : FuncData) : Prop where
  g : mg x = some (.ref f)
  kp : PySem.W.keepIn K (.ref f) = true
  b : Binds K fd ps []
  G : FnOk P w K mg base CX0 k f fd ps sp
/-! ### del d[k], k a tuple -/
def tDDelT (td ty : TE) : TS := fun D σ H => td σ H fun x H1 => ty σ H1 fun y H2 => ∃ (a b : Addr) (kvs : List (List L2.Key × V)) (k : List L2.Key), x = .ref a ∧ y = .ref b ∧ H2 a = some (.dT kvs) ∧ H2 b = some (.tup (k.map kV)) ∧ (valV kvs k).isSome = true ∧ D.nx σ (upd H2 a (.dT (dropK kvs k)))
section
variable {X : Cx} {o i : Expr} {pos tpos : Pos} {td ty : TE}
theorem ps_ddelT (hu : X.A.units + 1 < cLine) (ho : PE X o td) (hi : PE X i ty) : PS X (.Delete [.Subscript o i tpos] pos) (tDDelT td ty) := by
  refine ⟨fun pins s σ H D I h => ?_⟩
  refine wpAny_Delete (wpAny_deleteEach_cons (wpAny_delete_Subscript (thn (ho.run pins s σ H _ I h) fun u s1 ⟨x, H1, I1, rx, q1⟩ => thn (hi.run pins s1 σ H1 _ I1 q1) fun iv s2 ⟨y, H2, I2, ry, a, b, kvs, k, ex, ey, ea, eb, l, q2⟩ => ?_)))
  subst ex ey
  obtain rfl : u = Value.ref a := rx
  obtain rfl : iv = Value.ref b := ry
  obtain ⟨z, hd, xs, rel, dd⟩ := dt_of I2.hok ea
  have hz : xs.length ≤ sizeLine := by rw [← Paired.length rel]; exact z
  obtain ⟨p, hp⟩ : ∃ p, atKey xs k = some p := by
    have r := rel.val k
    cases e : atKey xs k with
    | some p => exact ⟨p, rfl⟩
    | none =>
      rw [e] at r
      cases ev : valV kvs k with
      | none => rw [ev] at l; cases l
      | some v => rw [ev] at r; exact (show False from r).elim
  refine PySem.wpAny_delItem_heap (knd := tupleKind (mixKind X.prog X.w)) (tupleKind_room_in1 hu) (key_of I2.hok eb) hd dd hp (fun h' dd' hs => ?_) hz
  obtain ⟨ob, es, ep, hq, h2, h3, h4, _, h5⟩ := dd'
  have I3 : Inv X pins σ (upd H2 a (.dT (dropK kvs k))) { s2 with heap := h', toks := s2.toks + (tupleKind (mixKind X.prog X.w)).draws k } :=
    d_write I2 (by rw [ea]; exact True.intro) hs ⟨ob, hq⟩ ⟨Nat.le_trans (dropK_le kvs k) z, hd, _, (L2.DX.KT_drop k rel).keeps (fun c ys ec => (by rw [upd_ne (ne_of ec ea (fun z => nomatch z))]; exact ec)), ob, es, ep, hq, h2, h3, h4, h5⟩
  exact wpAny_deleteEach_nil ⟨σ, _, I3, q2⟩
end
/-! ### place_in -/
abbrev Ref (q : Addr × List Int) : V := V.ref q.1
/-- where ns would stand among the items -/
structure Spot (ns : List Int) (bs : List (Addr × List Int)) (k : Nat) : Prop where
  le : k ≤ bs.length
  below : ∀ i q, i < k → bs[i]? = some q → HT.lexLt q.2 ns = true
  above : ∀ i q, k ≤ i → bs[i]? = some q → HT.lexLt q.2 ns = false
/-- the items rise, as ns sees them -/
def Rise (ns : List Int) (bs : List (Addr × List Int)) : Prop := ∀ (i j : Nat) (p q : Addr × List Int), i < j → bs[i]? = some p → bs[j]? = some q → HT.lexLt q.2 ns = true → HT.lexLt p.2 ns = true
def spPlace (K : PySem.W.Frag) : Sp := fun vs H Q _ => ∃ (r b : Addr) (bs : List (Addr × List Int)) (ns : List Int), vs = [.ref r, .ref b] ∧ SqL K H r (bs.map Ref) ∧ (∀ q ∈ bs, SqT K H q.1 (q.2.map V.int)) ∧ SqT K H b (ns.map V.int) ∧ bs.length ≤ 1000 ∧ Rise ns bs ∧
  ∀ k : Nat, Spot ns bs k → Q (.int k) H
section
variable {P : Program} {w : World} {K : PySem.W.Frag} {mg : Str → Option Value} {base : Heap}
theorem scPl : FnScope ["items", "item", "low", "high", "middle"] ["items", "item"] (defScope sPlace) := ⟨rfl, rfl, rfl, by decide +kernel, rfl, by decide +kernel, by decide +kernel⟩
theorem ok_place {f : Addr} {fd : FuncData} (F : Fun K "place_in" "place_in" sPlace f fd) (T : Txt mg) : FnOk P w K mg base CX0 1 f fd ["items", "item"] (spPlace K) := by
  refine F.ok scPl (fun vs H Q E h => ?_) (fun cdv A outer s H vs Q E hr h => ?_)
  · obtain ⟨r, b, bs, ns, rfl, _⟩ := h
    rfl
  · obtain ⟨r, b, bs, ns, rfl, hr', ht, hb, few, rise, k⟩ := h
    have hu0 := Nat.lt_of_le_of_lt (Nat.le_add_right _ 1) (hu_of hr)
    refine ⟨_, (pss_cons (ps_set (i := 2) scPl.nd rfl (Or.inl rfl) pe_int)
      (pss_cons (ps_set (i := 3) scPl.nd rfl (Or.inl rfl) (pe_callB (RK.lenQ (K := K)) (by rfl) T.len PySem.boot_len (pa_cons (pv 0) pa_nil)))
      (pss_cons (ps_while PassesOwn.never (pt_cmpR op_lt (pv 2) (pv 3) (nomark _))
        (pss_cons (ps_set (i := 4) scPl.nd rfl (Or.inl rfl) (pe_op op_fdiv (pe_op op_add (pv 2) (pv 3)) pe_int))
        (pss_one (ps_if (pt_cmpR (op_ltT hu0) (pe_ix (RK.ixL (K := K)) (pv 0) (pv 4) (fun _ _ => rfl)) (pv 1) (nomark _)) (pss_one (ps_set (i := 2) scPl.nd rfl (Or.inl rfl) (pe_op op_add (pv 4) pe_int))) (pss_one (ps_set (i := 3) scPl.nd rfl (Or.inl rfl) (pv 4)))))))
      (pss_one (ps_ret (pv 2)))))), ?_⟩
    refine ⟨_, rfl, r, bs.map Ref, rfl, .inl hr', ?_⟩
    rw [List.length_map]
    refine while_by (fun σ H' => H' = H ∧ ∃ (lo hi : Nat) (v4 : Option V), σ = [some (.ref r), some (.ref b), some (.int lo), some (.int hi), v4] ∧ lo ≤ hi ∧ hi ≤ bs.length ∧ (∀ i q, i < lo → bs[i]? = some q → HT.lexLt q.2 ns = true) ∧ ∀ i q, hi ≤ i → bs[i]? = some q → HT.lexLt q.2 ns = false)
      (fun σ H' => match σ with | [_, _, some (.int lo), some (.int hi), _] => (hi - lo).toNat | _ => 0)
      ⟨rfl, 0, bs.length, none, rfl, Nat.zero_le _, Nat.le_refl _, fun i q l => absurd l (Nat.not_lt_zero _), fun i q l e => ?_⟩ ?_ (fun σ H Q Q' m h => ?_)
    · rw [List.getElem?_eq_none l] at e
      cases e
    · rintro σ H' ⟨rfl, lo, hi, v4, rfl, l1, l2, low, high⟩
      refine ⟨_, rfl, _, rfl, _, _, rfl, rfl, _, rfl, ?_⟩
      dsimp only
      by_cases c : (lo : Int) < hi
      · rw [decide_eq_true c, if_pos rfl]
        obtain ⟨m, em, m1, m2⟩ : ∃ m : Nat, ((lo : Int) + hi) / 2 = m ∧ lo ≤ m ∧ m < hi := ⟨(lo + hi) / 2, by omega, by omega, by omega⟩
        have lm : m < bs.length := by omega
        have at_ : (bs.map Ref)[m]? = some (Ref bs[m]) := by rw [List.getElem?_map, List.getElem?_eq_getElem lm]; rfl
        have here : bs[m]? = some bs[m] := List.getElem?_eq_getElem lm
        refine sa1 ?_
        refine ⟨_, rfl, _, rfl, _, _, rfl, rfl, _, _, rfl, rfl, ⟨by decide, by decide⟩, ?_⟩
        dsimp only
        rw [em]
        refine gn ?_
        refine ⟨_, rfl, _, rfl, r, _, m, Ref bs[m], rfl, rfl, hr', atI_nat at_, _, rfl, bs[m].1, b, bs[m].2, ns, rfl, rfl, ht _ (List.getElem_mem lm), hb, _, rfl, ?_⟩
        cases e : HT.lexLt bs[m].2 ns with
        | true =>
          refine iteT ?_
          refine ⟨_, rfl, _, _, rfl, rfl, gn ⟨⟨rfl, m + 1, hi, _, rfl, by omega, l2, fun i q li eq => ?_, high⟩, ?_⟩⟩
          · rcases Nat.lt_or_ge i m with z | z
            · exact rise i m q bs[m] z eq here e
            · obtain rfl : i = m := by omega
              rw [here] at eq
              rw [← Option.some.inj eq]
              exact e
          · show ((hi : Int) - ((m : Int) + 1)).toNat < ((hi : Int) - (lo : Int)).toNat
            omega
        | false =>
          refine iteF ?_
          refine ⟨_, rfl, gn ⟨⟨rfl, lo, m, _, rfl, m1, by omega, low, fun i q li eq => ?_⟩, ?_⟩⟩
          · rcases Nat.lt_or_ge m i with z | z
            · cases e2 : HT.lexLt q.2 ns with
              | false => rfl
              | true => rw [rise m i bs[m] q z here eq e2] at e; cases e
            · obtain rfl : i = m := by omega
              rw [here] at eq
              rw [← Option.some.inj eq]
              exact e
          · show ((m : Int) - (lo : Int)).toNat < ((hi : Int) - (lo : Int)).toNat
            omega
      · rw [decide_eq_false c, if_neg (by decide)]
        obtain rfl : lo = hi := by omega
        exact ⟨_, rfl, k lo ⟨l2, low, high⟩⟩
    · obtain ⟨x, e1, y, e2, i, j, e3, e4, z⟩ := h
      exact ⟨x, e1, y, e2, i, j, e3, e4, let ⟨c, e5, q⟩ := z; ⟨c, e5, m _ _ q⟩⟩
end
end G37

set_option linter.all false
set_option maxHeartbeats 1000000
namespace G37
open PySem L2
abbrev P2 := Int × Int
def li (x : P2) : List Int := [x.1, x.2]
def kk (x : P2) : List L2.Key := [Sum.inl x.1, Sum.inl x.2]
def plt (x y : P2) : Prop := x.1 < y.1 ∨ (x.1 = y.1 ∧ x.2 < y.2)
theorem kk_inj {x y : P2} (h : kk x = kk y) : x = y := by
  injection h with h1 h2
  injection h2 with h2 _
  injection h1 with h1
  injection h2 with h2
  exact Prod.ext h1 h2
theorem li_inj {x y : P2} (h : li x = li y) : x = y := by
  injection h with h1 h2
  injection h2 with h2 _
  exact Prod.ext h1 h2
theorem lt_pair (x y : P2) : HT.lexLt (li x) (li y) = true ↔ plt x y := by
  show (if x.1 = y.1 then (if x.2 = y.2 then false else decide (x.2 < y.2)) else decide (x.1 < y.1)) = true ↔ _
  unfold plt
  by_cases a : x.1 = y.1
  · rw [if_pos a]
    by_cases b : x.2 = y.2
    · rw [if_pos b]
      constructor
      · intro h; cases h
      · omega
    · rw [if_neg b, decide_eq_true_eq]
      omega
  · rw [if_neg a, decide_eq_true_eq]
    omega
theorem lt_one (x : P2) (c : Int) : HT.lexLt (li x) [c] = true ↔ x.1 < c := by
  show (if x.1 = c then false else decide (x.1 < c)) = true ↔ _
  by_cases a : x.1 = c
  · rw [if_pos a]
    constructor
    · intro h; cases h
    · omega
  · rw [if_neg a, decide_eq_true_eq]
/-! ### the object -/
theorem mr : ¬ (("many" : Str) = "rising") := by decide +kernel
def flds (d r : Addr) : List (Str × V) := putF "rising" (.ref r) (putF "many" (.ref d) [])
theorem flds_many (d r : Addr) : (flds d r).lookup ("many" : Str) = some (.ref d) := by
  unfold flds
  rw [lookup_putF, if_neg mr, lookup_putF, if_pos rfl]
theorem flds_rising (d r : Addr) : (flds d r).lookup ("rising" : Str) = some (.ref r) := by
  unfold flds
  rw [lookup_putF, if_pos rfl]
theorem flds_no (d r : Addr) {m : Str} (h1 : ¬ m = "rising") (h2 : ¬ m = "many") : (flds d r).lookup m = none := by
  unfold flds
  rw [lookup_putF, if_neg h1, lookup_putF, if_neg h2]
  all_goals rfl
abbrev tup2 (x : P2) : HO := .tup [.int x.1, .int x.2]
structure Cnt (kvs : List (List L2.Key × V)) (ps : List P2) : Prop where
  nd : (kvs.map (·.1)).Nodup
  ks : ∀ k ∈ kvs.map (·.1), ∃ x ∈ ps, k = kk x
  at_ : ∀ x, valV kvs (kk x) = if ps.count x = 0 then none else some (.int (ps.count x))
structure Rising (H : Hp) (bs : List (Addr × P2)) (ps : List P2) : Prop where
  tup : ∀ q ∈ bs, H q.1 = some (tup2 q.2)
  up : (bs.map (·.2)).Pairwise plt
  mem : ∀ x, x ∈ bs.map (·.2) ↔ x ∈ ps
/-- an Index at p, its dict at d, its list at r, with the pairs ps -/
structure IxAt (C : Addr) (H : Hp) (p d r : Addr) (ps : List P2) : Prop where
  ob : ∃ dx, H p = some (.ins C dx (flds d r))
  dc : ∃ kvs, H d = some (.dT kvs) ∧ Cnt kvs ps
  rs : ∃ bs : List (Addr × P2), H r = some (.lst (bs.map fun q => V.ref q.1)) ∧ Rising H bs ps
theorem Cnt.perm {kvs : List (List L2.Key × V)} {ps qs : List P2} (p : ps.Perm qs) (c : Cnt kvs ps) : Cnt kvs qs :=
  ⟨c.nd, fun k m => let ⟨x, mx, e⟩ := c.ks k m; ⟨x, p.mem_iff.mp mx, e⟩, fun x => by rw [← p.count_eq]; exact c.at_ x⟩
theorem IxAt.perm {C : Addr} {H : Hp} {p d r : Addr} {ps qs : List P2} (pm : ps.Perm qs) (h : IxAt C H p d r ps) : IxAt C H p d r qs := by
  obtain ⟨ob, ⟨kvs, h1, h2⟩, bs, h3, h4⟩ := h
  exact ⟨ob, ⟨kvs, h1, h2.perm pm⟩, bs, h3, h4.tup, h4.up, fun x => (h4.mem x).trans pm.mem_iff⟩
/-- all but the index stays -/
def KIx (d r : Addr) (H H' : Hp) : Prop := ∀ x o, x ≠ d → x ≠ r → H x = some o → H' x = some o
theorem IxAt.same {C : Addr} {H H' : Hp} {p d r : Addr} {ps : List P2} (s : Same H H') (h : IxAt C H p d r ps) : IxAt C H' p d r ps := by
  obtain ⟨⟨dx, ob⟩, ⟨kvs, h1, h2⟩, bs, h3, h4⟩ := h
  exact ⟨⟨dx, s _ _ ob⟩, ⟨kvs, s _ _ h1, h2⟩, bs, s _ _ h3, fun q m => s _ _ (h4.tup q m), h4.up, h4.mem⟩
theorem Cnt.few {kvs : List (List L2.Key × V)} {ps : List P2} (c : Cnt kvs ps) : kvs.length ≤ ps.length := by
  have key : ∀ (ks : List (List L2.Key)) (ps : List P2), ks.Nodup → (∀ k ∈ ks, ∃ x ∈ ps, k = kk x) → ks.length ≤ ps.length := by
    intro ks
    induction ks with
    | nil => intro ps _ _; exact Nat.zero_le _
    | cons k ks ih =>
      intro ps nd h
      obtain ⟨n1, n2⟩ := List.nodup_cons.mp nd
      obtain ⟨x, mx, rfl⟩ := h k List.mem_cons_self
      have z := ih (ps.erase x) n2 fun j mj => by
        obtain ⟨y, my, e⟩ := h j (List.mem_cons_of_mem _ mj)
        refine ⟨y, (List.mem_erase_of_ne fun e2 => ?_).mpr my, e⟩
        rw [e2] at e
        exact n1 (e ▸ mj)
      have pos := List.length_pos_of_mem mx
      rw [List.length_erase_of_mem mx] at z
      rw [List.length_cons]
      omega
  have z := key _ ps c.nd c.ks
  rwa [List.length_map] at z
end G37

set_option linter.all false
set_option maxHeartbeats 1000000
namespace G37
open PySem L2
/-! counts -/
theorem keys_old {κ : Type} [DecidableEq κ] {kvs : List (κ × V)} {k : κ} {v y : V} (h : valV kvs k = some y) : (putK kvs k v).map (·.1) = kvs.map (·.1) := by
  have a : (kvs.any fun kv => decide (kv.1 = k)) = true := by rw [valV_any, h]; rfl
  unfold putK
  rw [if_pos a, List.map_map]
  refine List.map_congr_left fun kv _ => ?_
  show (if kv.1 = k then (kv.1, v) else kv).1 = kv.1
  split <;> rfl
theorem valV_drop {κ : Type} [DecidableEq κ] (k j : κ) : ∀ kvs : List (κ × V), valV (dropK kvs k) j = if j = k then none else valV kvs j
  | [] => by split <;> rfl
  | p :: r => by
    have ih := valV_drop k j r
    by_cases e : p.1 = k
    · rw [dropK_pos e, ih]
      by_cases c : j = k
      · rw [if_pos c, if_pos c]
      · rw [if_neg c, if_neg c, valV_neg (fun z => c (z.symm.trans e))]
    · rw [dropK_neg e]
      by_cases c : p.1 = j
      · rw [valV_pos c, valV_pos c, if_neg (fun z => e (c.trans z))]
      · rw [valV_neg c, valV_neg c, ih]
theorem keys_drop {κ : Type} [DecidableEq κ] {k j : κ} {kvs : List (κ × V)} (h : j ∈ (dropK kvs k).map (·.1)) : j ∈ kvs.map (·.1) ∧ j ≠ k := by
  obtain ⟨p, mp, rfl⟩ := List.mem_map.mp h
  obtain ⟨m, z⟩ := List.mem_filter.mp mp
  exact ⟨List.mem_map_of_mem m, of_decide_eq_true z⟩
theorem Cnt.more {kvs : List (List L2.Key × V)} {ps : List P2} (c : Cnt kvs ps) {x : P2} (h : x ∈ ps) : Cnt (putK kvs (kk x) (.int ((ps.count x : Int) + 1))) (x :: ps) := by
  have pos : ps.count x ≠ 0 := fun z => (List.count_eq_zero.mp z) h
  have e := c.at_ x
  rw [if_neg pos] at e
  refine ⟨by rw [keys_old e]; exact c.nd, fun k m => ?_, fun y => ?_⟩
  · rw [keys_old e] at m
    obtain ⟨y, my, ey⟩ := c.ks k m
    exact ⟨y, List.mem_cons_of_mem _ my, ey⟩
  · rw [valV_put, List.count_cons]
    by_cases z : y = x
    · subst z
      rw [if_pos rfl, if_neg (by simp)]
      simp
    · rw [if_neg (fun q => z (kk_inj q)), c.at_ y]
      have e2 : (x == y) = false := beq_eq_false_iff_ne.mpr (fun q => z q.symm)
      rw [e2]
      simp
theorem Cnt.first {kvs : List (List L2.Key × V)} {ps : List P2} (c : Cnt kvs ps) {x : P2} (h : x ∉ ps) : Cnt (putK (putK kvs (kk x) (.int 0)) (kk x) (.int (0 + 1))) (x :: ps) := by
  have no : ps.count x = 0 := List.count_eq_zero.mpr h
  have e := c.at_ x
  rw [if_pos no] at e
  have e1 : valV (putK kvs (kk x) (.int 0)) (kk x) = some (.int 0) := by rw [valV_put, if_pos rfl]
  refine ⟨by rw [keys_old e1]; exact nd_putK _ c.nd e, fun k m => ?_, fun y => ?_⟩
  · rw [keys_old e1, putK_new _ e, List.map_append, List.mem_append] at m
    rcases m with m | m
    · obtain ⟨y, my, ey⟩ := c.ks k m
      exact ⟨y, List.mem_cons_of_mem _ my, ey⟩
    · exact ⟨x, List.mem_cons_self, by simpa using m⟩
  · rw [valV_put, valV_put, List.count_cons]
    by_cases z : y = x
    · subst z
      rw [if_pos rfl, no, if_neg (by simp)]
      simp
    · rw [if_neg (fun q => z (kk_inj q)), if_neg (fun q => z (kk_inj q)), c.at_ y]
      have e2 : (x == y) = false := beq_eq_false_iff_ne.mpr (fun q => z q.symm)
      rw [e2]
      simp
theorem Cnt.less {kvs : List (List L2.Key × V)} {ps : List P2} (c : Cnt kvs ps) {x : P2} (h : 2 ≤ ps.count x) : Cnt (putK kvs (kk x) (.int ((ps.count x : Int) - 1))) (ps.erase x) := by
  have e := c.at_ x
  rw [if_neg (by omega)] at e
  have inn : ∀ y ∈ ps, y ∈ ps.erase x := fun y m => by
    by_cases z : y = x
    · subst z
      exact List.count_pos_iff.mp (by rw [List.count_erase_self]; omega)
    · exact (List.mem_erase_of_ne z).mpr m
  refine ⟨by rw [keys_old e]; exact c.nd, fun k m => ?_, fun y => ?_⟩
  · rw [keys_old e] at m
    obtain ⟨y, my, ey⟩ := c.ks k m
    exact ⟨y, inn y my, ey⟩
  · rw [valV_put]
    by_cases z : y = x
    · subst z
      rw [if_pos rfl, List.count_erase_self, if_neg (by omega)]
      congr 2
      omega
    · rw [if_neg (fun q => z (kk_inj q)), c.at_ y, List.count_erase_of_ne z]
theorem Cnt.last {kvs : List (List L2.Key × V)} {ps : List P2} (c : Cnt kvs ps) {x : P2} {v : V} (h : ps.count x = 1) : Cnt (dropK (putK kvs (kk x) v) (kk x)) (ps.erase x) := by
  have e := c.at_ x
  rw [if_neg (by omega)] at e
  refine ⟨nd_dropK (by rw [keys_old e]; exact c.nd), fun k m => ?_, fun y => ?_⟩
  · obtain ⟨m, ne⟩ := keys_drop m
    rw [keys_old e] at m
    obtain ⟨y, my, ey⟩ := c.ks k m
    refine ⟨y, (List.mem_erase_of_ne fun z => ne ?_).mpr my, ey⟩
    rw [ey, z]
  · rw [valV_drop]
    by_cases z : y = x
    · subst z
      rw [if_pos rfl, List.count_erase_self, h]
      rfl
    · rw [if_neg (fun q => z (kk_inj q)), valV_put, if_neg (fun q => z (kk_inj q)), c.at_ y, List.count_erase_of_ne z]
/-! the rising list -/
theorem plt_trans {x y z : P2} (a : plt x y) (b : plt y z) : plt x z := by unfold plt at *; omega
theorem plt_irr {x : P2} : ¬ plt x x := by unfold plt; omega
theorem plt_tri {x y : P2} (a : ¬ plt y x) (b : y ≠ x) : plt x y := by
  unfold plt at *
  have z : ¬ (y.1 = x.1 ∧ y.2 = x.2) := fun q => b (Prod.ext q.1 q.2)
  omega
abbrev items (bs : List (Addr × P2)) : List (Addr × List Int) := bs.map fun q => (q.1, li q.2)
theorem items_at {bs : List (Addr × P2)} {i : Nat} {q : Addr × List Int} (h : (items bs)[i]? = some q) : ∃ p, bs[i]? = some p ∧ q = (p.1, li p.2) := by
  rw [List.getElem?_map] at h
  obtain ⟨p, e, z⟩ := Option.map_eq_some_iff.mp h
  exact ⟨p, e, z.symm⟩
theorem at_items {bs : List (Addr × P2)} {i : Nat} {p : Addr × P2} (h : bs[i]? = some p) : (items bs)[i]? = some (p.1, li p.2) := by rw [List.getElem?_map, h]; rfl
theorem up_at {bs : List (Addr × P2)} (u : (bs.map (·.2)).Pairwise plt) {i j : Nat} {p q : Addr × P2} (h : i < j) (hi : bs[i]? = some p) (hj : bs[j]? = some q) : plt p.2 q.2 := by
  have z := List.pairwise_iff_getElem.mp (List.pairwise_map.mp u)
  obtain ⟨a, ea⟩ := List.getElem?_eq_some_iff.mp hi
  obtain ⟨b, eb⟩ := List.getElem?_eq_some_iff.mp hj
  have w := z i j a b h
  rwa [ea, eb] at w
theorem rise_pair {bs : List (Addr × P2)} (u : (bs.map (·.2)).Pairwise plt) (x : P2) : Rise (li x) (items bs) := by
  intro i j p q h hi hj l
  obtain ⟨p', ei, rfl⟩ := items_at hi
  obtain ⟨q', ej, rfl⟩ := items_at hj
  exact (lt_pair _ _).mpr (plt_trans (up_at u h ei ej) ((lt_pair _ _).mp l))
theorem rise_one {bs : List (Addr × P2)} (u : (bs.map (·.2)).Pairwise plt) (c : Int) : Rise [c] (items bs) := by
  intro i j p q h hi hj l
  obtain ⟨p', ei, rfl⟩ := items_at hi
  obtain ⟨q', ej, rfl⟩ := items_at hj
  have z := up_at u h ei ej
  have l := (lt_one _ _).mp l
  refine (lt_one _ _).mpr ?_
  unfold plt at z
  omega
theorem spot_len {ns : List Int} {bs : List (Addr × P2)} {k : Nat} (s : Spot ns (items bs) k) : k ≤ bs.length := by
  have z := s.le
  rwa [List.length_map] at z
theorem below_of {bs : List (Addr × P2)} {ns : List Int} {k : Nat} (s : Spot ns (items bs) k) : ∀ q ∈ bs.take k, HT.lexLt (li q.2) ns = true := fun q m => by
  obtain ⟨i, hi, e⟩ := List.getElem_of_mem m
  rw [List.length_take] at hi
  have e2 : bs[i]? = some q := by
    have z : (bs.take k)[i]? = some q := by rw [List.getElem?_eq_getElem (by rw [List.length_take]; exact hi), e]
    rwa [List.getElem?_take_of_lt (by omega)] at z
  exact s.below i _ (by omega) (at_items e2)
theorem above_of {bs : List (Addr × P2)} {ns : List Int} {k : Nat} (s : Spot ns (items bs) k) : ∀ q ∈ bs.drop k, HT.lexLt (li q.2) ns = false := fun q m => by
  obtain ⟨i, hi, e⟩ := List.getElem_of_mem m
  have e2 : bs[k + i]? = some q := by
    have z : (bs.drop k)[i]? = some q := by rw [List.getElem?_eq_getElem hi, e]
    rwa [List.getElem?_drop] at z
  exact s.above (k + i) _ (by omega) (at_items e2)
theorem up_insert {bs : List (Addr × P2)} (u : (bs.map (·.2)).Pairwise plt) {x : P2} {b : Addr} {k : Nat} (s : Spot (li x) (items bs) k) (new : x ∉ bs.map (·.2)) : ((bs.take k ++ [(b, x)] ++ bs.drop k).map (·.2)).Pairwise plt := by
  have u' := List.pairwise_map.mp u
  have cut : bs = bs.take k ++ bs.drop k := (List.take_append_drop k bs).symm
  rw [cut] at u'
  obtain ⟨u1, u2, u3⟩ := List.pairwise_append.mp u'
  refine List.pairwise_map.mpr (List.pairwise_append.mpr ⟨List.pairwise_append.mpr ⟨u1, List.pairwise_singleton _ _, fun p mp q mq => ?_⟩, u2, fun p mp q mq => ?_⟩)
  · rw [List.mem_singleton.mp mq]
    exact (lt_pair _ _).mp (below_of s p mp)
  · rcases List.mem_append.mp mp with mp | mp
    · exact u3 p mp q mq
    · rw [List.mem_singleton.mp mp]
      have nx : q.2 ≠ x := fun z => by
        have w := List.mem_map_of_mem (f := fun q : Addr × P2 => q.2) (List.mem_of_mem_drop mq)
        rw [z] at w
        exact new w
      refine plt_tri (fun z => ?_) nx
      have w := above_of s q mq
      rw [(lt_pair _ _).mpr z] at w
      cases w
theorem spot_at {bs : List (Addr × P2)} (u : (bs.map (·.2)).Pairwise plt) {x : P2} {k : Nat} (s : Spot (li x) (items bs) k) (h : x ∈ bs.map (·.2)) : ∃ q, bs[k]? = some q ∧ q.2 = x := by
  obtain ⟨q, mq, rfl⟩ := List.mem_map.mp h
  obtain ⟨j, hj, e⟩ := List.getElem_of_mem mq
  have ej : bs[j]? = some q := by rw [List.getElem?_eq_getElem hj, e]
  have nlt : HT.lexLt (li q.2) (li q.2) = false := by
    cases z : HT.lexLt (li q.2) (li q.2) with
    | false => rfl
    | true => exact absurd ((lt_pair _ _).mp z) plt_irr
  rcases Nat.lt_trichotomy j k with z | z | z
  · have w := s.below j _ z (at_items ej)
    rw [nlt] at w
    cases w
  · exact ⟨q, z ▸ ej, rfl⟩
  · have hk : k < bs.length := by omega
    have ek : bs[k]? = some bs[k] := List.getElem?_eq_getElem hk
    have w := s.above k _ (Nat.le_refl _) (at_items ek)
    rw [(lt_pair _ _).mpr (up_at u z ek ej)] at w
    cases w
theorem up_nodup {bs : List (Addr × P2)} (u : (bs.map (·.2)).Pairwise plt) : (bs.map (·.2)).Nodup := List.Pairwise.imp (fun {a b} h e => by rw [e] at h; exact plt_irr h) u
theorem up_erase {bs : List (Addr × P2)} (u : (bs.map (·.2)).Pairwise plt) {q : Addr × P2} {k : Nat} (h : bs[k]? = some q) : ((bs.eraseIdx k).map (·.2)).Pairwise plt ∧ ∀ x, x ∈ (bs.eraseIdx k).map (·.2) ↔ x ∈ bs.map (·.2) ∧ x ≠ q.2 := by
  refine ⟨List.pairwise_map.mpr (List.Pairwise.sublist (List.eraseIdx_sublist bs k) (List.pairwise_map.mp u)), fun x => ?_⟩
  constructor
  · intro m
    obtain ⟨p, mp, rfl⟩ := List.mem_map.mp m
    obtain ⟨i, ni, ei⟩ := List.mem_eraseIdx_iff_getElem?.mp mp
    refine ⟨List.mem_map_of_mem (List.mem_of_getElem? ei), fun z => ?_⟩
    rcases Nat.lt_or_gt_of_ne ni with w | w
    · have t := up_at u w ei h
      rw [z] at t
      exact plt_irr t
    · have t := up_at u w h ei
      rw [z] at t
      exact plt_irr t
  · rintro ⟨m, ne⟩
    obtain ⟨p, mp, rfl⟩ := List.mem_map.mp m
    obtain ⟨i, hi, ei⟩ := List.getElem_of_mem mp
    refine List.mem_map_of_mem (List.mem_eraseIdx_iff_getElem?.mpr ⟨i, fun z => ne ?_, by rw [List.getElem?_eq_getElem hi, ei]⟩)
    have w : bs[i]? = some p := by rw [List.getElem?_eq_getElem hi, ei]
    rw [z, h] at w
    rw [Option.some.inj w]
end G37

set_option linter.all false
set_option maxHeartbeats 1000000
namespace IT
theorem nodup_le {α : Type} [DecidableEq α] : ∀ (l U : List α), l.Nodup → (∀ x ∈ l, x ∈ U) → l.length ≤ U.length
  | [], _, _, _ => Nat.zero_le _
  | x :: l, U, nd, sub => by
    obtain ⟨n1, n2⟩ := List.nodup_cons.mp nd
    have mx := sub x List.mem_cons_self
    have z := nodup_le l (U.erase x) n2 fun y my => (List.mem_erase_of_ne fun (e : y = x) => n1 (e ▸ my)).mpr (sub y (List.mem_cons_of_mem _ my))
    have pos := List.length_pos_of_mem mx
    rw [List.length_erase_of_mem mx] at z
    show l.length + 1 ≤ _
    omega
end IT
namespace G37
open PySem L2
structure TxtX (K : PySem.W.Frag) (mg : Str → Option Value) (C : Addr) : Prop extends Txt mg where
  cl : Cls K C
  nM : NoAttr K C "many"
  nR : NoAttr K C "rising"
def spInit (C : Addr) : Sp := fun vs H Q _ => ∃ (p dx : Addr), vs = [.ref p] ∧ H p = some (.ins C dx []) ∧ ∀ (d r : Addr) (H' : Hp), H d = none → H r = none → IxAt C H' p d r [] → (∀ b o, H b = some o → b ≠ p → H' b = some o) → Q .non H'
def spAdd (C : Addr) : Sp := fun vs H Q _ => ∃ (p d r : Addr) (x : P2) (ps : List P2), vs = [.ref p, .int x.1, .int x.2] ∧ IxAt C H p d r ps ∧ ps.length ≤ 100 ∧ ∀ H', KIx d r H H' → IxAt C H' p d r (x :: ps) → Q .non H'
def spLose (C : Addr) : Sp := fun vs H Q _ => ∃ (p d r : Addr) (x : P2) (ps : List P2), vs = [.ref p, .int x.1, .int x.2] ∧ IxAt C H p d r ps ∧ ps.length ≤ 100 ∧ x ∈ ps ∧ ∀ H', KIx d r H H' → IxAt C H' p d r (ps.erase x) → Q .non H'
section
variable {P : Program} {w : World} {K : PySem.W.Frag} {mg : Str → Option Value} {base : Heap}
theorem scI : FnScope ["self"] ["self"] (defScope sInit) := ⟨rfl, rfl, rfl, by decide +kernel, rfl, by decide +kernel, by decide +kernel⟩
theorem ok_init {f C : Addr} {fd : FuncData} (F : Fun K "__init__" "Index.__init__" sInit f fd) (T : TxtX K mg C) : FnOk P w K mg base CX0 1 f fd ["self"] (spInit C) := by
  refine F.ok scI (fun vs H Q E h => ?_) (fun cdv A outer s H vs Q E hr h => ?_)
  · obtain ⟨p, dx, rfl, _⟩ := h
    rfl
  · obtain ⟨p, dx, rfl, hp, k⟩ := h
    refine ⟨_, (pss_cons (ps_fld (pv 0) pe_dnewT rfl)
      (pss_one (ps_fld (pv 0) (pe_lst pa_nil) rfl))), ?_⟩
    intro d hd
    have npd : p ≠ d := ne_of_none hp hd
    refine ⟨_, rfl, p, C, dx, [], rfl, (by rw [upd_ne npd]; exact hp), T.cl, T.nM, (by show 0 < 1000; decide), (by show 0 ≤ sizeLine; decide), fun r hr0 => ?_⟩
    have nrp : r ≠ p := fun e => by rw [e, upd_same] at hr0; cases hr0
    have nrd : r ≠ d := fun e => by rw [e, upd_ne npd.symm, upd_same] at hr0; cases hr0
    have hr1 : H r = none := by rw [upd_ne nrp, upd_ne nrd] at hr0; exact hr0
    refine ⟨_, rfl, p, C, dx, _, rfl, (by rw [upd_ne nrp.symm]; exact upd_same), T.cl, T.nR, (by show 1 < 1000; decide), ?_⟩
    refine k d r _ hd hr1 ⟨⟨dx, upd_same⟩, ⟨[], by rw [upd_ne npd.symm, upd_ne nrd.symm, upd_ne npd.symm, upd_same], List.nodup_nil, fun k m => (by cases m), fun x => rfl⟩, [], by rw [upd_ne nrp, upd_same]; rfl, fun q m => (by cases m), List.Pairwise.nil, fun x => Iff.rfl⟩ fun b o e hb => ?_
    rw [upd_ne hb, upd_ne (ne_of_none e hr1), upd_ne hb, upd_ne (ne_of_none e hd)]
    exact e
theorem put_len (kvs : List (List L2.Key × V)) (k : List L2.Key) (v : V) : (putK kvs k v).length ≤ kvs.length + 1 := by
  unfold putK
  split
  · rw [List.length_map]; omega
  · rw [List.length_append]; exact Nat.le_refl _
theorem sq1 {te : TE} {u : TS} {D : Ends} {σ : L2.St} {H : Hp} (h : te σ H fun _ H1 => u D σ H1) : tSeq (tDrop te) u D σ H := h
theorem ix_dict {C p d r dx : Addr} {H : Hp} {qs : List P2} {kvs kvs' : List (List L2.Key × V)} {bs : List (Addr × P2)} (ob : H p = some (.ins C dx (flds d r))) (dc : H d = some (.dT kvs)) (rs : H r = some (.lst (bs.map fun q => V.ref q.1))) (ri : Rising H bs qs) (cn : Cnt kvs' qs) :
    IxAt C (upd H d (.dT kvs')) p d r qs := by
  have n1 : p ≠ d := ne_of ob dc (by intro z; cases z)
  have n2 : r ≠ d := ne_of rs dc (by intro z; cases z)
  exact ⟨⟨dx, by rw [upd_ne n1]; exact ob⟩, ⟨_, upd_same, cn⟩, bs, by rw [upd_ne n2]; exact rs, fun q m => by rw [upd_ne (ne_of (ri.tup q m) dc (by intro z; cases z))]; exact ri.tup q m, ri.up, ri.mem⟩
theorem scA : FnScope ["self", "worth", "key", "pair"] ["self", "worth", "key"] (defScope sAdd) := ⟨rfl, rfl, rfl, by decide +kernel, rfl, by decide +kernel, by decide +kernel⟩
theorem ok_add {f C fp : Addr} {fd fdp : FuncData} (F : Fun K "add" "Index.add" sAdd f fd) (T : TxtX K mg C) (Cplace_in : Cal P w K mg base 1 "place_in" ["items", "item"] (spPlace K) fp fdp) : FnOk P w K mg base CX0 2 f fd ["self", "worth", "key"] (spAdd C) := by
  refine F.ok scA (fun vs H Q E h => ?_) (fun cdv A outer s H vs Q E hr h => ?_)
  · obtain ⟨p, d, r, x, ps, rfl, _⟩ := h
    rfl
  · obtain ⟨p, d, r, x, ps, rfl, X, few, k⟩ := h
    have hr1 : Room 1 _ := hr
    refine ⟨_, (pss_cons (ps_set (i := 3) scA.nd rfl (Or.inl rfl) (pe_tup (pa_cons (pv 1) (pa_cons (pv 2) pa_nil))))
      (pss_cons (ps_if (pt_cmp (pc_dnotin (hu_of hr) (pv 3) (pe_fld (pv 0) rfl))) (pss_cons (ps_expr (pe_bm PySem.F.plainAttrs_list PySem.F.slot_list_insert PySem.F.type_list_insert mt_insert (pe_fld (pv 0) rfl) (pa_cons (pe_call Cplace_in.G hr1 (by rfl) Cplace_in.g Cplace_in.kp Cplace_in.b .nil pass0 (pa_cons (pe_fld (pv 0) rfl) (pa_cons (pv 3) pa_nil))) (pa_cons (pv 3) pa_nil))))
        (pss_one (ps_dput (hu_of hr) (pe_fld (pv 0) rfl) (pv 3) pe_int rfl))) pss_nil)
      (pss_one (ps_daug (hu_of hr) (pe_fld (pv 0) rfl) (pv 3) pe_int in_add (by intros; rfl))))), ?_⟩
    refine sa1 ?_
    refine ⟨_, rfl, _, rfl, (by show 2 ≤ sizeLine; decide), fun b0 hb0 => ?_⟩
    refine gn ?_
    have s1 := Same.new (o := tup2 x) hb0
    have hb1 : (upd H b0 (tup2 x)) b0 = some (tup2 x) := upd_same
    have X1 := X.same s1
    obtain ⟨⟨dx, ob⟩, ⟨kvs, dc, cn⟩, bs, rs, ri⟩ := id X1
    generalize upd H b0 (tup2 x) = H1 at s1 hb1 X1 ob dc rs ri
    refine ⟨_, rfl, _, rfl, p, C, dx, _, _, rfl, ob, T.cl, T.nM, flds_many _ _, d, _, rfl, DGet.t (k := kk x) dc hb1, _, rfl, ?_⟩
    rw [cn.at_ x]
    by_cases c : ps.count x = 0
    · rw [if_pos c]
      refine iteT ?_
      have nx : x ∉ ps := List.count_eq_zero.mp c
      have nb : x ∉ bs.map (·.2) := fun m => nx ((ri.mem x).mp m)
      have few1 : bs.length ≤ ps.length := by
        have z := IT.nodup_le (bs.map (·.2)) ps (up_nodup ri.up) fun y m => (ri.mem y).mp m
        rwa [List.length_map] at z
      have sq : SqL K H1 r ((items bs).map Ref) := by
        rw [List.map_map]
        exact SqL.of rs
      have tq : ∀ q ∈ items bs, SqT K H1 q.1 (q.2.map V.int) := fun q m => by
        obtain ⟨p', m', rfl⟩ := List.mem_map.mp m
        exact SqT.of (ri.tup p' m')
      refine sq1 ?_
      refine ⟨_, rfl, p, C, dx, _, _, rfl, ob, T.cl, T.nR, flds_rising _ _, .inl ⟨rfl, _, SqL.of rs⟩, _, rfl, p, C, dx, _, _, rfl, ob, T.cl, T.nR, flds_rising _ _, _, rfl, r, b0, items bs, li x, rfl, sq, tq, SqT.of hb1, (by rw [List.length_map]; omega), rise_pair ri.up x, fun k0 sp => ?_⟩
      have lk := spot_len sp
      refine ⟨_, rfl, r, _, k0, .ref b0, rfl, rfl, rs, Nat.lt_of_le_of_lt (show (bs.map fun q => V.ref q.1).length ≤ 100 by rw [List.length_map]; omega) (by decide), by omega, by omega, ?_⟩
      have el : (bs.map fun q => V.ref q.1).take (k0 : Int).toNat ++ [V.ref b0] ++ (bs.map fun q => V.ref q.1).drop (k0 : Int).toNat = (bs.take k0 ++ [(b0, x)] ++ bs.drop k0).map fun q => V.ref q.1 := by
        rw [List.map_append, List.map_append, List.map_take, List.map_drop]
        rfl
      rw [el]
      have n1 : p ≠ r := ne_of ob rs (by intro z; cases z)
      have n2 : d ≠ r := ne_of dc rs (by intro z; cases z)
      have n3 : b0 ≠ r := ne_of hb1 rs (by intro z; cases z)
      have n4 : d ≠ b0 := ne_of dc hb1 (by intro z; cases z)
      have up := up_insert (b := b0) ri.up sp nb
      have tup : ∀ q ∈ bs.take k0 ++ [(b0, x)] ++ bs.drop k0, H1 q.1 = some (tup2 q.2) := fun q m => by
        rcases List.mem_append.mp m with m | m
        · rcases List.mem_append.mp m with m | m
          · exact ri.tup q (List.mem_of_mem_take m)
          · rw [List.mem_singleton.mp m]; exact hb1
        · exact ri.tup q (List.mem_of_mem_drop m)
      have mem : ∀ y, y ∈ (bs.take k0 ++ [(b0, x)] ++ bs.drop k0).map (·.2) ↔ y ∈ x :: ps := fun y => by
        rw [List.mem_cons, ← ri.mem y]
        have cut : bs.map (·.2) = (bs.take k0).map (·.2) ++ (bs.drop k0).map (·.2) := by rw [← List.map_append, List.take_append_drop]
        rw [cut, List.map_append, List.map_append, List.mem_append, List.mem_append, List.mem_append]
        constructor
        · rintro ((h | h) | h)
          · exact .inr (.inl h)
          · exact .inl (by simpa using h)
          · exact .inr (.inr h)
        · rintro (h | h | h)
          · exact .inl (.inr (by simpa using h))
          · exact .inl (.inl h)
          · exact .inr h
      generalize bs.take k0 ++ [(b0, x)] ++ bs.drop k0 = cs at up tup mem
      have ob2 : (upd H1 r (.lst (cs.map fun q => V.ref q.1))) p = some (.ins C dx (flds d r)) := by rw [upd_ne n1]; exact ob
      have dc2 : (upd H1 r (.lst (cs.map fun q => V.ref q.1))) d = some (.dT kvs) := by rw [upd_ne n2]; exact dc
      have hb2 : (upd H1 r (.lst (cs.map fun q => V.ref q.1))) b0 = some (tup2 x) := by rw [upd_ne n3]; exact hb1
      have rs2 : (upd H1 r (.lst (cs.map fun q => V.ref q.1))) r = some (.lst (cs.map fun q => V.ref q.1)) := upd_same
      have ri2 : Rising (upd H1 r (.lst (cs.map fun q => V.ref q.1))) cs (x :: ps) := ⟨fun q m => by rw [upd_ne (ne_of (tup q m) rs (by intro z; cases z))]; exact tup q m, up, mem⟩
      have k2 : KIx d r H (upd H1 r (.lst (cs.map fun q => V.ref q.1))) := fun y o h1 h2 e => by rw [upd_ne h2]; exact s1 _ _ e
      generalize upd H1 r (.lst (cs.map fun q => V.ref q.1)) = H2 at ob2 dc2 hb2 rs2 ri2 k2
      have lv : kvs.length ≤ 100 := Nat.le_trans cn.few few
      refine ⟨_, rfl, p, C, dx, _, _, rfl, ob2, T.cl, T.nM, flds_many _ _, _, rfl, d, _, rfl, DPut.t (k := kk x) dc2 hb2 (Nat.lt_of_le_of_lt lv (by decide)), ?_⟩
      have n5 : p ≠ d := ne_of ob2 dc2 (by intro z; cases z)
      have n6 : r ≠ d := ne_of rs2 dc2 (by intro z; cases z)
      have hb3 : (upd H2 d (.dT (putK kvs (kk x) (.int 0)))) b0 = some (tup2 x) := by rw [upd_ne n4.symm]; exact hb2
      have g3 : DGet (upd H2 d (.dT (putK kvs (kk x) (.int 0)))) d (.ref b0) (some (.int 0)) := by
        have e : valV (putK kvs (kk x) (.int 0)) (kk x) = some (V.int 0) := by rw [valV_put, if_pos rfl]
        rw [← e]
        exact DGet.t (k := kk x) upd_same hb3
      refine ⟨_, rfl, p, C, dx, _, _, rfl, (by rw [upd_ne n5]; exact ob2), T.cl, T.nM, flds_many _ _, _, rfl, d, _, rfl, g3, _, _, rfl, rfl, _, DPut.t (k := kk x) upd_same hb3 (Nat.lt_of_le_of_lt (Nat.le_trans (put_len kvs (kk x) (.int 0)) (Nat.succ_le_succ lv)) (by decide)), ?_⟩
      rw [upd_upd]
      exact k _ (fun y o h1 h2 e => by rw [upd_ne h1]; exact k2 y o h1 h2 e) (ix_dict ob2 dc2 rs2 ri2 (cn.first nx))
    · rw [if_neg c]
      refine iteF ?_
      have mx : x ∈ ps := List.count_pos_iff.mp (Nat.pos_of_ne_zero c)
      have lv : kvs.length ≤ 100 := Nat.le_trans cn.few few
      have g1 : DGet H1 d (.ref b0) (some (.int (ps.count x))) := by
        have e := cn.at_ x
        rw [if_neg c] at e
        rw [← e]
        exact DGet.t (k := kk x) dc hb1
      refine ⟨_, rfl, p, C, dx, _, _, rfl, ob, T.cl, T.nM, flds_many _ _, _, rfl, d, _, rfl, g1, _, _, rfl, rfl, _, DPut.t (k := kk x) dc hb1 (Nat.lt_of_le_of_lt lv (by decide)), ?_⟩
      exact k _ (fun y o h1 h2 e => by rw [upd_ne h1]; exact s1 _ _ e) (ix_dict ob dc rs ⟨ri.tup, ri.up, fun y => (ri.mem y).trans ⟨List.mem_cons_of_mem _, fun m => (List.mem_cons.mp m).elim (fun z => z ▸ mx) id⟩⟩ (cn.more mx))
end
end G37

set_option linter.all false
set_option maxHeartbeats 1000000
namespace G37
open PySem L2
section
variable {P : Program} {w : World} {K : PySem.W.Frag} {mg : Str → Option Value} {base : Heap}
theorem erase_map {α β : Type} (f : α → β) : ∀ (l : List α) (k : Nat), (l.map f).eraseIdx k = (l.eraseIdx k).map f
  | [], _ => rfl
  | _ :: _, 0 => rfl
  | x :: l, k + 1 => by
    show f x :: (l.map f).eraseIdx k = f x :: (l.eraseIdx k).map f
    rw [erase_map f l k]
theorem scL : FnScope ["self", "worth", "key", "pair"] ["self", "worth", "key"] (defScope sLose) := ⟨rfl, rfl, rfl, by decide +kernel, rfl, by decide +kernel, by decide +kernel⟩
theorem ok_lose {f C fp : Addr} {fd fdp : FuncData} (F : Fun K "lose" "Index.lose" sLose f fd) (T : TxtX K mg C) (Cplace_in : Cal P w K mg base 1 "place_in" ["items", "item"] (spPlace K) fp fdp) : FnOk P w K mg base CX0 2 f fd ["self", "worth", "key"] (spLose C) := by
  refine F.ok scL (fun vs H Q E h => ?_) (fun cdv A outer s H vs Q E hr h => ?_)
  · obtain ⟨p, d, r, x, ps, rfl, _⟩ := h
    rfl
  · obtain ⟨p, d, r, x, ps, rfl, X, few, mx, k⟩ := h
    have hr1 : Room 1 _ := hr
    refine ⟨_, (pss_cons (ps_set (i := 3) scL.nd rfl (Or.inl rfl) (pe_tup (pa_cons (pv 1) (pa_cons (pv 2) pa_nil))))
      (pss_cons (ps_if (pt_cmp (pc_dnotin (hu_of hr) (pv 3) (pe_fld (pv 0) rfl))) (pss_one ps_retN) pss_nil)
      (pss_cons (ps_daug (hu_of hr) (pe_fld (pv 0) rfl) (pv 3) pe_int in_sub (by intros; rfl))
      (pss_one (ps_if (pt_cmpR op_eq (pe_dget (hu_of hr) (pe_fld (pv 0) rfl) (pv 3) (fun _ _ => rfl)) pe_int (nomark _)) (pss_cons (ps_ddelT (hu_of hr) (pe_fld (pv 0) rfl) (pv 3))
        (pss_one (ps_delL (pe_fld (pv 0) rfl) (pe_call Cplace_in.G hr1 (by rfl) Cplace_in.g Cplace_in.kp Cplace_in.b .nil pass0 (pa_cons (pe_fld (pv 0) rfl) (pa_cons (pv 3) pa_nil)))))) pss_nil))))), ?_⟩
    refine sa1 ?_
    refine ⟨_, rfl, _, rfl, (by show 2 ≤ sizeLine; decide), fun b0 hb0 => ?_⟩
    refine gn ?_
    have s1 := Same.new (o := tup2 x) hb0
    have hb1 : (upd H b0 (tup2 x)) b0 = some (tup2 x) := upd_same
    have X1 := X.same s1
    obtain ⟨⟨dx, ob⟩, ⟨kvs, dc, cn⟩, bs, rs, ri⟩ := id X1
    generalize upd H b0 (tup2 x) = H1 at s1 hb1 X1 ob dc rs ri
    have pos : ps.count x ≠ 0 := fun z => (List.count_eq_zero.mp z) mx
    have e0 := cn.at_ x
    rw [if_neg pos] at e0
    refine ⟨_, rfl, _, rfl, p, C, dx, _, _, rfl, ob, T.cl, T.nM, flds_many _ _, d, _, rfl, DGet.t (k := kk x) dc hb1, _, rfl, ?_⟩
    rw [e0]
    refine iteF ?_
    have lv : kvs.length ≤ 100 := Nat.le_trans cn.few few
    have g1 : DGet H1 d (.ref b0) (some (.int (ps.count x))) := by
      rw [← e0]
      exact DGet.t (k := kk x) dc hb1
    refine ⟨_, rfl, p, C, dx, _, _, rfl, ob, T.cl, T.nM, flds_many _ _, _, rfl, d, _, rfl, g1, _, _, rfl, rfl, _, DPut.t (k := kk x) dc hb1 (Nat.lt_of_le_of_lt lv (by decide)), ?_⟩
    have n1 : p ≠ d := ne_of ob dc (by intro z; cases z)
    have n2 : r ≠ d := ne_of rs dc (by intro z; cases z)
    have n3 : b0 ≠ d := ne_of hb1 dc (by intro z; cases z)
    have tn : ∀ {q : Addr × P2}, H1 q.1 = some (tup2 q.2) → q.1 ≠ d := fun h => ne_of h dc (by intro z; cases z)
    have hb2 : ∀ o, (upd H1 d o) b0 = some (tup2 x) := fun o => by rw [upd_ne n3]; exact hb1
    have ob2 : ∀ o, (upd H1 d o) p = some (.ins C dx (flds d r)) := fun o => by rw [upd_ne n1]; exact ob
    have rs2 : ∀ o, (upd H1 d o) r = some (.lst (bs.map fun q => V.ref q.1)) := fun o => by rw [upd_ne n2]; exact rs
    have v1 : valV (putK kvs (kk x) (.int ((ps.count x : Int) - 1))) (kk x) = some (V.int ((ps.count x : Int) - 1)) := by rw [valV_put, if_pos rfl]
    have g2 : DGet (upd H1 d (.dT (putK kvs (kk x) (.int ((ps.count x : Int) - 1))))) d (.ref b0) (some (.int ((ps.count x : Int) - 1))) := by
      rw [← v1]
      exact DGet.t (k := kk x) upd_same (hb2 _)
    refine ⟨_, rfl, p, C, dx, _, _, rfl, ob2 _, T.cl, T.nM, flds_many _ _, _, rfl, d, _, rfl, g2, rfl, _, rfl, ?_⟩
    by_cases one : ps.count x = 1
    · rw [decide_eq_true (show V.int ((ps.count x : Int) - 1) = V.int 0 by rw [one]; rfl)]
      refine iteT ?_
      refine ⟨_, rfl, p, C, dx, _, _, rfl, ob2 _, T.cl, T.nM, flds_many _ _, _, rfl, d, b0, _, kk x, rfl, rfl, upd_same, hb2 _, by rw [v1]; rfl, ?_⟩
      rw [upd_upd]
      have xb : x ∈ bs.map (·.2) := (ri.mem x).mpr mx
      have few1 : bs.length ≤ ps.length := by
        have z := IT.nodup_le (bs.map (·.2)) ps (up_nodup ri.up) fun y m => (ri.mem y).mp m
        rwa [List.length_map] at z
      have tup2' : ∀ o, ∀ q ∈ bs, (upd H1 d o) q.1 = some (tup2 q.2) := fun o q m => by rw [upd_ne (tn (ri.tup q m))]; exact ri.tup q m
      have sq : ∀ o, SqL K (upd H1 d o) r ((items bs).map Ref) := fun o => by
        rw [List.map_map]
        exact SqL.of (rs2 o)
      have tq : ∀ o, ∀ q ∈ items bs, SqT K (upd H1 d o) q.1 (q.2.map V.int) := fun o q m => by
        obtain ⟨p', m', rfl⟩ := List.mem_map.mp m
        exact SqT.of (tup2' o p' m')
      refine ⟨_, rfl, p, C, dx, _, _, rfl, ob2 _, T.cl, T.nR, flds_rising _ _, _, rfl, p, C, dx, _, _, rfl, ob2 _, T.cl, T.nR, flds_rising _ _, _, rfl, r, b0, items bs, li x, rfl, sq _, tq _, SqT.of (hb2 _), (by rw [List.length_map]; omega), rise_pair ri.up x, fun k0 sp => ?_⟩
      obtain ⟨q, hq, eq⟩ := spot_at ri.up sp xb
      have lk : k0 < bs.length := (List.getElem?_eq_some_iff.mp hq).1
      have si : seqIndex? (k0 : Int) (bs.map fun q => V.ref q.1).length = some k0 := by
        rw [List.length_map]
        unfold seqIndex?
        simp
        omega
      refine ⟨r, _, k0, k0, rfl, rfl, rs2 _, by omega, by omega, si, ?_⟩
      have er : (bs.map fun q => V.ref q.1).eraseIdx k0 = (bs.eraseIdx k0).map fun q => V.ref q.1 := erase_map _ bs k0
      rw [er]
      obtain ⟨u1, u2⟩ := up_erase ri.up hq
      have n4 : d ≠ r := n2.symm
      refine k _ (fun y o h1 h2 e => by rw [upd_ne h2, upd_ne h1]; exact s1 _ _ e) ⟨⟨dx, by rw [upd_ne (ne_of ob rs (by intro z; cases z))]; exact ob2 _⟩, ⟨_, by rw [upd_ne n4]; exact upd_same, cn.last one⟩, bs.eraseIdx k0, upd_same, fun q' m => ?_, u1, fun y => ?_⟩
      · have m' := List.mem_of_mem_eraseIdx m
        rw [upd_ne (ne_of (ri.tup q' m') rs (by intro z; cases z))]
        exact tup2' _ q' m'
      · rw [u2 y, ri.mem y, eq]
        constructor
        · rintro ⟨h1, h2⟩
          exact (List.mem_erase_of_ne h2).mpr h1
        · intro h
          refine ⟨List.mem_of_mem_erase h, fun z => ?_⟩
          subst z
          have z := List.count_pos_iff.mpr h
          rw [List.count_erase_self] at z
          omega
    · rw [decide_eq_false (show ¬ V.int ((ps.count x : Int) - 1) = V.int 0 from fun z => one (by have z := V.int.inj z; omega))]
      refine iteF ?_
      have two : 2 ≤ ps.count x := by omega
      refine k _ (fun y o h1 h2 e => by rw [upd_ne h1]; exact s1 _ _ e) (ix_dict ob dc rs ⟨ri.tup, ri.up, fun y => (ri.mem y).trans ⟨fun m => ?_, List.mem_of_mem_erase⟩⟩ (cn.less two))
      by_cases z : y = x
      · subst z
        exact List.count_pos_iff.mp (by rw [List.count_erase_self]; omega)
      · exact (List.mem_erase_of_ne z).mpr m
end
end G37

set_option linter.all false
set_option maxHeartbeats 1000000
namespace G37
open PySem L2
def oV : Option Int → V
  | none => .non
  | some i => .int i
def inb (lo hi : Option Int) (x : P2) : Prop := (∀ l, lo = some l → l ≤ x.1) ∧ ∀ h, hi = some h → x.1 ≤ h
def spBetween (C : Addr) : Sp := fun vs H Q _ => ∃ (p d r : Addr) (lo hi : Option Int) (ps : List P2), vs = [.ref p, oV lo, oV hi] ∧ IxAt C H p d r ps ∧ ps.length ≤ 100 ∧
  ∀ (q : Addr) (H' : Hp) (cs : List (Addr × P2)), Same H H' → H q = none → H' q = some (.lst (cs.map fun c => V.ref c.1)) → (∀ c ∈ cs, H' c.1 = some (tup2 c.2)) → (cs.map (·.2)).Pairwise plt → (∀ x, x ∈ cs.map (·.2) ↔ x ∈ ps ∧ inb lo hi x) → cs.length ≤ 100 → Q (.ref q) H'
/-- begin, end of a bound: how many are less -/
def Low (bs : List (Addr × P2)) (lo : Option Int) (k : Nat) : Prop := match lo with
  | none => k = 0
  | some l => Spot [l] (items bs) k
def High (bs : List (Addr × P2)) (hi : Option Int) (k : Nat) : Prop := match hi with
  | none => k = bs.length
  | some h => Spot [h + 1] (items bs) k
theorem cut_mem {bs : List (Addr × P2)} {lo hi : Option Int} {k1 k2 : Nat} (u : (bs.map (·.2)).Pairwise plt) (h1 : Low bs lo k1) (h2 : High bs hi k2) (q : Addr × P2) : q ∈ (bs.take k2).drop k1 ↔ q ∈ bs ∧ inb lo hi q.2 := by
  have lowI : ∀ (i : Nat) q, bs[i]? = some q → (k1 ≤ i ↔ ∀ l, lo = some l → l ≤ q.2.1) := fun i q e => by
    cases lo with
    | none =>
      have h1 : k1 = 0 := h1
      subst h1
      exact ⟨fun _ l z => (by cases z), fun _ => Nat.zero_le _⟩
    | some l =>
      have h1 : Spot [l] (items bs) k1 := h1
      constructor
      · intro z l' el
        cases el
        have w := h1.above i _ z (at_items e)
        have nw : ¬ q.2.1 < l := fun g => by rw [(lt_one q.2 l).mpr g] at w; cases w
        omega
      · intro z
        rcases Nat.lt_or_ge i k1 with g | g
        · have w := (lt_one q.2 l).mp (h1.below i _ g (at_items e))
          have := z l rfl
          omega
        · exact g
  have highI : ∀ (i : Nat) q, bs[i]? = some q → (i < k2 ↔ ∀ h, hi = some h → q.2.1 ≤ h) := fun i q e => by
    have li : i < bs.length := (List.getElem?_eq_some_iff.mp e).1
    cases hi with
    | none =>
      have h2 : k2 = bs.length := h2
      subst h2
      exact ⟨fun _ l z => (by cases z), fun _ => li⟩
    | some h =>
      have h2 : Spot [h + 1] (items bs) k2 := h2
      constructor
      · intro z h' eh
        cases eh
        have w := (lt_one q.2 (h + 1)).mp (h2.below i _ z (at_items e))
        omega
      · intro z
        rcases Nat.lt_or_ge i k2 with g | g
        · exact g
        · have w := h2.above i _ g (at_items e)
          have := z h rfl
          rw [(lt_one q.2 (h + 1)).mpr (by omega)] at w
          cases w
  constructor
  · intro m
    obtain ⟨j, hj, e⟩ := List.getElem_of_mem m
    have e2 : ((bs.take k2).drop k1)[j]? = some q := by rw [List.getElem?_eq_getElem hj, e]
    rw [List.getElem?_drop, List.getElem?_take] at e2
    split at e2
    · rename_i lt
      exact ⟨List.mem_of_getElem? e2, (lowI _ q e2).mp (Nat.le_add_right _ _), (highI _ q e2).mp lt⟩
    · cases e2
  · rintro ⟨m, z1, z2⟩
    obtain ⟨i, hi', e⟩ := List.getElem_of_mem m
    have e : bs[i]? = some q := by rw [List.getElem?_eq_getElem hi', e]
    have g1 := (lowI i q e).mpr z1
    have g2 := (highI i q e).mpr z2
    refine List.mem_of_getElem? (i := i - k1) ?_
    rw [List.getElem?_drop, List.getElem?_take, if_pos (by omega), show k1 + (i - k1) = i by omega]
    exact e
section
variable {P : Program} {w : World} {K : PySem.W.Frag} {mg : Str → Option Value} {base : Heap}
theorem sqT_same {K : PySem.W.Frag} {H H' : Hp} (s : Same H H') {a : Addr} {xs : List V} (h : SqT K H a xs) : SqT K H' a xs := by
  rcases h with (h | ⟨o, h⟩) | h
  · exact .inl (.inl (s _ _ h))
  · exact .inl (.inr ⟨o, s _ _ h⟩)
  · exact .inr h
theorem sIx_nat {n d k : Nat} (h : k ≤ n) : HT.sIx n d (some (k : Int)) = k := by
  rw [HT.sIx_nat]
  omega
theorem cut_eq {xs : List V} {k1 k2 : Nat} (h1 : k1 ≤ xs.length) (h2 : k2 ≤ xs.length) : cutV xs (some (k1 : Int)) (some (k2 : Int)) = (xs.take k2).drop k1 := by
  unfold cutV
  rw [sIx_nat h1, sIx_nat h2, List.drop_take]
theorem low_le {bs : List (Addr × P2)} {lo : Option Int} {k : Nat} (h : Low bs lo k) : k ≤ bs.length := by
  cases lo with
  | none => have h : k = 0 := h; omega
  | some l => exact spot_len h
theorem high_le {bs : List (Addr × P2)} {hi : Option Int} {k : Nat} (h : High bs hi k) : k ≤ bs.length := by
  cases hi with
  | none => have h : k = bs.length := h; omega
  | some l => exact spot_len h
theorem scB : FnScope ["self", "low", "high", "begin", "end"] ["self", "low", "high"] (defScope sBetween) := ⟨rfl, rfl, rfl, by decide +kernel, rfl, by decide +kernel, by decide +kernel⟩
theorem ok_between {f C fp : Addr} {fd fdp : FuncData} (F : Fun K "between" "Index.between" sBetween f fd) (T : TxtX K mg C) (Cplace_in : Cal P w K mg base 1 "place_in" ["items", "item"] (spPlace K) fp fdp) : FnOk P w K mg base CX0 2 f fd ["self", "low", "high"] (spBetween C) := by
  refine F.ok scB (fun vs H Q E h => ?_) (fun cdv A outer s H vs Q E hr h => ?_)
  · obtain ⟨p, d, r, lo, hi, ps, rfl, _⟩ := h
    rfl
  · obtain ⟨p, d, r, lo, hi, ps, rfl, X, few, k⟩ := h
    have hr1 : Room 1 _ := hr
    refine ⟨_, (pss_cons (ps_set (i := 3) scB.nd rfl (Or.inl rfl) pe_int)
      (pss_cons (ps_set (i := 4) scB.nd rfl (Or.inl rfl) (pe_callB (RK.lenQ (K := K)) (by rfl) T.len PySem.boot_len (pa_cons (pe_fld (pv 0) rfl) pa_nil)))
      (pss_cons (ps_if (pt_cmpR op_notN (pv 1) pe_non (nomark _)) (pss_one (ps_set (i := 3) scB.nd rfl (Or.inl rfl) (pe_call Cplace_in.G hr1 (by rfl) Cplace_in.g Cplace_in.kp Cplace_in.b .nil pass0 (pa_cons (pe_fld (pv 0) rfl) (pa_cons (pe_tup (pa_cons (pv 1) pa_nil)) pa_nil))))) pss_nil)
      (pss_cons (ps_if (pt_cmpR op_notN (pv 2) pe_non (nomark _)) (pss_one (ps_set (i := 4) scB.nd rfl (Or.inl rfl) (pe_call Cplace_in.G hr1 (by rfl) Cplace_in.g Cplace_in.kp Cplace_in.b .nil pass0 (pa_cons (pe_fld (pv 0) rfl) (pa_cons (pe_tup (pa_cons (pe_op op_add (pv 2) pe_int) pa_nil)) pa_nil))))) pss_nil)
      (pss_one (ps_ret (pe_slice (RK.slL (K := K)) (pe_fld (pv 0) rfl) (po_some (pv 3)) (po_some (pv 4))))))))), ?_⟩
    obtain ⟨⟨dx, ob⟩, ⟨kvs, dc, cn⟩, bs, rs, ri⟩ := id X
    have few1 : bs.length ≤ ps.length := by
      have z := IT.nodup_le (bs.map (·.2)) ps (up_nodup ri.up) fun y m => (ri.mem y).mp m
      rwa [List.length_map] at z
    refine sa1 ?_
    refine gn ?_
    refine sa1 ?_
    refine ⟨_, rfl, p, C, dx, _, _, rfl, ob, T.cl, T.nR, flds_rising _ _, r, _, rfl, .inl (SqL.of rs), ?_⟩
    rw [List.length_map]
    refine gn ?_
    have sq : SqL K H r ((items bs).map Ref) := by
      rw [List.map_map]
      exact SqL.of rs
    have tq : ∀ q ∈ items bs, SqT K H q.1 (q.2.map V.int) := fun q m => by
      obtain ⟨p', m', rfl⟩ := List.mem_map.mp m
      exact SqT.of (ri.tup p' m')
    have len100 : (items bs).length ≤ 1000 := by rw [List.length_map]; omega
    have lr : (bs.map fun q => V.ref q.1).length = bs.length := List.length_map _
    -- what is told, whatever was found
    have fin : ∀ (k1 k2 : Nat) (H2 : Hp) (q : Addr), Low bs lo k1 → High bs hi k2 → Same H H2 → H2 q = none → Q (.ref q) (upd H2 q (.lst (cutV (bs.map fun q => V.ref q.1) (some (k1 : Int)) (some (k2 : Int))))) := fun k1 k2 H2 q h1 h2 s2 hq => by
      have q0 : H q = none := by
        cases z : H q with
        | none => rfl
        | some o => rw [s2 _ _ z] at hq; cases hq
      have s3 : Same H (upd H2 q (.lst (cutV (bs.map fun q => V.ref q.1) (some (k1 : Int)) (some (k2 : Int))))) := s2.trans (Same.new hq)
      have ec : cutV (bs.map fun q => V.ref q.1) (some (k1 : Int)) (some (k2 : Int)) = ((bs.take k2).drop k1).map fun c => V.ref c.1 := by
        rw [cut_eq (by rw [lr]; exact low_le h1) (by rw [lr]; exact high_le h2), List.map_drop, List.map_take]
      have mem := cut_mem ri.up h1 h2
      refine k q _ ((bs.take k2).drop k1) s3 q0 (by rw [upd_same, ec]) (fun c m => s3 _ _ (ri.tup c ((mem c).mp m).1)) ?_ (fun x => ?_) ?_
      · exact List.pairwise_map.mpr (List.Pairwise.sublist ((List.drop_sublist _ _).trans (List.take_sublist _ _)) (List.pairwise_map.mp ri.up))
      · constructor
        · intro m
          obtain ⟨c, mc, rfl⟩ := List.mem_map.mp m
          obtain ⟨z1, z2⟩ := (mem c).mp mc
          exact ⟨(ri.mem _).mp (List.mem_map_of_mem z1), z2⟩
        · rintro ⟨m, z⟩
          obtain ⟨c, mc, rfl⟩ := List.mem_map.mp ((ri.mem x).mpr m)
          exact List.mem_map_of_mem ((mem c).mpr ⟨mc, z⟩)
      · have z1 := List.length_drop (i := k1) (l := bs.take k2)
        have z2 := List.length_take (i := k2) (l := bs)
        omega
    cases lo with
    | none =>
      refine ⟨_, rfl, rfl, _, rfl, iteF ?_⟩
      try dsimp only [tNext]
      cases hi with
      | none =>
        refine ⟨_, rfl, rfl, _, rfl, iteF ?_⟩
        refine ⟨_, rfl, p, C, dx, _, _, rfl, ob, T.cl, T.nR, flds_rising _ _, _, rfl, _, rfl, _, rfl, _, rfl, r, _, rfl, SqL.of rs, fun q hq => ?_⟩
        exact fin 0 bs.length H q rfl rfl (Same.refl _) hq
      | some h =>
        refine ⟨_, rfl, rfl, _, rfl, iteT ?_⟩
        refine ⟨_, rfl, p, C, dx, _, _, rfl, ob, T.cl, T.nR, flds_rising _ _, _, rfl, _, _, rfl, rfl, (by show 1 ≤ sizeLine; decide), fun b2 hb2 => ?_⟩
        have s2 := Same.new (o := .tup [.int (h + 1)]) hb2
        refine ⟨r, b2, items bs, [h + 1], rfl, s2.seq sq, fun q m => sqT_same s2 (tq q m), SqT.of upd_same, len100, rise_one ri.up _, fun k2 sp2 => ?_⟩
        refine gn ?_
        refine ⟨_, rfl, p, C, dx, _, _, rfl, s2 _ _ ob, T.cl, T.nR, flds_rising _ _, _, rfl, _, rfl, _, rfl, _, rfl, r, _, rfl, SqL.of (s2 _ _ rs), fun q hq => ?_⟩
        exact fin 0 k2 _ q rfl sp2 s2 hq
    | some l =>
      refine ⟨_, rfl, rfl, _, rfl, iteT ?_⟩
      refine ⟨_, rfl, p, C, dx, _, _, rfl, ob, T.cl, T.nR, flds_rising _ _, _, rfl, (by show 1 ≤ sizeLine; decide), fun b1 hb1 => ?_⟩
      have s1 := Same.new (o := .tup [oV (some l)]) hb1
      refine ⟨r, b1, items bs, [l], rfl, s1.seq sq, fun q m => sqT_same s1 (tq q m), SqT.of upd_same, len100, rise_one ri.up _, fun k1 sp1 => ?_⟩
      refine gn ?_
      cases hi with
      | none =>
        refine ⟨_, rfl, rfl, _, rfl, iteF ?_⟩
        refine ⟨_, rfl, p, C, dx, _, _, rfl, s1 _ _ ob, T.cl, T.nR, flds_rising _ _, _, rfl, _, rfl, _, rfl, _, rfl, r, _, rfl, SqL.of (s1 _ _ rs), fun q hq => ?_⟩
        exact fin k1 bs.length _ q sp1 rfl s1 hq
      | some h =>
        refine ⟨_, rfl, rfl, _, rfl, iteT ?_⟩
        refine ⟨_, rfl, p, C, dx, _, _, rfl, s1 _ _ ob, T.cl, T.nR, flds_rising _ _, _, rfl, _, _, rfl, rfl, (by show 1 ≤ sizeLine; decide), fun b2 hb2 => ?_⟩
        have s2 := s1.trans (Same.new (o := .tup [.int (h + 1)]) hb2)
        refine ⟨r, b2, items bs, [h + 1], rfl, s2.seq sq, fun q m => sqT_same s2 (tq q m), SqT.of upd_same, len100, rise_one ri.up _, fun k2 sp2 => ?_⟩
        refine gn ?_
        refine ⟨_, rfl, p, C, dx, _, _, rfl, s2 _ _ ob, T.cl, T.nR, flds_rising _ _, _, rfl, _, rfl, _, rfl, _, rfl, r, _, rfl, SqL.of (s2 _ _ rs), fun q hq => ?_⟩
        exact fin k1 k2 _ q sp1 sp2 s2 hq
end
end G37

set_option linter.all false
set_option maxHeartbeats 1000000
namespace G37
open PySem L2
theorem tyT {K : PySem.W.Frag} {H : Hp} {a : Addr} {xs : List V} (h : SqT K H a xs) : TyX K H (.ref a) (.type "tuple") := by
  rcases h with (h | ⟨o, h⟩) | ⟨o, its, n, h, c, _⟩
  · exact .base (.tup h)
  · exact .fTuple h
  · exact .kTuple h c
theorem tyL {K : PySem.W.Frag} {H : Hp} {a : Addr} {xs : List V} (h : SqL K H a xs) : TyX K H (.ref a) (.type "list") := by
  rcases h with (h | ⟨o, h⟩) | ⟨o, its, n, h, c, _⟩
  · exact .base (.lst h)
  · exact .base (.frz h)
  · exact .kList h c
theorem sif {c : TT} {t e u : TS} {D : Ends} {σ : L2.St} {H : Hp} (h : c σ H fun b H1 => if b = true then t { D with nx := u D } σ H1 else e { D with nx := u D } σ H1) : tSeq (tIfS c t e) u D σ H := h
structure Txt6 (mg : Str → Option Value) : Prop extends Txt mg where
  bool : mg "bool" = none
  str : mg "str" = none
  isinstance : mg "isinstance" = none
/-- two that are alike, n deep: ints, tuples and lists of such -/
def Alk (K : PySem.W.Frag) (H : Hp) : Nat → V → V → Prop
  | 0, v, w => ∃ i : Int, v = .int i ∧ w = .int i
  | n + 1, v, w => ∃ (a b : Addr) (xs ys : List V), v = .ref a ∧ w = .ref b ∧ ((SqT K H a xs ∧ SqT K H b ys) ∨ (SqL K H a xs ∧ SqL K H b ys)) ∧ xs.length ≤ 1000 ∧ Paired (Alk K H n) xs ys
def spAlk (K : PySem.W.Frag) (n : Nat) : Sp := fun vs H Q _ => ∃ v w, vs = [v, w] ∧ Alk K H n v w ∧ Q (.bl true) H
theorem pw_len {α β : Type} {R : α → β → Prop} : ∀ {xs : List α} {ys : List β}, Paired R xs ys → xs.length = ys.length
  | _, _, .nil => rfl
  | _, _, .cons _ r => by rw [List.length_cons, List.length_cons, pw_len r]
theorem pw_get {α β : Type} {R : α → β → Prop} : ∀ {xs : List α} {ys : List β} {i : Nat}, Paired R xs ys → i < xs.length → ∃ x y, xs[i]? = some x ∧ ys[i]? = some y ∧ R x y
  | _, _, 0, .cons h _, _ => ⟨_, _, rfl, rfl, h⟩
  | _, _, i + 1, .cons _ r, l => pw_get (i := i) r (by rw [List.length_cons] at l; omega)
section
variable {P : Program} {w : World} {K : PySem.W.Frag} {mg : Str → Option Value} {base : Heap}
theorem scAl : FnScope ["_law_found", "_law_due", "_law_k"] ["_law_found", "_law_due"] (defScope sAlike) := ⟨rfl, rfl, rfl, by decide +kernel, rfl, by decide +kernel, by decide +kernel⟩
theorem ok_alk {n j : Nat} {f : Addr} {fd : FuncData} (F : Fun K "_law_alike" "_law_alike" sAlike f fd) (T : Txt6 mg) (Calike : ∀ m, n = m + 1 → Cal P w K mg base j "_law_alike" ["_law_found", "_law_due"] (spAlk K m) f fd) : FnOk P w K mg base CX0 (j + 1) f fd ["_law_found", "_law_due"] (spAlk K n) := by
  have kI : PySem.W.kitOne K (.type "int") (.type "int") = some true := by unfold PySem.W.kitOne; rw [if_pos (by decide)]
  have kT : PySem.W.kitOne K (.type "tuple") (.type "tuple") = some true := by unfold PySem.W.kitOne; rw [if_pos (by decide)]
  have kL : PySem.W.kitOne K (.type "list") (.type "list") = some true := by unfold PySem.W.kitOne; rw [if_pos (by decide)]
  have kIb : PySem.W.kitOne K (.type "int") (.type "bool") = some false := by first | rfl | decide +kernel
  have kTb : PySem.W.kitOne K (.type "tuple") (.type "bool") = some false := by first | rfl | decide +kernel
  have kTi : PySem.W.kitOne K (.type "tuple") (.type "int") = some false := by first | rfl | decide +kernel
  have kTs : PySem.W.kitOne K (.type "tuple") (.type "str") = some false := by first | rfl | decide +kernel
  have kTl : PySem.W.kitOne K (.type "tuple") (.type "list") = some false := by first | rfl | decide +kernel
  have kLb : PySem.W.kitOne K (.type "list") (.type "bool") = some false := by first | rfl | decide +kernel
  have kLi : PySem.W.kitOne K (.type "list") (.type "int") = some false := by first | rfl | decide +kernel
  have kLs : PySem.W.kitOne K (.type "list") (.type "str") = some false := by first | rfl | decide +kernel
  have kLt : PySem.W.kitOne K (.type "list") (.type "tuple") = some false := by first | rfl | decide +kernel
  refine F.ok scAl (fun vs H Q E h => ?_) (fun cdv A outer s H vs Q E hr h => ?_)
  · obtain ⟨v, w, rfl, _⟩ := h
    rfl
  · obtain ⟨v, w', rfl, al, k⟩ := h
    have hr1 : Room j _ := hr
    cases n with
    | zero =>
      obtain ⟨i, rfl, rfl⟩ := al
      have dummy : True := trivial
      refine ⟨_, (pss_cons (ps_if (pt_cmpR op_isN (pv 1) pe_non (nomark _)) (pss_one (ps_ret (pe_cmpR op_isN (pv 0) pe_non (nomark _)))) pss_nil)
        (pss_cons (ps_if (pt_val (pe_callB (RK.isi (K := K)) (by rfl) T.isinstance (by decide +kernel) (pa_cons (pv 1) (pa_cons (pe_bltn (v := .ty "bool") (u := .type "bool") (by rfl) T.bool (by decide +kernel) rfl) pa_nil)))) (pss_one (ps_ret (pe_and (pe_callB (RK.isi (K := K)) (by rfl) T.isinstance (by decide +kernel) (pa_cons (pv 0) (pa_cons (pe_bltn (v := .ty "bool") (u := .type "bool") (by rfl) T.bool (by decide +kernel) rfl) pa_nil))) (pe_one (pe_cmpR op_eq (pv 0) (pv 1) (nomark _)))))) pss_nil)
        (pss_cons (ps_if (pt_val (pe_callB (RK.isi (K := K)) (by rfl) T.isinstance (by decide +kernel) (pa_cons (pv 1) (pa_cons (pe_bltn (v := .ty "int") (u := .type "int") (by rfl) T.int (by decide +kernel) rfl) pa_nil)))) (pss_one (ps_ret (pe_and (pe_callB (RK.isi (K := K)) (by rfl) T.isinstance (by decide +kernel) (pa_cons (pv 0) (pa_cons (pe_bltn (v := .ty "int") (u := .type "int") (by rfl) T.int (by decide +kernel) rfl) pa_nil))) (pe_and (pe_not (pe_callB (RK.isi (K := K)) (by rfl) T.isinstance (by decide +kernel) (pa_cons (pv 0) (pa_cons (pe_bltn (v := .ty "bool") (u := .type "bool") (by rfl) T.bool (by decide +kernel) rfl) pa_nil)))) (pe_one (pe_cmpR op_eq (pv 0) (pv 1) (nomark _))))))) pss_nil)
        (pss_cons (ps_if (pt_val (pe_callB (RK.isi (K := K)) (by rfl) T.isinstance (by decide +kernel) (pa_cons (pv 1) (pa_cons (pe_bltn (v := .ty "str") (u := .type "str") (by rfl) T.str (by decide +kernel) rfl) pa_nil)))) (pss_one (ps_ret (pe_and (pe_callB (RK.isi (K := K)) (by rfl) T.isinstance (by decide +kernel) (pa_cons (pv 0) (pa_cons (pe_bltn (v := .ty "str") (u := .type "str") (by rfl) T.str (by decide +kernel) rfl) pa_nil))) (pe_one (pe_cmpR op_eq (pv 0) (pv 1) (nomark _)))))) pss_nil)
        (pss_cons ps_never (pss_cons ps_never (pss_cons ps_never (pss_one ps_never)))))))), ?_⟩
      refine sif ⟨_, rfl, rfl, _, rfl, iteF ?_⟩
      dsimp only [tNext]
      refine sif ⟨_, rfl, _, _, _, _, false, rfl, .ty "bool", .base (.int i), kIb, _, rfl, iteF ?_⟩
      dsimp only [tNext]
      refine sif ⟨_, rfl, _, _, _, _, true, rfl, .ty "int", .base (.int i), kI, _, rfl, iteT ?_⟩
      refine ⟨_, rfl, _, _, _, _, true, rfl, .ty "int", .base (.int i), kI, _, rfl, iteT ?_⟩
      refine ⟨_, rfl, _, _, _, _, false, rfl, .ty "bool", .base (.int i), kIb, _, rfl, _, rfl, iteT ?_⟩
      refine ⟨_, rfl, _, rfl, rfl, ?_⟩
      rw [decide_eq_true rfl]
      exact k
    | succ m =>
      obtain ⟨a, b, xs, ys, rfl, rfl, kind, few, pw⟩ := al
      have Ca := Calike m rfl
      have len := pw_len pw
      rcases kind with ⟨hx, hy⟩ | ⟨hx, hy⟩
      · refine ⟨_, (pss_cons (ps_if (pt_cmpR op_isN (pv 1) pe_non (nomark _)) (pss_one (ps_ret (pe_cmpR op_isN (pv 0) pe_non (nomark _)))) pss_nil)
          (pss_cons (ps_if (pt_val (pe_callB (RK.isi (K := K)) (by rfl) T.isinstance (by decide +kernel) (pa_cons (pv 1) (pa_cons (pe_bltn (v := .ty "bool") (u := .type "bool") (by rfl) T.bool (by decide +kernel) rfl) pa_nil)))) (pss_one (ps_ret (pe_and (pe_callB (RK.isi (K := K)) (by rfl) T.isinstance (by decide +kernel) (pa_cons (pv 0) (pa_cons (pe_bltn (v := .ty "bool") (u := .type "bool") (by rfl) T.bool (by decide +kernel) rfl) pa_nil))) (pe_one (pe_cmpR op_eq (pv 0) (pv 1) (nomark _)))))) pss_nil)
          (pss_cons (ps_if (pt_val (pe_callB (RK.isi (K := K)) (by rfl) T.isinstance (by decide +kernel) (pa_cons (pv 1) (pa_cons (pe_bltn (v := .ty "int") (u := .type "int") (by rfl) T.int (by decide +kernel) rfl) pa_nil)))) (pss_one (ps_ret (pe_and (pe_callB (RK.isi (K := K)) (by rfl) T.isinstance (by decide +kernel) (pa_cons (pv 0) (pa_cons (pe_bltn (v := .ty "int") (u := .type "int") (by rfl) T.int (by decide +kernel) rfl) pa_nil))) (pe_and (pe_not (pe_callB (RK.isi (K := K)) (by rfl) T.isinstance (by decide +kernel) (pa_cons (pv 0) (pa_cons (pe_bltn (v := .ty "bool") (u := .type "bool") (by rfl) T.bool (by decide +kernel) rfl) pa_nil)))) (pe_one (pe_cmpR op_eq (pv 0) (pv 1) (nomark _))))))) pss_nil)
          (pss_cons (ps_if (pt_val (pe_callB (RK.isi (K := K)) (by rfl) T.isinstance (by decide +kernel) (pa_cons (pv 1) (pa_cons (pe_bltn (v := .ty "str") (u := .type "str") (by rfl) T.str (by decide +kernel) rfl) pa_nil)))) (pss_one (ps_ret (pe_and (pe_callB (RK.isi (K := K)) (by rfl) T.isinstance (by decide +kernel) (pa_cons (pv 0) (pa_cons (pe_bltn (v := .ty "str") (u := .type "str") (by rfl) T.str (by decide +kernel) rfl) pa_nil))) (pe_one (pe_cmpR op_eq (pv 0) (pv 1) (nomark _)))))) pss_nil)
          (pss_cons (ps_if (PW.pt (pw_or (pt_cmpR op_ne (pe_callB (RK.isi (K := K)) (by rfl) T.isinstance (by decide +kernel) (pa_cons (pv 1) (pa_cons (pe_bltn (v := .ty "tuple") (u := .type "tuple") (by rfl) T.tuple (by decide +kernel) rfl) pa_nil))) (pe_callB (RK.isi (K := K)) (by rfl) T.isinstance (by decide +kernel) (pa_cons (pv 0) (pa_cons (pe_bltn (v := .ty "tuple") (u := .type "tuple") (by rfl) T.tuple (by decide +kernel) rfl) pa_nil))) (nomark _)) (pw_or1 (pt_cmpR op_ne (pe_callB (RK.isi (K := K)) (by rfl) T.isinstance (by decide +kernel) (pa_cons (pv 1) (pa_cons (pe_bltn (v := .ty "list") (u := .type "list") (by rfl) T.list (by decide +kernel) rfl) pa_nil))) (pe_callB (RK.isi (K := K)) (by rfl) T.isinstance (by decide +kernel) (pa_cons (pv 0) (pa_cons (pe_bltn (v := .ty "list") (u := .type "list") (by rfl) T.list (by decide +kernel) rfl) pa_nil))) (nomark _))))) (pss_one (ps_ret pe_bl)) pss_nil)
          (pss_cons (ps_if (pt_cmpR op_ne (pe_callB (RK.lenQ (K := K)) (by rfl) T.len PySem.boot_len (pa_cons (pv 0) pa_nil)) (pe_callB (RK.lenQ (K := K)) (by rfl) T.len PySem.boot_len (pa_cons (pv 1) pa_nil)) (nomark _)) (pss_one (ps_ret pe_bl)) pss_nil)
          (pss_cons (ps_for PassesOwn.never rfl (pi_range1 rfl T.range (pa_cons (pe_callB (RK.lenQ (K := K)) (by rfl) T.len PySem.boot_len (pa_cons (pv 1) pa_nil)) pa_nil)) (pg_name (i := 2) scAl.nd rfl (Or.inl rfl))
            (pss_one (ps_if (pt_not (pt_val (pe_call Ca.G hr1 (by rfl) Ca.g Ca.kp Ca.b .nil pass0 (pa_cons (pe_ix (RK.ixQ (K := K)) (pv 0) (pv 2) (fun _ _ => rfl)) (pa_cons (pe_ix (RK.ixQ (K := K)) (pv 1) (pv 2) (fun _ _ => rfl)) pa_nil))))) (pss_one (ps_ret pe_bl)) pss_nil)))
          (pss_one (ps_ret pe_bl))))))))), ?_⟩
        refine sif ⟨_, rfl, rfl, _, rfl, iteF ?_⟩
        dsimp only [tNext]
        refine sif ⟨_, rfl, _, _, _, _, false, rfl, .ty "bool", tyT hy, kTb, _, rfl, iteF ?_⟩
        dsimp only [tNext]
        refine sif ⟨_, rfl, _, _, _, _, false, rfl, .ty "int", tyT hy, kTi, _, rfl, iteF ?_⟩
        dsimp only [tNext]
        refine sif ⟨_, rfl, _, _, _, _, false, rfl, .ty "str", tyT hy, kTs, _, rfl, iteF ?_⟩
        dsimp only [tNext]
        refine sif ⟨_, rfl, _, _, _, _, true, rfl, .ty "tuple", tyT hy, kT, _, rfl, _, _, _, _, true, rfl, .ty "tuple", tyT hx, kT, rfl, _, rfl, iteF ?_⟩
        refine ⟨_, rfl, _, _, _, _, false, rfl, .ty "list", tyT hy, kTl, _, rfl, _, _, _, _, false, rfl, .ty "list", tyT hx, kTl, rfl, _, rfl, iteF ?_⟩
        dsimp only [tNext]
        refine sif ⟨_, rfl, a, xs, rfl, .inr hx, _, rfl, b, ys, rfl, .inr hy, rfl, _, rfl, ?_⟩
        rw [len, show (!decide (V.int (ys.length : Nat) = V.int (ys.length : Nat))) = false by simp]
        refine iteF ?_
        dsimp only [tNext]
        refine ⟨_, rfl, b, ys, rfl, .inr hy, _, rfl, ?_, ?_, for_range (lo := 0) (n := ((ys.length : Nat) : Int).toNat) (fun i σ H' => H' = H ∧ ∃ v2, σ = [some (.ref a), some (.ref b), v2]) ⟨rfl, none, rfl⟩ ?_ ?_⟩
        · omega
        · omega
        · rintro i σ H' hi ⟨rfl, v2, rfl⟩
          have li : i < xs.length := by have hi : i < ys.length := hi; omega
          obtain ⟨x, y, ex, ey, al⟩ := pw_get pw li
          have z0 : (0 : Int) + ((i : Nat) : Int) = ((i : Nat) : Int) := by omega
          refine gn ?_
          refine ⟨_, rfl, _, rfl, .inr (.inl ⟨a, xs, _, x, rfl, rfl, hx, by rw [z0]; exact atI_nat ex, _, rfl, _, rfl, .inr (.inl ⟨b, ys, _, y, rfl, rfl, hy, by rw [z0]; exact atI_nat ey, x, y, rfl, al, _, rfl, iteF ⟨rfl, _, rfl⟩⟩)⟩)⟩
        · rintro σ H' ⟨rfl, v2, rfl⟩
          exact k
      · refine ⟨_, (pss_cons (ps_if (pt_cmpR op_isN (pv 1) pe_non (nomark _)) (pss_one (ps_ret (pe_cmpR op_isN (pv 0) pe_non (nomark _)))) pss_nil)
          (pss_cons (ps_if (pt_val (pe_callB (RK.isi (K := K)) (by rfl) T.isinstance (by decide +kernel) (pa_cons (pv 1) (pa_cons (pe_bltn (v := .ty "bool") (u := .type "bool") (by rfl) T.bool (by decide +kernel) rfl) pa_nil)))) (pss_one (ps_ret (pe_and (pe_callB (RK.isi (K := K)) (by rfl) T.isinstance (by decide +kernel) (pa_cons (pv 0) (pa_cons (pe_bltn (v := .ty "bool") (u := .type "bool") (by rfl) T.bool (by decide +kernel) rfl) pa_nil))) (pe_one (pe_cmpR op_eq (pv 0) (pv 1) (nomark _)))))) pss_nil)
          (pss_cons (ps_if (pt_val (pe_callB (RK.isi (K := K)) (by rfl) T.isinstance (by decide +kernel) (pa_cons (pv 1) (pa_cons (pe_bltn (v := .ty "int") (u := .type "int") (by rfl) T.int (by decide +kernel) rfl) pa_nil)))) (pss_one (ps_ret (pe_and (pe_callB (RK.isi (K := K)) (by rfl) T.isinstance (by decide +kernel) (pa_cons (pv 0) (pa_cons (pe_bltn (v := .ty "int") (u := .type "int") (by rfl) T.int (by decide +kernel) rfl) pa_nil))) (pe_and (pe_not (pe_callB (RK.isi (K := K)) (by rfl) T.isinstance (by decide +kernel) (pa_cons (pv 0) (pa_cons (pe_bltn (v := .ty "bool") (u := .type "bool") (by rfl) T.bool (by decide +kernel) rfl) pa_nil)))) (pe_one (pe_cmpR op_eq (pv 0) (pv 1) (nomark _))))))) pss_nil)
          (pss_cons (ps_if (pt_val (pe_callB (RK.isi (K := K)) (by rfl) T.isinstance (by decide +kernel) (pa_cons (pv 1) (pa_cons (pe_bltn (v := .ty "str") (u := .type "str") (by rfl) T.str (by decide +kernel) rfl) pa_nil)))) (pss_one (ps_ret (pe_and (pe_callB (RK.isi (K := K)) (by rfl) T.isinstance (by decide +kernel) (pa_cons (pv 0) (pa_cons (pe_bltn (v := .ty "str") (u := .type "str") (by rfl) T.str (by decide +kernel) rfl) pa_nil))) (pe_one (pe_cmpR op_eq (pv 0) (pv 1) (nomark _)))))) pss_nil)
          (pss_cons (ps_if (PW.pt (pw_or (pt_cmpR op_ne (pe_callB (RK.isi (K := K)) (by rfl) T.isinstance (by decide +kernel) (pa_cons (pv 1) (pa_cons (pe_bltn (v := .ty "tuple") (u := .type "tuple") (by rfl) T.tuple (by decide +kernel) rfl) pa_nil))) (pe_callB (RK.isi (K := K)) (by rfl) T.isinstance (by decide +kernel) (pa_cons (pv 0) (pa_cons (pe_bltn (v := .ty "tuple") (u := .type "tuple") (by rfl) T.tuple (by decide +kernel) rfl) pa_nil))) (nomark _)) (pw_or1 (pt_cmpR op_ne (pe_callB (RK.isi (K := K)) (by rfl) T.isinstance (by decide +kernel) (pa_cons (pv 1) (pa_cons (pe_bltn (v := .ty "list") (u := .type "list") (by rfl) T.list (by decide +kernel) rfl) pa_nil))) (pe_callB (RK.isi (K := K)) (by rfl) T.isinstance (by decide +kernel) (pa_cons (pv 0) (pa_cons (pe_bltn (v := .ty "list") (u := .type "list") (by rfl) T.list (by decide +kernel) rfl) pa_nil))) (nomark _))))) (pss_one (ps_ret pe_bl)) pss_nil)
          (pss_cons (ps_if (pt_cmpR op_ne (pe_callB (RK.lenQ (K := K)) (by rfl) T.len PySem.boot_len (pa_cons (pv 0) pa_nil)) (pe_callB (RK.lenQ (K := K)) (by rfl) T.len PySem.boot_len (pa_cons (pv 1) pa_nil)) (nomark _)) (pss_one (ps_ret pe_bl)) pss_nil)
          (pss_cons (ps_for PassesOwn.never rfl (pi_range1 rfl T.range (pa_cons (pe_callB (RK.lenQ (K := K)) (by rfl) T.len PySem.boot_len (pa_cons (pv 1) pa_nil)) pa_nil)) (pg_name (i := 2) scAl.nd rfl (Or.inl rfl))
            (pss_one (ps_if (pt_not (pt_val (pe_call Ca.G hr1 (by rfl) Ca.g Ca.kp Ca.b .nil pass0 (pa_cons (pe_ix (RK.ixQ (K := K)) (pv 0) (pv 2) (fun _ _ => rfl)) (pa_cons (pe_ix (RK.ixQ (K := K)) (pv 1) (pv 2) (fun _ _ => rfl)) pa_nil))))) (pss_one (ps_ret pe_bl)) pss_nil)))
          (pss_one (ps_ret pe_bl))))))))), ?_⟩
        refine sif ⟨_, rfl, rfl, _, rfl, iteF ?_⟩
        dsimp only [tNext]
        refine sif ⟨_, rfl, _, _, _, _, false, rfl, .ty "bool", tyL hy, kLb, _, rfl, iteF ?_⟩
        dsimp only [tNext]
        refine sif ⟨_, rfl, _, _, _, _, false, rfl, .ty "int", tyL hy, kLi, _, rfl, iteF ?_⟩
        dsimp only [tNext]
        refine sif ⟨_, rfl, _, _, _, _, false, rfl, .ty "str", tyL hy, kLs, _, rfl, iteF ?_⟩
        dsimp only [tNext]
        refine sif ⟨_, rfl, _, _, _, _, false, rfl, .ty "tuple", tyL hy, kLt, _, rfl, _, _, _, _, false, rfl, .ty "tuple", tyL hx, kLt, rfl, _, rfl, iteF ?_⟩
        refine ⟨_, rfl, _, _, _, _, true, rfl, .ty "list", tyL hy, kL, _, rfl, _, _, _, _, true, rfl, .ty "list", tyL hx, kL, rfl, _, rfl, iteF ?_⟩
        dsimp only [tNext]
        refine sif ⟨_, rfl, a, xs, rfl, .inl hx, _, rfl, b, ys, rfl, .inl hy, rfl, _, rfl, ?_⟩
        rw [len, show (!decide (V.int (ys.length : Nat) = V.int (ys.length : Nat))) = false by simp]
        refine iteF ?_
        dsimp only [tNext]
        refine ⟨_, rfl, b, ys, rfl, .inl hy, _, rfl, ?_, ?_, for_range (lo := 0) (n := ((ys.length : Nat) : Int).toNat) (fun i σ H' => H' = H ∧ ∃ v2, σ = [some (.ref a), some (.ref b), v2]) ⟨rfl, none, rfl⟩ ?_ ?_⟩
        · omega
        · omega
        · rintro i σ H' hi ⟨rfl, v2, rfl⟩
          have li : i < xs.length := by have hi : i < ys.length := hi; omega
          obtain ⟨x, y, ex, ey, al⟩ := pw_get pw li
          have z0 : (0 : Int) + ((i : Nat) : Int) = ((i : Nat) : Int) := by omega
          refine gn ?_
          refine ⟨_, rfl, _, rfl, .inl ⟨a, xs, _, x, rfl, rfl, hx, by rw [z0]; exact atI_nat ex, _, rfl, _, rfl, .inl ⟨b, ys, _, y, rfl, rfl, hy, by rw [z0]; exact atI_nat ey, x, y, rfl, al, _, rfl, iteF ⟨rfl, _, rfl⟩⟩⟩⟩
        · rintro σ H' ⟨rfl, v2, rfl⟩
          exact k
end
end G37

set_option linter.all false
set_option maxHeartbeats 1000000
namespace G37
open PySem L2
/-! ### pure -/
theorem sorted_eq : ∀ (l m : List P2), l.Pairwise plt → m.Pairwise plt → (∀ x, x ∈ l ↔ x ∈ m) → l = m
  | [], [], _, _, _ => rfl
  | [], y :: m, _, _, h => by have z := (h y).mpr List.mem_cons_self; cases z
  | x :: l, [], _, _, h => by have z := (h x).mp List.mem_cons_self; cases z
  | x :: l, y :: m, h1, h2, h => by
    obtain ⟨a1, a2⟩ := List.pairwise_cons.mp h1
    obtain ⟨b1, b2⟩ := List.pairwise_cons.mp h2
    have e : x = y := by
      by_cases e : x = y
      · exact e
      · have m1 : x ∈ m := (List.mem_cons.mp ((h x).mp List.mem_cons_self)).elim (fun z => absurd z e) id
        have m2 : y ∈ l := (List.mem_cons.mp ((h y).mpr List.mem_cons_self)).elim (fun z => absurd z.symm e) id
        exact absurd (plt_trans (a1 y m2) (b1 x m1)) plt_irr
    subst e
    rw [sorted_eq l m a2 b2 fun z => ?_]
    constructor
    · intro mz
      exact (List.mem_cons.mp ((h z).mp (List.mem_cons_of_mem _ mz))).elim (fun e => by subst e; exact absurd (a1 _ mz) plt_irr) id
    · intro mz
      exact (List.mem_cons.mp ((h z).mpr (List.mem_cons_of_mem _ mz))).elim (fun e => by subst e; exact absurd (b1 _ mz) plt_irr) id
abbrev ksOf (q : Addr × P2) : Addr × List Int := (q.1, li q.2)
theorem as_pairs : ∀ L : List (Addr × List Int), (∀ q ∈ L, ∃ p : Addr × P2, q = ksOf p) → ∃ bs : List (Addr × P2), L = bs.map ksOf
  | [], _ => ⟨[], rfl⟩
  | q :: L, h => by
    obtain ⟨p, rfl⟩ := h q List.mem_cons_self
    obtain ⟨bs, rfl⟩ := as_pairs L fun x m => h x (List.mem_cons_of_mem _ m)
    exact ⟨p :: bs, rfl⟩
theorem pri (x : P2) : IT.prI (li x) = x := rfl
/-- what is sorted is what rises -/
theorem sorted_is {bs : List (Addr × P2)} (nd : ((bs.map ksOf).map Prod.snd).Nodup) (pw : (bs.map ksOf).Pairwise fun q r => SrtO.lexB (IT.prI r.2) (IT.prI q.2) = false) : (bs.map (·.2)).Pairwise plt := by
  rw [List.map_map] at nd
  have nd2 : (bs.map (·.2)).Nodup := by
    have e : bs.map (Prod.snd ∘ ksOf) = (bs.map (·.2)).map li := by rw [List.map_map]; rfl
    rw [e] at nd
    exact List.Pairwise.imp (fun h z => h (congrArg li z)) (List.pairwise_map.mp nd)
  have nd3 := List.pairwise_map.mp nd2
  rw [List.pairwise_map] at pw ⊢
  refine (pw.and nd3).imp fun {q r} h => ?_
  obtain ⟨h1, h2⟩ := h
  have h1 : SrtO.lexB r.2 q.2 = false := h1
  rw [SrtO.lexB_no] at h1
  exact plt_tri h1 (fun e => h2 e.symm)
theorem alk_pairs {K : PySem.W.Frag} {H : Hp} : ∀ (cs ds : List (Addr × P2)), cs.map (·.2) = ds.map (·.2) → (∀ c ∈ cs, H c.1 = some (tup2 c.2)) → (∀ c ∈ ds, H c.1 = some (tup2 c.2)) → Paired (Alk K H 1) (cs.map fun c => V.ref c.1) (ds.map fun c => V.ref c.1)
  | [], [], _, _, _ => .nil
  | [], d :: ds, e, _, _ => by cases e
  | c :: cs, [], e, _, _ => by cases e
  | c :: cs, d :: ds, e, h1, h2 => by
    injection e with e1 e2
    have e1 : c.2 = d.2 := e1
    have a := h1 c List.mem_cons_self
    have b := h2 d List.mem_cons_self
    rw [← e1] at b
    exact .cons ⟨c.1, d.1, _, _, rfl, rfl, .inl ⟨SqT.of a, SqT.of b⟩, (by show 2 ≤ 1000; decide), .cons ⟨_, rfl, rfl⟩ (.cons ⟨_, rfl, rfl⟩ .nil)⟩ (alk_pairs cs ds e2 (fun x m => h1 x (List.mem_cons_of_mem _ m)) fun x m => h2 x (List.mem_cons_of_mem _ m))
def prD (x : Addr × P2) : PyData := .tuple [.int x.2.1, .int x.2.2]
theorem pr_dp {K : PySem.W.Frag} {H : Hp} : ∀ (as : List (Addr × P2)), (∀ q ∈ as, H q.1 = some (tup2 q.2)) → DpAll K H (as.map fun q => V.ref q.1) (as.map prD)
  | [], _ => .nil
  | q :: as, h => .cons (.tup (SqT.of (h q List.mem_cons_self)) (.cons (.int _) (.cons (.int _) .nil))) (pr_dp as fun x m => h x (List.mem_cons_of_mem _ m))
theorem pr_lay : ∀ as : List (Addr × P2), PyData.canLayAll0 (as.map prD) = true ∧ PyData.depthAll (as.map prD) ≤ 2
  | [] => by simp [PyData.canLayAll0, PyData.depthAll]
  | q :: r => by
    obtain ⟨h1, h2⟩ := pr_lay r
    refine ⟨by simp [PyData.canLayAll0, PyData.canLay0, prD, h1], ?_⟩
    simp only [List.map_cons, PyData.depthAll, PyData.depth, prD]
    omega
theorem pr_shaped (as : List (Addr × P2)) : SeqAt.shaped (.list (as.map prD)) = true := by
  obtain ⟨h1, h2⟩ := pr_lay as
  show (PyData.canLay0 (.list (as.map prD)) && decide (PyData.depth (.list (as.map prD)) ≤ 64)) = true
  rw [Bool.and_eq_true]
  refine ⟨by simp only [PyData.canLay0]; exact h1, decide_eq_true ?_⟩
  simp only [PyData.depth]
  omega
/-! ### the state of the law -/
theorem BoxAt.of {a b : Addr} {H H' : Hp} (h : BoxAt H a b) (k : ∀ o, H a = some o → H' a = some o) (k2 : ∀ o, H b = some o → H' b = some o) : BoxAt H' a b := by
  obtain ⟨z, cs, h1, h2, h3⟩ := h
  exact ⟨z, cs, k _ h1, k2 _ h2, h3⟩
theorem IxAt.of {C : Addr} {H H' : Hp} {p d r : Addr} {ps : List P2} (h : IxAt C H p d r ps) (k : ∀ x o, H x = some o → (∀ xs, o = .lst xs → x = r) → H' x = some o) : IxAt C H' p d r ps := by
  obtain ⟨⟨dx, ob⟩, ⟨kvs, h1, h2⟩, bs, h3, h4⟩ := h
  exact ⟨⟨dx, k _ _ ob (fun _ z => nomatch z)⟩, ⟨kvs, k _ _ h1 (fun _ z => nomatch z), h2⟩, bs, k _ _ h3 (fun _ _ => rfl), fun q m => k _ _ (h4.tup q m) (fun _ z => nomatch z), h4.up, h4.mem⟩
structure Ctx (C a b p d r l : Addr) (H : Hp) (as : List (Addr × P2)) (ps : List P2) : Prop where
  bx : BoxAt H a b
  ix : IxAt C H p d r ps
  ls : H l = some (.lst (as.map fun q => V.ref q.1))
  tp : ∀ q ∈ as, H q.1 = some (tup2 q.2)
  n1 : a ≠ l
  n2 : b ≠ l
  n3 : a ≠ r
  n4 : b ≠ r
  n5 : l ≠ r
section
variable {C a b p d r l : Addr} {H H' : Hp} {as : List (Addr × P2)} {ps : List P2}
theorem Ctx.same (c : Ctx C a b p d r l H as ps) (s : Same H H') : Ctx C a b p d r l H' as ps :=
  ⟨c.bx.of (s _) (s _), c.ix.same s, s _ _ c.ls, fun q m => s _ _ (c.tp q m), c.n1, c.n2, c.n3, c.n4, c.n5⟩
theorem Ctx.a_lst (c : Ctx C a b p d r l H as ps) : ∃ xs, H a = some (.lst xs) := let ⟨_, _, h, _⟩ := c.bx; ⟨_, h⟩
theorem Ctx.b_lst (c : Ctx C a b p d r l H as ps) : ∃ xs, H b = some (.lst xs) := let ⟨_, _, _, h, _⟩ := c.bx; ⟨_, h⟩
theorem Ctx.r_lst (c : Ctx C a b p d r l H as ps) : ∃ xs, H r = some (.lst xs) := let ⟨_, h, _⟩ := c.ix.rs; ⟨_, h⟩
theorem Ctx.d_dct (c : Ctx C a b p d r l H as ps) : ∃ xs, H d = some (.dT xs) := let ⟨_, h, _⟩ := c.ix.dc; ⟨_, h⟩
theorem Ctx.take (c : Ctx C a b p d r l H as ps) (bx : BoxAt H' a b) (k : Keep a b H H') : Ctx C a b p d r l H' as ps := by
  obtain ⟨xa, ha⟩ := c.a_lst
  obtain ⟨xb, hb⟩ := c.b_lst
  refine ⟨bx, c.ix.of fun x o e z => k x o (fun ea => ?_) (fun eb => ?_) e, k _ _ (Ne.symm c.n1) (Ne.symm c.n2) c.ls, fun q m => k _ _ (fun e => ?_) (fun e => ?_) (c.tp q m), c.n1, c.n2, c.n3, c.n4, c.n5⟩
  · subst ea
    rw [ha] at e
    exact c.n3 (z xa (Option.some.inj e).symm)
  · subst eb
    rw [hb] at e
    exact c.n4 (z xb (Option.some.inj e).symm)
  · have := c.tp q m
    rw [e, ha] at this
    cases this
  · have := c.tp q m
    rw [e, hb] at this
    cases this
theorem Ctx.kix (c : Ctx C a b p d r l H as ps) {qs : List P2} (k : KIx d r H H') (ix : IxAt C H' p d r qs) : Ctx C a b p d r l H' as qs := by
  obtain ⟨xa, ha⟩ := c.a_lst
  obtain ⟨xb, hb⟩ := c.b_lst
  obtain ⟨xd, hd⟩ := c.d_dct
  obtain ⟨xr, hr⟩ := c.r_lst
  refine ⟨c.bx.of (fun o e => k _ _ (ne_of ha hd (by intro z; cases z)) c.n3 e) (fun o e => k _ _ (ne_of hb hd (by intro z; cases z)) c.n4 e), ix, k _ _ (ne_of c.ls hd (by intro z; cases z)) c.n5 c.ls, fun q m => ?_, c.n1, c.n2, c.n3, c.n4, c.n5⟩
  exact k _ _ (ne_of (c.tp q m) hd (by intro z; cases z)) (ne_of (c.tp q m) hr (by intro z; cases z)) (c.tp q m)
/-- the list at l is written anew -/
theorem Ctx.put (c : Ctx C a b p d r l H as ps) {bs : List (Addr × P2)} (h : ∀ q ∈ bs, H q.1 = some (tup2 q.2)) : Ctx C a b p d r l (upd H l (.lst (bs.map fun q => V.ref q.1))) bs ps := by
  refine ⟨c.bx.of (fun o e => by rw [upd_ne c.n1]; exact e) (fun o e => by rw [upd_ne c.n2]; exact e), c.ix.of fun x o e z => ?_, upd_same, fun q m => by rw [upd_ne (ne_of (h q m) c.ls (by intro z; cases z))]; exact h q m, c.n1, c.n2, c.n3, c.n4, c.n5⟩
  rw [upd_ne]
  · exact e
  · intro ex
    subst ex
    rw [c.ls] at e
    exact c.n5 (z _ (Option.some.inj e).symm)
theorem Ctx.perm (c : Ctx C a b p d r l H as ps) {qs : List P2} (h : ps.Perm qs) : Ctx C a b p d r l H as qs := { c with ix := c.ix.perm h }
end
theorem perm_app (as : List (Addr × P2)) (q : Addr × P2) : (q.2 :: as.map (·.2)).Perm ((as ++ [q]).map (·.2)) := by
  rw [List.map_append]
  exact (List.perm_append_singleton q.2 (as.map (·.2))).symm
theorem perm_pop {as : List (Addr × P2)} {k : Nat} {q : Addr × P2} (h : as[k]? = some q) : ((as.map (·.2)).erase q.2).Perm ((as.eraseIdx k).map (·.2)) := by
  have l : k < as.length := (List.getElem?_eq_some_iff.mp h).1
  have e : as[k] = q := (List.getElem?_eq_some_iff.mp h).2
  have m : q.2 ∈ as.map (·.2) := List.mem_map_of_mem (List.mem_of_getElem? h)
  have p1 : (as.map (·.2)).Perm (q.2 :: (as.map (·.2)).erase q.2) := List.perm_cons_erase m
  have p2 : (q :: as.eraseIdx k).Perm as := by
    rw [List.eraseIdx_eq_take_drop_succ]
    have cut : as.take k ++ q :: as.drop (k + 1) = as := by rw [← e, List.getElem_cons_drop, List.take_append_drop]
    conv => rhs; rw [← cut]
    exact List.perm_middle.symm
  have p3 : (q.2 :: (as.eraseIdx k).map (·.2)).Perm (as.map (·.2)) := p2.map Prod.snd
  exact ((p3.trans p1).symm).cons_inv
/-- which pairs a bound lets in -/
def inbB (lo hi : Option Int) (x : P2) : Bool := (match lo with | none => true | some l => decide (l ≤ x.1)) && (match hi with | none => true | some h => decide (x.1 ≤ h))
theorem inbB_iff {lo hi : Option Int} {x : P2} : inbB lo hi x = true ↔ inb lo hi x := by
  unfold inbB inb
  cases lo <;> cases hi <;> simp
end G37

set_option linter.all false
set_option maxHeartbeats 4000000
namespace G37
open PySem L2
structure TxtL (K : PySem.W.Frag) (mg : Str → Option Value) (C : Addr) : Prop extends TxtX K mg C where
  set : mg "set" = none
  sorted : mg "sorted" = none
  mgC : mg "Index" = some (.ref C)
section
variable {K : PySem.W.Frag}
theorem op1 {r : R2} {ta : TE} {y : V} {σ : L2.St} {H : Hp} {Q : VK} (h : ta σ H fun x H1 => r x y H1 Q) : tOp r ta (tC y) σ H Q := h
theorem par1 {i j : Nat} {ta tb : TE} {u : TS} {D : Ends} {σ : L2.St} {H : Hp} (h : ta σ H fun x H1 => tb σ H1 fun y H2 => ∃ v w, [x, y] = [v, w] ∧ u D ((σ.set i (some v)).set j (some w)) H2) : tSeq (tPar i j (tCons ta (tCons tb tNil))) u D σ H := h
theorem rg1 {te : TE} {g : TG} {tb u : TS} {D : Ends} {σ : L2.St} {H : Hp} (h : te σ H fun x H1 => ∃ j : Int, [x] = [V.int j] ∧ -(2 ^ 62) ≤ j ∧ j < 2 ^ 62 ∧ (tFor (fun _ H R => R (Itr 0 j.toNat) H) g tb) { D with nx := u D } σ H1) : tSeq (tFor (iRng1 (tCons te tNil)) g tb) u D σ H := h
theorem sifR {c : TT} {t e u : TS} {D : Ends} {σ : L2.St} {H : Hp} (R : L2.St → Hp → Prop) (h1 : ∀ σ' H', R σ' H' → u D σ' H') (h : (∀ σ' H', R σ' H' → u D σ' H') → c σ H fun b H1 => if b = true then t { D with nx := u D } σ H1 else e { D with nx := u D } σ H1) : tSeq (tIfS c t e) u D σ H := h h1
theorem tk {a b : Addr} {n : Int} {σ : L2.St} {H : Hp} {Q : VK} (hσ : σ[1]? = some (some (.ref a))) (bx : BoxAt H a b) (h0 : 0 < n) (h1 : n < 1000000) (k : ∀ r H', 0 ≤ r → r < n → BoxAt H' a b → Keep a b H H' → Q (.int r) H') :
    tCall (spTake K) [] E0 (tCons (tVar 1) (tCons (tC (.int n)) tNil)) σ H Q := ⟨_, hσ, a, b, n, rfl, h0, h1, bx, k⟩
theorem pick {a b : Addr} {u v : Int} {σ : L2.St} {H : Hp} {Q : VK} (hσ : σ[1]? = some (some (.ref a))) (bx : BoxAt H a b) (hu : 0 < u ∧ u < 1000000) (hv : 0 < v ∧ v < 1000000) (k : ∀ r H', 0 ≤ r → (r < u ∨ r < v) → BoxAt H' a b → Keep a b H H' → Q (.int r) H') :
    tCall (spTake K) [] E0 (tCons (tVar 1) (tCons (tOp (rIxL K) (tLst (tCons (tC (.int u)) (tCons (tC (.int v)) tNil))) (tCall (spTake K) [] E0 (tCons (tVar 1) (tCons (tC (.int 2)) tNil)))) tNil)) σ H Q := by
  refine ⟨_, hσ, (by show 2 ≤ sizeLine; decide), fun q hq => ?_⟩
  have s1 := Same.new (o := .lst [V.int u, V.int v]) hq
  obtain ⟨z, cs, ha, hb, _⟩ := id bx
  refine tk hσ (bx.of (s1 _) (s1 _)) (by decide) (by decide) fun r H1 r0 r1 bx1 k1 => ?_
  have e1 : H1 q = some (.lst [V.int u, V.int v]) := k1 _ _ (Ne.symm (ne_of_none ha hq)) (Ne.symm (ne_of_none hb hq)) upd_same
  have k2 : Keep a b H H1 := (Keep.same s1).trans k1
  rcases (show r = 0 ∨ r = 1 by omega) with rfl | rfl
  · exact ⟨q, _, 0, _, rfl, rfl, SqL.of e1, at0, a, b, u, rfl, hu.1, hu.2, bx1, fun r' H' h0 h1 b2 k3 => k r' H' h0 (.inl h1) b2 (k2.trans k3)⟩
  · exact ⟨q, _, 1, _, rfl, rfl, SqL.of e1, atI_nat (j := 1) rfl, a, b, v, rfl, hv.1, hv.2, bx1, fun r' H' h0 h1 b2 k3 => k r' H' h0 (.inr h1) b2 (k2.trans k3)⟩
theorem tst {C a b p d r l : Addr} {as : List (Addr × P2)} {ps : List P2} {σ : L2.St} {H : Hp} {Q : Bool → Hp → Prop} (h1 : σ[1]? = some (some (.ref a))) (h3 : σ[3]? = some (some (.ref l))) (c : Ctx C a b p d r l H as ps)
    (k : ∀ x H', (x = true → as ≠ []) → Ctx C a b p d r l H' as ps → Q x H') :
    tAnd (tTest (tOp (rNeD K) (tVar 3) (tLst tNil))) (tTest (tOp rEq (tCall (spTake K) [] E0 (tCons (tVar 1) (tCons (tC (.int 3)) tNil))) (tC (.int 0)))) σ H Q := by
  refine ⟨_, h3, (by show 0 ≤ sizeLine; decide), fun e he => ?_⟩
  have c1 := c.same (Same.new (o := .lst []) he)
  refine ⟨_, _, .lst (SqL.of c1.ls) (pr_dp as c1.tp), .lst (SqL.of upd_same) .nil, pr_shaped as, rfl, _, rfl, ?_⟩
  rw [eqv_nil]
  cases as with
  | nil => exact iteF (k false _ (fun z => by cases z) c1)
  | cons q as =>
    refine iteT ?_
    refine tk h1 c1.bx (by decide) (by decide) fun r' H1 _ _ bx1 k1 => ?_
    exact ⟨rfl, _, rfl, k _ _ (fun _ z => by cases z) (c1.take bx1 k1)⟩
def hiB (hi : Option Int) (x : P2) : Bool := match hi with
  | none => true
  | some h => decide (x.1 ≤ h)
theorem inbB_none {hi : Option Int} {x : P2} : inbB none hi x = hiB hi x := by cases hi <;> rfl
theorem inbB_some {l : Int} {hi : Option Int} {x : P2} : inbB (some l) hi x = (decide (l ≤ x.1) && hiB hi x) := by cases hi <;> rfl
theorem tstB {lo hi : Option Int} {q : Addr × P2} {σ : L2.St} {H : Hp} {Q : Bool → Hp → Prop} (h9 : σ[9]? = some (some (oV lo))) (h10 : σ[10]? = some (some (oV hi))) (h12 : σ[12]? = some (some (.ref q.1))) (ht : H q.1 = some (tup2 q.2)) (k : Q (inbB lo hi q.2) H) :
    tAnd (tOr (tTest (tOp (fun x y H Q => y = .non ∧ Q (.bl (decide (x = .non))) H) (tVar 9) (tC .non))) (tTest (tOp (rI0 fun i j => .bl (decide (i ≤ j))) (tVar 9) (tOp (rIxT K) (tVar 12) (tC (.int 0))))))
      (tOr (tTest (tOp (fun x y H Q => y = .non ∧ Q (.bl (decide (x = .non))) H) (tVar 10) (tC .non))) (tTest (tOp (rI0 fun i j => .bl (decide (i ≤ j))) (tOp (rIxT K) (tVar 12) (tC (.int 0))) (tVar 10)))) σ H Q := by
  have second : ∀ Q : Bool → Hp → Prop, Q (hiB hi q.2) H → tOr (tTest (tOp (fun x y H Q => y = .non ∧ Q (.bl (decide (x = .non))) H) (tVar 10) (tC .non))) (tTest (tOp (rI0 fun i j => .bl (decide (i ≤ j))) (tOp (rIxT K) (tVar 12) (tC (.int 0))) (tVar 10))) σ H Q := by
    intro Q k
    cases hi with
    | none => exact ⟨_, h10, rfl, _, rfl, iteT k⟩
    | some h => exact ⟨_, h10, rfl, _, rfl, iteF ⟨_, h12, q.1, _, 0, _, rfl, rfl, SqT.of ht, at0, _, h10, _, _, rfl, rfl, _, rfl, k⟩⟩
  cases lo with
  | none =>
    rw [inbB_none] at k
    exact ⟨_, h9, rfl, _, rfl, iteT (iteT (second Q k))⟩
  | some l =>
    refine ⟨_, h9, rfl, _, rfl, iteF ⟨_, h9, _, h12, q.1, _, 0, _, rfl, rfl, SqT.of ht, at0, _, _, rfl, rfl, _, rfl, ?_⟩⟩
    rw [inbB_some] at k
    by_cases c : l ≤ q.2.1
    · rw [decide_eq_true c]
      rw [decide_eq_true c, Bool.true_and] at k
      exact iteT (second Q k)
    · rw [decide_eq_false c]
      refine iteF ?_
      rw [decide_eq_false c, Bool.false_and] at k
      exact k
end
section
variable {P : Program} {w : World} {K : PySem.W.Frag} {mg : Str → Option Value} {base : Heap}
def spLaw (K : PySem.W.Frag) : Sp := fun vs H Q _ => ∃ (a : Addr) (ns : List Int), vs = [.ref a] ∧ SqL K H a (ns.map V.int) ∧ ns.length ≤ 63 ∧ ∀ H', Q (.bl true) H'
theorem scLw : FnScope ["_law_script", "_law_box", "_law_index", "_law_pairs", "_law_turn", "_law_worth", "_law_mark", "_law_low", "_law_high", "_law_one", "_law_other", "_law_some", "_law_pair", "_law_found"] ["_law_script"] (defScope sLaw) := ⟨rfl, rfl, rfl, by decide +kernel, rfl, by decide +kernel, by decide +kernel⟩
theorem ok_law {f C fI fA fL fB fb ft fk : Addr} {fd fdI fdA fdL fdB fdb fdt fdk : FuncData} (F : Fun K "law" "law" sLaw f fd) (T : TxtL K mg C) (M : Mk K C fI) (GI : FnOk P w K mg base CX0 1 fI fdI ["self"] (spInit C)) (bI : Binds K fdI ["self"] [])
    (Madd : Meth K C "add" fA) (Gadd : FnOk P w K mg base CX0 2 fA fdA ["self", "worth", "key"] (spAdd C)) (Badd : Binds K fdA ["self", "worth", "key"] [])
    (Mlose : Meth K C "lose" fL) (Glose : FnOk P w K mg base CX0 2 fL fdL ["self", "worth", "key"] (spLose C)) (Blose : Binds K fdL ["self", "worth", "key"] [])
    (Mbetween : Meth K C "between" fB) (Gbetween : FnOk P w K mg base CX0 2 fB fdB ["self", "low", "high"] (spBetween C)) (Bbetween : Binds K fdB ["self", "low", "high"] [])
    (Cbegun : Cal P w K mg base 1 "_law_begun" ["_law_script"] (spBegun K) fb fdb) (Ctake : Cal P w K mg base 1 "_law_take" ["_law_box", "_law_many"] (spTake K) ft fdt)
    (Calike : Cal P w K mg base 3 "_law_alike" ["_law_found", "_law_due"] (spAlk K 2) fk fdk) : FnOk P w K mg base CX0 4 f fd ["_law_script"] (spLaw K) := by
  refine F.ok scLw (fun vs H Q E h => ?_) (fun cdv A outer s H vs Q E hr h => ?_)
  · obtain ⟨a, ns, rfl, _⟩ := h
    rfl
  · obtain ⟨l0, ns, rfl, hS, hlen, k⟩ := h
    have hr3 : Room 3 _ := hr
    have hr1 := hr3.mono (j := 1) (by decide)
    have hr2 := hr3.mono (j := 2) (by decide)
    have hu3 := Nat.lt_of_le_of_lt (Nat.add_le_add_left (by decide : 3 ≤ 64) _) hr.units
    refine ⟨_, (pss_cons (ps_set (i := 1) scLw.nd rfl (Or.inl rfl) (pe_call Cbegun.G hr1 (by rfl) Cbegun.g Cbegun.kp Cbegun.b .nil pass0 (pa_cons (pv 0) pa_nil)))
      (pss_cons (ps_par (i := 2) (j := 3) (by rfl) scLw.nd rfl rfl (by decide) rfl rfl (pa_cons (pe_make0 M GI hr2 rfl T.mgC bI .nil pass0) (pa_cons (pe_lst pa_nil) pa_nil)) (by rfl))
      (pss_cons (ps_for PassesOwn.never rfl (pi_range1 rfl T.range (pa_cons (pe_call Ctake.G hr1 (by rfl) Ctake.g Ctake.kp Ctake.b .nil pass0 (pa_cons (pv 1) (pa_cons (pe_ix (RK.ixL (K := K)) (pe_lst (pa_cons pe_int (pa_cons pe_int pa_nil))) (pe_call Ctake.G hr1 (by rfl) Ctake.g Ctake.kp Ctake.b .nil pass0 (pa_cons (pv 1) (pa_cons pe_int pa_nil))) (fun _ _ => rfl)) pa_nil))) pa_nil)) (pg_name (i := 4) scLw.nd rfl (Or.inl rfl))
        (pss_cons (ps_if (PW.pt (pw_and (pt_cmpR (RK.neD (K := K) hr.units) (pv 3) (pe_lst pa_nil) (nomark _)) (pw_and1 (pt_cmpR op_eq (pe_call Ctake.G hr1 (by rfl) Ctake.g Ctake.kp Ctake.b .nil pass0 (pa_cons (pv 1) (pa_cons pe_int pa_nil))) pe_int (nomark _))))) (pss_cons (ps_asg (RK.bm (K := K) PySem.F.plainAttrs_list PySem.F.slot_list_pop PySem.F.type_list_pop mt_popAt (pv 3) (pa_cons (pe_call Ctake.G hr1 (by rfl) Ctake.g Ctake.kp Ctake.b .nil pass0 (pa_cons (pv 1) (pa_cons (pe_callB (RK.lenQ (K := K)) (by rfl) T.len PySem.boot_len (pa_cons (pv 3) pa_nil)) pa_nil))) pa_nil)) (RK.pgTup (K := K) (n := 2) rfl (pgs_cons (pg_name (i := 5) scLw.nd rfl (Or.inl rfl)) (pgs_cons (pg_name (i := 6) scLw.nd rfl (Or.inl rfl)) pgs_nil))))
          (pss_one (ps_if (pt_cmpR op_notN (pe_meth (pv 2) T.cl Mlose Glose hr2 Blose .nil pass0 (pa_cons (pv 5) (pa_cons (pv 6) pa_nil))) pe_non (nomark _)) (pss_one (ps_ret pe_bl)) pss_nil))) (pss_cons (ps_set (i := 5) scLw.nd rfl (Or.inl rfl) (pe_op op_sub (pe_call Ctake.G hr1 (by rfl) Ctake.g Ctake.kp Ctake.b .nil pass0 (pa_cons (pv 1) (pa_cons (pe_ix (RK.ixL (K := K)) (pe_lst (pa_cons pe_int (pa_cons pe_int pa_nil))) (pe_call Ctake.G hr1 (by rfl) Ctake.g Ctake.kp Ctake.b .nil pass0 (pa_cons (pv 1) (pa_cons pe_int pa_nil))) (fun _ _ => rfl)) pa_nil))) pe_int))
          (pss_cons (ps_set (i := 6) scLw.nd rfl (Or.inl rfl) (pe_op op_sub (pe_call Ctake.G hr1 (by rfl) Ctake.g Ctake.kp Ctake.b .nil pass0 (pa_cons (pv 1) (pa_cons (pe_ix (RK.ixL (K := K)) (pe_lst (pa_cons pe_int (pa_cons pe_int pa_nil))) (pe_call Ctake.G hr1 (by rfl) Ctake.g Ctake.kp Ctake.b .nil pass0 (pa_cons (pv 1) (pa_cons pe_int pa_nil))) (fun _ _ => rfl)) pa_nil))) pe_int))
          (pss_cons (ps_expr (RK.bm (K := K) PySem.F.plainAttrs_list PySem.F.slot_list_append PySem.F.type_list_append mt_append (pv 3) (pa_cons (pe_tup (pa_cons (pv 5) (pa_cons (pv 6) pa_nil))) pa_nil)))
          (pss_one (ps_if (pt_cmpR op_notN (pe_meth (pv 2) T.cl Madd Gadd hr2 Badd .nil pass0 (pa_cons (pv 5) (pa_cons (pv 6) pa_nil))) pe_non (nomark _)) (pss_one (ps_ret pe_bl)) pss_nil))))))
        (pss_cons (ps_par (i := 7) (j := 8) (by rfl) scLw.nd rfl rfl (by decide) rfl rfl (pa_cons (pe_op op_sub (pe_call Ctake.G hr1 (by rfl) Ctake.g Ctake.kp Ctake.b .nil pass0 (pa_cons (pv 1) (pa_cons pe_int pa_nil))) pe_int) (pa_cons (pe_op op_sub (pe_call Ctake.G hr1 (by rfl) Ctake.g Ctake.kp Ctake.b .nil pass0 (pa_cons (pv 1) (pa_cons pe_int pa_nil))) pe_int) pa_nil)) (by rfl))
        (pss_one (ps_for PassesOwn.never rfl (RK.piT (K := K) (pe_tup (pa_cons (pe_tup (pa_cons (pv 7) (pa_cons (pv 8) pa_nil))) (pa_cons (pe_tup (pa_cons pe_non (pa_cons (pv 8) pa_nil))) (pa_cons (pe_tup (pa_cons (pv 7) (pa_cons pe_non pa_nil))) (pa_cons (pe_tup (pa_cons pe_non (pa_cons pe_non pa_nil))) pa_nil)))))) (RK.pgTup (K := K) (n := 2) rfl (pgs_cons (pg_name (i := 9) scLw.nd rfl (Or.inr rfl)) (pgs_cons (pg_name (i := 10) scLw.nd rfl (Or.inr rfl)) pgs_nil)))
          (pss_cons (ps_setLc (i := 11) (own := [("_law_pair", 12)]) rfl scLw.nd rfl rfl (sw_true rfl rfl rfl (by decide +kernel)) (RK.piL (K := K) (pv 3)) (blkOk_by (N := ["_law_script", "_law_box", "_law_index", "_law_pairs", "_law_turn", "_law_worth", "_law_mark", "_law_low", "_law_high", "_law_one", "_law_other", "_law_some", "_law_pair", "_law_found"]) (sc := defScope sLaw) (by decide +kernel)) (fun _ _ _ _ _ => (pg_name (i := 12) scLw.nd rfl (Or.inl rfl))) (fun _ _ _ _ _ => (pts_one (PW.pt (pw_and (PW.pt (pw_or (pt_cmpR op_isN (pv 9) pe_non (nomark _)) (pw_or1 (pt_cmpR op_le (pv 9) (pe_ix (RK.ixT (K := K)) (pv 12) pe_int (fun _ _ => rfl)) (nomark _))))) (pw_and1 (PW.pt (pw_or (pt_cmpR op_isN (pv 10) pe_non (nomark _)) (pw_or1 (pt_cmpR op_le (pe_ix (RK.ixT (K := K)) (pv 12) pe_int (fun _ _ => rfl)) (pv 10) (nomark _)))))))))) (fun _ _ _ _ _ => (pv 12)))
          (pss_cons (ps_set (i := 13) scLw.nd rfl (Or.inl rfl) (pe_meth (pv 2) T.cl Mbetween Gbetween hr2 Bbetween .nil pass0 (pa_cons (pv 9) (pa_cons (pv 10) pa_nil))))
          (pss_cons (ps_if (pt_not (pt_val (pe_call Calike.G hr3 (by rfl) Calike.g Calike.kp Calike.b .nil pass0 (pa_cons (pv 13) (pa_cons (pe_callB (IT.cr_sortI rfl) (by rfl) T.sorted (by decide +kernel) (pa_cons (pe_callTy (IT.cr_setI rfl hu3) (by rfl) T.set (by decide +kernel) (pa_cons (pv 11) pa_nil)) pa_nil)) pa_nil))))) (pss_one (ps_ret pe_bl)) pss_nil)
          (pss_one (ps_expr (RK.bm (K := K) PySem.F.plainAttrs_list PySem.F.slot_list_append PySem.F.type_list_append mt_append (pv 13) (pa_cons pe_int pa_nil))))))))))))
      (pss_one (ps_ret pe_bl))))), ?_⟩
    refine sa1 ?_
    refine ⟨_, rfl, l0, ns, rfl, hS, hlen, fun a b H1 na nb bx1 s1 => gn ?_⟩
    obtain ⟨z1, cs1, ha1, hb1, _⟩ := id bx1
    refine par1 ?_
    intro p dx np ndx nex
    refine ⟨p, dx, rfl, upd_same, fun d r H2 fd0 fr0 ix2 kp => ⟨rfl, ?_⟩⟩
    have s0 : Same H1 (upd (upd H1 dx (.own p)) p (.ins C dx [])) := fun b o e => by
      rw [upd_ne (ne_of_none e np), upd_ne (ne_of_none e ndx)]
      exact e
    have s2 : Same H1 H2 := fun b o e => kp b o (s0 b o e) (ne_of_none e np)
    have fr1 : H1 r = none := by
      cases z : H1 r with
      | none => rfl
      | some o => rw [s0 _ _ z] at fr0; cases fr0
    refine ⟨(by show 0 ≤ sizeLine; decide), fun l hl => ⟨_, _, rfl, ?_⟩⟩
    have s3 := Same.new (o := .lst []) hl
    obtain ⟨_, hr2', _⟩ := id ix2.rs
    have c0 : Ctx C a b p d r l (upd H2 l (.lst [])) [] [] := ⟨bx1.of (fun o e => s3 _ _ (s2 _ _ e)) (fun o e => s3 _ _ (s2 _ _ e)), ix2.same s3, upd_same, (fun q m => nomatch m),
      ne_of_none (s2 _ _ ha1) hl, ne_of_none (s2 _ _ hb1) hl, ne_of_none ha1 fr1, ne_of_none hb1 fr1, Ne.symm (ne_of_none hr2' hl)⟩
    generalize upd H2 l (.lst []) = H3 at c0
    refine rg1 (pick rfl c0.bx (by decide) (by decide) fun n0 H4 n00 n01 bx4 k4 => ⟨n0, rfl, by omega, by omega, ?_⟩)
    have c4 := c0.take bx4 k4
    refine for_range (lo := 0) (n := n0.toNat) (fun i σ H' => ∃ (v4 v5 v6 v7 v8 v9 v10 v11 v12 v13 : Option V) (as : List (Addr × P2)), σ = [some (.ref l0), some (.ref a), some (.ref p), some (.ref l), v4, v5, v6, v7, v8, v9, v10, v11, v12, v13] ∧ Ctx C a b p d r l H' as (as.map (·.2)) ∧ as.length ≤ i)
      ⟨_, _, _, _, _, _, _, _, _, _, [], rfl, c4, Nat.le_refl _⟩ ?_ (fun _ H' _ => k H')
    rintro i σ H5 hi ⟨v4, v5, v6, v7, v8, v9, v10, v11, v12, v13, as, rfl, c5, len5⟩
    have i80 : i + 1 ≤ 80 := by omega
    refine gn ?_
    dsimp only [List.set]
    refine sifR (fun σ' H' => ∃ (v4 v5 v6 v7 v8 v9 v10 v11 v12 v13 : Option V) (as : List (Addr × P2)), σ' = [some (.ref l0), some (.ref a), some (.ref p), some (.ref l), v4, v5, v6, v7, v8, v9, v10, v11, v12, v13] ∧ Ctx C a b p d r l H' as (as.map (·.2)) ∧ as.length ≤ i + 1) ?_ (fun rest => tst rfl rfl c5 fun bo H6 hbo c6 => ?_)
    · clear c5 c4 c0 k4
      rintro σ' H6 ⟨v4, v5, v6, v7, v8, v9, v10, v11, v12, v13, as, rfl, c6, len6⟩
      refine par1 (op1 (tk rfl c6.bx (by decide) (by decide) fun x H7 x0 x1 bx7 k7 => ⟨_, _, rfl, rfl, op1 (tk rfl (c6.take bx7 k7).bx (by decide) (by decide) fun y H8 y0 y1 bx8 k8 => ⟨_, _, rfl, rfl, _, _, rfl, ?_⟩)⟩))
      have c8 := (c6.take bx7 k7).take bx8 k8
      clear bx7 k7 bx8 k8 c6
      dsimp only [List.set]
      generalize x - 4 = lo
      generalize y - 3 = hi
      refine ⟨_, rfl, _, rfl, (by show 2 ≤ sizeLine; decide), fun t1 g1 => ⟨_, rfl, (by show 2 ≤ sizeLine; decide), fun t2 g2 => ⟨_, rfl, (by show 2 ≤ sizeLine; decide), fun t3 g3 => ⟨(by show 2 ≤ sizeLine; decide), fun t4 g4 => ⟨(by show 4 ≤ sizeLine; decide), fun t g => ?_⟩⟩⟩⟩⟩
      have u1 := Same.new (o := .tup [V.int lo, V.int hi]) g1
      have u2 := Same.new (o := .tup [V.non, V.int hi]) g2
      have u3 := Same.new (o := .tup [V.int lo, V.non]) g3
      have u4 := Same.new (o := .tup [V.non, V.non]) g4
      have u5 := Same.new (o := .tup [V.ref t1, V.ref t2, V.ref t3, V.ref t4]) g
      have w4 := u4.trans u5
      have w3 := u3.trans w4
      have w2 := u2.trans w3
      have c9 := c8.same (u1.trans w2)
      have four : ∀ (j : Nat) (x : V), [V.ref t1, V.ref t2, V.ref t3, V.ref t4][j]? = some x → ∃ (q : Addr) (l h : Option Int), x = .ref q ∧ (upd (upd (upd (upd (upd H8 t1 (.tup [V.int lo, V.int hi])) t2 (.tup [V.non, V.int hi])) t3 (.tup [V.int lo, V.non])) t4 (.tup [V.non, V.non])) t (.tup [V.ref t1, V.ref t2, V.ref t3, V.ref t4])) q = some (.tup [oV l, oV h]) := by
        intro j x e
        match j, e with
        | 0, e => exact ⟨t1, some lo, some hi, (Option.some.inj e).symm, w2 _ _ upd_same⟩
        | 1, e => exact ⟨t2, none, some hi, (Option.some.inj e).symm, w3 _ _ upd_same⟩
        | 2, e => exact ⟨t3, some lo, none, (Option.some.inj e).symm, w4 _ _ upd_same⟩
        | 3, e => exact ⟨t4, none, none, (Option.some.inj e).symm, u5 _ _ upd_same⟩
        | j + 4, e => cases e
      have ht : (upd (upd (upd (upd (upd H8 t1 (.tup [V.int lo, V.int hi])) t2 (.tup [V.non, V.int hi])) t3 (.tup [V.int lo, V.non])) t4 (.tup [V.non, V.non])) t (.tup [V.ref t1, V.ref t2, V.ref t3, V.ref t4])) t = some (.tup [V.ref t1, V.ref t2, V.ref t3, V.ref t4]) := upd_same
      refine ⟨t, rfl, ⟨_, SqT.of ht⟩, ?_⟩
      clear u1 u2 u3 u4 u5 w4 w3 w2 c8
      revert c9 four ht
      generalize (upd (upd (upd (upd (upd H8 t1 (.tup [V.int lo, V.int hi])) t2 (.tup [V.non, V.int hi])) t3 (.tup [V.int lo, V.non])) t4 (.tup [V.non, V.non])) t (.tup [V.ref t1, V.ref t2, V.ref t3, V.ref t4])) = H9
      intro c9 four ht
      refine for_tup (K := K) (a := t) (xs := [V.ref t1, V.ref t2, V.ref t3, V.ref t4]) (fun j σ H' => ∃ (v9 v10 v11 v12 v13 : Option V), σ = [some (.ref l0), some (.ref a), some (.ref p), some (.ref l), v4, v5, v6, some (.int lo), some (.int hi), v9, v10, v11, v12, v13] ∧ Same H9 H')
        ⟨_, _, _, _, _, rfl, Same.refl _⟩ (fun j σ H' _ ⟨_, _, _, _, _, _, s⟩ => SqT.of (s _ _ ht)) ?_ ?_
      · rintro j x σ Ha hj ⟨v9, v10, v11, v12, v13, rfl, sa⟩
        obtain ⟨t0, lo', hi', rfl, ht0⟩ := four j x hj
        have ca := c9.same sa
        refine ⟨t0, _, rfl, SqT.of (sa _ _ ht0), rfl, _, _, rfl, _, _, rfl, rfl, ?_⟩
        dsimp only [List.set]
        refine sa1 ?_
        refine ⟨_, rfl, l, rfl, ⟨_, SqL.of ca.ls⟩, fun D hD => ?_⟩
        refine lc_list (K := K) (a := l) (xs := as.map fun q => V.ref q.1) (fun j H' => Same Ha H' ∧ H' D = some (.lst (((as.take j).filter fun q => inbB lo' hi' q.2).map fun q => V.ref q.1))) ⟨Same.new hD, upd_same⟩ (fun j H' _ ⟨sm, _⟩ => SqL.of (sm _ _ ca.ls)) ?_ ?_
        · rintro j x Hb hj ⟨sb, hDb⟩
          have lj : j < as.length := by have z := (List.getElem?_eq_some_iff.mp hj).1; rwa [List.length_map] at z
          obtain rfl : x = .ref as[j].1 := by rw [List.getElem?_map, List.getElem?_eq_getElem lj] at hj; exact (Option.some.inj hj).symm
          have tk : as.take (j + 1) = as.take j ++ [as[j]] := by rw [List.take_add_one, List.getElem?_eq_getElem lj]; rfl
          refine ⟨rfl, tstB (lo := lo') (hi := hi') (q := as[j]) rfl rfl rfl (sb _ _ (ca.tp _ (List.getElem_mem lj))) ?_⟩
          cases hb : inbB lo' hi' as[j].2 with
          | true =>
            refine iteT ⟨_, rfl, _, hDb, Nat.lt_of_le_of_lt (show _ ≤ 80 by rw [List.length_map]; exact Nat.le_trans (List.length_filter_le _ _) (by rw [List.length_take]; omega)) (by decide), fun b o h => ?_, ?_⟩
            · rw [upd_ne (ne_of_none h hD)]
              exact sb _ _ h
            · rw [upd_same, tk, List.filter_append, List.filter_cons, if_pos hb, List.map_append]
              rfl
          | false =>
            refine iteF ⟨sb, ?_⟩
            rw [hDb, tk, List.filter_append, List.filter_cons, if_neg (by rw [hb]; decide)]
            simp
        · rintro Hb ⟨sb, hDb⟩
          rw [List.length_map, List.take_length] at hDb
          refine gn ?_
          dsimp only [List.set]
          have cb := ca.same sb
          obtain ⟨dxb, obb⟩ := cb.ix.ob
          refine sa1 ?_
          refine ⟨_, rfl, p, dxb, _, rfl, obb, flds_no _ _ (by decide +kernel) (by decide +kernel), _, rfl, _, rfl, p, d, r, lo', hi', _, rfl, cb.ix, by rw [List.length_map]; omega, fun q Hc cs sc q0 hq tq up mem lcs => gn ?_⟩
          dsimp only [List.set]
          have cc := cb.same sc
          have hDc := sc _ _ hDb
          have lfs : (as.filter fun q => inbB lo' hi' q.2).length ≤ 80 := Nat.le_trans (List.length_filter_le _ _) (by omega)
          have mfs : ∀ q, q ∈ (as.filter fun q => inbB lo' hi' q.2) ↔ q ∈ as ∧ inb lo' hi' q.2 := fun q => by rw [List.mem_filter, inbB_iff]
          generalize (as.filter fun q => inbB lo' hi' q.2) = fs at hDc lfs mfs
          clear hDb
          refine sif ?_
          refine ⟨_, rfl, _, rfl, D, fs.map ksOf, rfl, (by rw [List.map_map]; exact SqL.of hDc), (fun q m => ?_), (by rw [List.length_map]; exact lfs), fun s L hs sub sup => ?_⟩
          · obtain ⟨q', m', rfl⟩ := List.mem_map.mp m
            exact SqT.of (cc.tp _ ((mfs q').mp m').1)
          obtain ⟨bs, rfl⟩ := as_pairs L fun q m => by
            obtain ⟨q', _, e⟩ := List.mem_map.mp (sub q m)
            exact ⟨q', e.symm⟩
          have ssame : Same Hc _ := Same.new (o := IT.SetI P w s (bs.map ksOf)) hs
          have bfs : ∀ q ∈ bs, q ∈ fs := fun q m => by
            obtain ⟨q', m', e⟩ := List.mem_map.mp (sub (ksOf q) (List.mem_map_of_mem m))
            injection e with e1 e2
            have e3 : q' = q := Prod.ext e1 (li_inj e2)
            exact e3 ▸ m'
          refine ⟨s, bs.map ksOf, rfl, upd_same, (fun q m => ?_), (fun q m => ?_), fun L' o pm nd pw ho => ?_⟩
          · obtain ⟨q', m', rfl⟩ := List.mem_map.mp m
            exact SqT.of (ssame _ _ (cc.tp _ ((mfs q').mp (bfs q' m')).1))
          · obtain ⟨q', m', rfl⟩ := List.mem_map.mp m
            exact ⟨_, _, rfl⟩
          obtain ⟨ds, rfl⟩ := as_pairs L' fun q m => by
            obtain ⟨q', _, e⟩ := List.mem_map.mp (pm.mem_iff.mp m)
            exact ⟨q', e.symm⟩
          have up2 : (ds.map (·.2)).Pairwise plt := sorted_is ((pm.map Prod.snd).nodup_iff.mpr nd) pw
          have dfs : ∀ q ∈ ds, q ∈ as := fun q m => by
            obtain ⟨q', m', e⟩ := List.mem_map.mp (pm.mem_iff.mp (List.mem_map_of_mem (f := ksOf) m))
            injection e with e1 e2
            have e3 : q' = q := Prod.ext e1 (li_inj e2)
            exact ((mfs q).mp (bfs q (e3 ▸ m'))).1
          have mem2 : ∀ x, x ∈ ds.map (·.2) ↔ x ∈ as.map (·.2) ∧ inb lo' hi' x := fun x => by
            constructor
            · intro m
              obtain ⟨q', m', rfl⟩ := List.mem_map.mp m
              obtain ⟨q2, m2, e⟩ := List.mem_map.mp (pm.mem_iff.mp (List.mem_map_of_mem (f := ksOf) m'))
              injection e with e1 e2
              have e3 : q2 = q' := Prod.ext e1 (li_inj e2)
              have z := (mfs q').mp (bfs q' (e3 ▸ m2))
              exact ⟨List.mem_map_of_mem z.1, z.2⟩
            · rintro ⟨m, z⟩
              obtain ⟨q', m', rfl⟩ := List.mem_map.mp m
              have z1 := sup (ksOf q') (List.mem_map_of_mem ((mfs q').mpr ⟨m', z⟩))
              obtain ⟨q3, m3, e⟩ := List.mem_map.mp z1
              obtain ⟨q4, m4, e4⟩ := List.mem_map.mp (pm.mem_iff.mpr m3)
              rw [← e4] at e
              have e5 : q4.2 = q'.2 := li_inj e
              exact List.mem_map.mpr ⟨q4, m4, e5⟩
          have eq := sorted_eq (cs.map (·.2)) (ds.map (·.2)) up up2 fun x => (mem x).trans (mem2 x).symm
          have osame := ssame.trans (Same.new (o := .lst ((ds.map ksOf).map fun q => V.ref q.1)) ho)
          have hO : ∀ (Hx : Hp), (upd Hx o (.lst ((ds.map ksOf).map fun q => V.ref q.1))) o = some (.lst (ds.map fun q => V.ref q.1)) := fun Hx => by rw [upd_same, List.map_map]; rfl
          refine ⟨.ref q, .ref o, rfl, ⟨q, o, _, _, rfl, rfl, .inr ⟨SqL.of (osame _ _ hq), SqL.of (hO _)⟩, (by rw [List.length_map]; omega), alk_pairs cs ds eq (fun c m => osame _ _ (tq c m)) (fun c m => osame _ _ (cc.tp c (dfs c m)))⟩, _, rfl, iteF ?_⟩
          refine ⟨_, rfl, .inl ⟨rfl, _, SqL.of (osame _ _ hq)⟩, q, _, .int 0, rfl, rfl, osame _ _ hq, Nat.lt_of_le_of_lt (show _ ≤ 100 by rw [List.length_map]; exact lcs) (by decide), ?_⟩
          refine ⟨_, _, _, _, _, rfl, fun b o e => ?_⟩
          have eb := sb _ _ (sa _ _ e)
          rw [upd_ne (ne_of_none eb q0)]
          exact osame _ _ (sc _ _ eb)
      · rintro σ H' ⟨v9, v10, v11, v12, v13, rfl, s⟩
        exact ⟨_, _, _, _, _, _, _, _, _, _, as, rfl, c9.same s, len6⟩
    · cases bo with
      | true =>
        have ne := hbo rfl
        have pos : 0 < as.length := List.length_pos_iff.mpr ne
        refine iteT ?_
        refine sa1 ?_
        refine ⟨_, rfl, .inl ⟨rfl, _, SqL.of c6.ls⟩, _, rfl, _, rfl, l, _, rfl, .inl (SqL.of c6.ls), a, b, _, rfl, (by rw [List.length_map]; omega), (by rw [List.length_map]; omega), c6.bx, fun x H7 x0 x1 bx7 k7 => ?_⟩
        rw [List.length_map] at x1
        have c7 := c6.take bx7 k7
        have lx : x.toNat < as.length := by omega
        obtain ⟨q, hq⟩ : ∃ q, as[x.toNat]? = some q := ⟨_, List.getElem?_eq_getElem lx⟩
        have mq : q ∈ as := List.mem_of_getElem? hq
        have ex : x = ((x.toNat : Nat) : Int) := by omega
        refine ⟨l, _, x, x.toNat, .ref q.1, rfl, rfl, c7.ls, by omega, by omega, ?_, by rw [List.getElem?_map, hq]; rfl, ?_⟩
        · refine (ixN_seq ?_).1
          unfold ixN
          rw [List.length_map, if_pos x0, if_pos x1]
        rw [erase_map]
        have c8 := c7.put (bs := as.eraseIdx x.toNat) fun y m => c7.tp y (List.mem_of_mem_eraseIdx m)
        have tq : (upd H7 l (.lst ((as.eraseIdx x.toNat).map fun q => V.ref q.1))) q.1 = some (tup2 q.2) := by rw [upd_ne (ne_of (c7.tp q mq) c7.ls (by intro z; cases z))]; exact c7.tp q mq
        generalize upd H7 l (.lst ((as.eraseIdx x.toNat).map fun q => V.ref q.1)) = H8 at c8 tq
        refine ⟨q.1, _, rfl, SqT.of tq, rfl, _, _, rfl, _, _, rfl, rfl, ?_⟩
        dsimp only [List.set]
        obtain ⟨dx8, ob8⟩ := c8.ix.ob
        refine ⟨_, rfl, p, dx8, _, rfl, ob8, flds_no _ _ (by decide +kernel) (by decide +kernel), _, rfl, _, rfl, p, d, r, q.2, _, rfl, c8.ix, by rw [List.length_map]; omega, List.mem_map_of_mem mq, fun H9 k9 ix9 => ⟨rfl, _, rfl, iteF ?_⟩⟩
        refine rest _ _ ⟨_, _, _, _, _, _, _, _, _, _, _, rfl, (c8.kix k9 ix9).perm (perm_pop hq), ?_⟩
        rw [List.length_eraseIdx]
        split <;> omega
      | false =>
        refine iteF ?_
        refine sa1 (op1 (pick rfl c6.bx (by decide) (by decide) fun x H7 x0 x1 bx7 k7 => ⟨_, _, rfl, rfl, gn ?_⟩))
        have c7 := c6.take bx7 k7
        refine sa1 (op1 (pick rfl c7.bx (by decide) (by decide) fun y H8 y0 y1 bx8 k8 => ⟨_, _, rfl, rfl, gn ?_⟩))
        have c8 := c7.take bx8 k8
        refine sq1 ?_
        refine ⟨_, rfl, .inl ⟨rfl, _, SqL.of c8.ls⟩, _, rfl, _, rfl, (by show 2 ≤ sizeLine; decide), fun t ht => ?_⟩
        have c9 := c8.same (Same.new (o := tup2 (x - 2, y - 1)) ht)
        have h9 : (upd H8 t (tup2 (x - 2, y - 1))) t = some (tup2 (x - 2, y - 1)) := upd_same
        refine ⟨l, _, .ref t, rfl, rfl, c9.ls, Nat.lt_of_le_of_lt (show _ ≤ 80 by rw [List.length_map]; omega) (by decide), ?_⟩
        have el : (as.map fun q => V.ref q.1) ++ [V.ref t] = (as ++ [(t, (x - 2, y - 1))]).map fun q => V.ref q.1 := by rw [List.map_append]; rfl
        have ca := c9.put (bs := as ++ [(t, (x - 2, y - 1))]) fun q m => by
          rcases List.mem_append.mp m with m | m
          · exact c9.tp q m
          · rw [List.mem_singleton.mp m]; exact h9
        rw [← el] at ca
        obtain ⟨dxa, oba⟩ := ca.ix.ob
        refine ⟨_, rfl, p, dxa, _, rfl, oba, flds_no _ _ (by decide +kernel) (by decide +kernel), _, rfl, _, rfl, p, d, r, (x - 2, y - 1), _, rfl, ca.ix, by rw [List.length_map]; omega, fun Hb kb ixb => ⟨rfl, _, rfl, iteF ?_⟩⟩
        refine rest _ _ ⟨_, _, _, _, _, _, _, _, _, _, _, rfl, (ca.kix kb ixb).perm (perm_app as (t, (x - 2, y - 1))), ?_⟩
        rw [List.length_append]
        exact Nat.succ_le_succ len5
end
end G37


set_option Elab.async false
set_option maxRecDepth 100000
set_option maxHeartbeats 4000000
namespace G37
open PySem L2
theorem all_mk {l : PySem.W.OpenLaw} {w : World} {K : PySem.W.Frag} {h : Heap} {mg : Str → Option Value} {fa f1 f2 f3 f4 f5 : Addr} (X : K.In h) (G : h.Ns mainGlobals mg) (hfa : mg "law" = some (.ref fa))
    {od1 an1 od2 an2 od3 an3 od4 an4 od5 an5 : Option Addr} {C h1 h2 h3 h4 : Addr} {oe1 am1 oe2 am2 oe3 am3 oe4 am4 : Option Addr} {sm1 sm2 sm3 sm4 : Array (Option Value)} {oq1 kW1 dd1 pn1 ce1 cu1 oq2 kW2 dd2 pn2 ce2 cu2 oq3 kW3 dd3 pn3 ce3 cu3 oq4 kW4 dd4 pn4 ce4 cu4 : Value} {sl1 sl2 sl3 sl4 sl5 : Array (Option Value)} {oc1 kV1 dc1 pm1 cd1 ct1 oc2 kV2 dc2 pm2 cd2 ct2 oc3 kV3 dc3 pm3 cd3 ct3 oc4 kV4 dc4 pm4 cd4 ct4 oc5 kV5 dc5 pm5 cd5 ct5 : Value}
    (a1 : PySem.W.nsIn K mainGlobals "place_in" = some (some (.ref f1))) (l1 : K.lookup f1 = some ⟨oc1, od1, .func (PySem.W.fnOf "place_in" "place_in" (defArgs sPlace) (defBody sPlace) (defScope sPlace) .none kV1 dc1 pm1 an1 cd1 ct1), sl1⟩) (c1 : PySem.W.codeIn K cd1 "place_in" = true) (k1 : PySem.W.keepIn K (.ref f1) = true)
    (a2 : PySem.W.nsIn K mainGlobals "_law_begun" = some (some (.ref f2))) (l2 : K.lookup f2 = some ⟨oc2, od2, .func (PySem.W.fnOf "_law_begun" "_law_begun" (defArgs sBegun) (defBody sBegun) (defScope sBegun) .none kV2 dc2 pm2 an2 cd2 ct2), sl2⟩) (c2 : PySem.W.codeIn K cd2 "_law_begun" = true) (k2 : PySem.W.keepIn K (.ref f2) = true)
    (a3 : PySem.W.nsIn K mainGlobals "_law_take" = some (some (.ref f3))) (l3 : K.lookup f3 = some ⟨oc3, od3, .func (PySem.W.fnOf "_law_take" "_law_take" (defArgs sTake) (defBody sTake) (defScope sTake) .none kV3 dc3 pm3 an3 cd3 ct3), sl3⟩) (c3 : PySem.W.codeIn K cd3 "_law_take" = true) (k3 : PySem.W.keepIn K (.ref f3) = true)
    (a4 : PySem.W.nsIn K mainGlobals "_law_alike" = some (some (.ref f4))) (l4 : K.lookup f4 = some ⟨oc4, od4, .func (PySem.W.fnOf "_law_alike" "_law_alike" (defArgs sAlike) (defBody sAlike) (defScope sAlike) .none kV4 dc4 pm4 an4 cd4 ct4), sl4⟩) (c4 : PySem.W.codeIn K cd4 "_law_alike" = true) (k4 : PySem.W.keepIn K (.ref f4) = true)
    (a5 : PySem.W.nsIn K mainGlobals "law" = some (some (.ref f5))) (l5 : K.lookup f5 = some ⟨oc5, od5, .func (PySem.W.fnOf "law" "law" (defArgs sLaw) (defBody sLaw) (defScope sLaw) .none kV5 dc5 pm5 an5 cd5 ct5), sl5⟩) (c5 : PySem.W.codeIn K cd5 "law" = true) (k5 : PySem.W.keepIn K (.ref f5) = true)
    (z_len : PySem.W.nsIn K mainGlobals "len" = some none) (z_range : PySem.W.nsIn K mainGlobals "range" = some none) (z_list : PySem.W.nsIn K mainGlobals "list" = some none) (z_tuple : PySem.W.nsIn K mainGlobals "tuple" = some none) (z_int : PySem.W.nsIn K mainGlobals "int" = some none) (z_isinstance : PySem.W.nsIn K mainGlobals "isinstance" = some none) (z_bool : PySem.W.nsIn K mainGlobals "bool" = some none) (z_str : PySem.W.nsIn K mainGlobals "str" = some none) (z_set : PySem.W.nsIn K mainGlobals "set" = some none) (z_sorted : PySem.W.nsIn K mainGlobals "sorted" = some none)
    (aC : PySem.W.nsIn K mainGlobals "Index" = some (some (.ref C)))
    (x1 : PySem.W.findIn K (.ref C) "__init__" = some (some (.ref h1)))
    (y1 : PySem.W.isFn K (.ref h1) = true)
    (v1 : K.lookup h1 = some ⟨oq1, oe1, .func (PySem.W.fnOf "__init__" "Index.__init__" (defArgs sInit) (defBody sInit) (defScope sInit) .none kW1 dd1 pn1 am1 ce1 cu1), sm1⟩)
    (w1 : PySem.W.codeIn K ce1 "Index.__init__" = true)
    (u1 : PySem.W.keepIn K (.ref h1) = true)
    (x2 : PySem.W.findIn K (.ref C) "add" = some (some (.ref h2)))
    (y2 : PySem.W.isFn K (.ref h2) = true)
    (v2 : K.lookup h2 = some ⟨oq2, oe2, .func (PySem.W.fnOf "add" "Index.add" (defArgs sAdd) (defBody sAdd) (defScope sAdd) .none kW2 dd2 pn2 am2 ce2 cu2), sm2⟩)
    (w2 : PySem.W.codeIn K ce2 "Index.add" = true)
    (u2 : PySem.W.keepIn K (.ref h2) = true)
    (x3 : PySem.W.findIn K (.ref C) "lose" = some (some (.ref h3)))
    (y3 : PySem.W.isFn K (.ref h3) = true)
    (v3 : K.lookup h3 = some ⟨oq3, oe3, .func (PySem.W.fnOf "lose" "Index.lose" (defArgs sLose) (defBody sLose) (defScope sLose) .none kW3 dd3 pn3 am3 ce3 cu3), sm3⟩)
    (w3 : PySem.W.codeIn K ce3 "Index.lose" = true)
    (u3 : PySem.W.keepIn K (.ref h3) = true)
    (x4 : PySem.W.findIn K (.ref C) "between" = some (some (.ref h4)))
    (y4 : PySem.W.isFn K (.ref h4) = true)
    (v4 : K.lookup h4 = some ⟨oq4, oe4, .func (PySem.W.fnOf "between" "Index.between" (defArgs sBetween) (defBody sBetween) (defScope sBetween) .none kW4 dd4 pn4 am4 ce4 cu4), sm4⟩)
    (w4 : PySem.W.codeIn K ce4 "Index.between" = true)
    (u4 : PySem.W.keepIn K (.ref h4) = true)
    (pg : PySem.W.plainGet K C Str.empty = true)
    (hd : PySem.W.hasDictIn K C = true)
    (po : PySem.W.plainOver K C = true)
    (sa : PySem.W.findIn K (.ref C) "__setattr__" = some (some (.builtin "object.__setattr__")))
    (mk : PySem.W.makesIn K C = true)
    (kc : PySem.W.keepIn K (.ref C) = true)
    (nM : PySem.W.findIn K (.ref C) "many" = some none)
    (nR : PySem.W.findIn K (.ref C) "rising" = some none) :
    ∃ fd : FuncData, (∀ (s : Shared) (v : Value), BindsTo s fd ⟨[v], []⟩ [("_law_script", v)]) ∧ ∀ base : Heap, K.In base → base.Ns mainGlobals mg → FnOk l.prog w K mg base CX0 4 fa fd ["_law_script"] (spLaw K) := by
  have e := hfa.symm.trans (PySem.W.mg_of X G a5)
  cases e
  have m_len : mg "len" = none := PySem.W.mg_none_of X G z_len
  have m_range : mg "range" = none := PySem.W.mg_none_of X G z_range
  have m_list : mg "list" = none := PySem.W.mg_none_of X G z_list
  have m_tuple : mg "tuple" = none := PySem.W.mg_none_of X G z_tuple
  have m_int : mg "int" = none := PySem.W.mg_none_of X G z_int
  have m_isinstance : mg "isinstance" = none := PySem.W.mg_none_of X G z_isinstance
  have m_bool : mg "bool" = none := PySem.W.mg_none_of X G z_bool
  have m_str : mg "str" = none := PySem.W.mg_none_of X G z_str
  have m_set : mg "set" = none := PySem.W.mg_none_of X G z_set
  have m_sorted : mg "sorted" = none := PySem.W.mg_none_of X G z_sorted
  have F1 := fun_mk (st := sPlace) l1 c1 k1
  have g1 : mg "place_in" = some (.ref f1) := PySem.W.mg_of X G a1
  have b1 := F1.binds (ps := ["items", "item"]) fun _ _ _ _ _ _ us hl => match us, hl with | [_, _], _ => rfl
  have F2 := fun_mk (st := sBegun) l2 c2 k2
  have g2 : mg "_law_begun" = some (.ref f2) := PySem.W.mg_of X G a2
  have b2 := F2.binds (ps := ["_law_script"]) fun _ _ _ _ _ _ us hl => match us, hl with | [_], _ => rfl
  have F3 := fun_mk (st := sTake) l3 c3 k3
  have g3 : mg "_law_take" = some (.ref f3) := PySem.W.mg_of X G a3
  have b3 := F3.binds (ps := ["_law_box", "_law_many"]) fun _ _ _ _ _ _ us hl => match us, hl with | [_, _], _ => rfl
  have F4 := fun_mk (st := sAlike) l4 c4 k4
  have g4 : mg "_law_alike" = some (.ref f4) := PySem.W.mg_of X G a4
  have b4 := F4.binds (ps := ["_law_found", "_law_due"]) fun _ _ _ _ _ _ us hl => match us, hl with | [_, _], _ => rfl
  have F5 := fun_mk (st := sLaw) l5 c5 k5
  have TX : TxtX K mg C := ⟨⟨m_len, m_range, m_list, m_tuple, m_int, m_isinstance⟩, ⟨pg, hd, po, sa⟩, nM, nR⟩
  have T6 : Txt6 mg := ⟨TX.toTxt, m_bool, m_str, m_isinstance⟩
  have TL : TxtL K mg C := ⟨TX, m_set, m_sorted, PySem.W.mg_of X G aC⟩
  have N1 := fun_mk (st := sInit) v1 w1 u1
  have e1 := N1.binds (ps := ["self"]) fun _ _ _ _ _ _ us hl => match us, hl with | [_], _ => rfl
  have N2 := fun_mk (st := sAdd) v2 w2 u2
  have e2 := N2.binds (ps := ["self", "worth", "key"]) fun _ _ _ _ _ _ us hl => match us, hl with | [_, _, _], _ => rfl
  have N3 := fun_mk (st := sLose) v3 w3 u3
  have e3 := N3.binds (ps := ["self", "worth", "key"]) fun _ _ _ _ _ _ us hl => match us, hl with | [_, _, _], _ => rfl
  have N4 := fun_mk (st := sBetween) v4 w4 u4
  have e4 := N4.binds (ps := ["self", "low", "high"]) fun _ _ _ _ _ _ us hl => match us, hl with | [_, _, _], _ => rfl
  refine ⟨PySem.W.fnOf "law" "law" (defArgs sLaw) (defBody sLaw) (defScope sLaw) .none kV5 dc5 pm5 an5 cd5 ct5, fun s v => .of_eq rfl, fun base _ _ => ?_⟩
  have C1 : Cal l.prog w K mg base 1 "place_in" ["items", "item"] (spPlace K) f1 _ := ⟨g1, k1, b1, ok_place F1 TX.toTxt⟩
  have C2 : Cal l.prog w K mg base 1 "_law_begun" ["_law_script"] (spBegun K) f2 _ := ⟨g2, k2, b2, ok_begun F2 TX.toTxt⟩
  have C3 : Cal l.prog w K mg base 1 "_law_take" ["_law_box", "_law_many"] (spTake K) f3 _ := ⟨g3, k3, b3, ok_take F3 TX.toTxt⟩
  have A0 : Cal l.prog w K mg base 1 "_law_alike" ["_law_found", "_law_due"] (spAlk K 0) f4 _ := ⟨g4, k4, b4, ok_alk (n := 0) (j := 0) F4 T6 (fun _ h => nomatch h)⟩
  have A1 : Cal l.prog w K mg base 2 "_law_alike" ["_law_found", "_law_due"] (spAlk K 1) f4 _ := ⟨g4, k4, b4, ok_alk (n := 1) (j := 1) F4 T6 (fun m h => by cases h; exact A0)⟩
  have A2 : Cal l.prog w K mg base 3 "_law_alike" ["_law_found", "_law_due"] (spAlk K 2) f4 _ := ⟨g4, k4, b4, ok_alk (n := 2) (j := 2) F4 T6 (fun m h => by cases h; exact A1)⟩
  exact ok_law F5 TL ⟨mk, x1, y1, kc⟩ (ok_init N1 TX) e1 ⟨x2, y2, u2⟩ (ok_add N2 TX C1) e2 ⟨x3, y3, u3⟩ (ok_lose N3 TX C1) e3 ⟨x4, y4, u4⟩ (ok_between N4 TX C1) e4 C2 C3 A2

theorem walk {l : PySem.W.OpenLaw} {q : Program} {loose : List Str} {XP : (Str → Option Value) → Heap → Prop} {YP : World → Heap → Prop} {d : DefRec} {K : Params → PySem.W.Frag} (hn : l.most = some 63) (hdf : d.params.defaults = [])
    (hY : ∀ (w : World) (h : Heap), YP w h → (K w.params).In h)
    (F : ∀ (w : World) (mg : Str → Option Value) (fa : Addr) (h : Heap), (K w.params).In h → h.Ns mainGlobals mg → mg d.name = some (.ref fa) →
      ∃ fd : FuncData, (∀ (s : Shared) (u : Value), BindsTo s fd ⟨[u], []⟩ [("_law_script", u)]) ∧ ∀ base : Heap, (K w.params).In base → base.Ns mainGlobals mg → FnOk l.prog w (K w.params) mg base CX0 4 fa fd ["_law_script"] (spLaw (K w.params))) :
    PySem.W.WalkO q loose XP YP l.row.toRowW d [] (fun f vs => PySem.call f vs) :=
  L2.walk_of (n := 63) (k := 4) (x := "_law_script") (CX := fun _ => CX0) (sp := fun w => spLaw (K w.params)) hn (by decide) hdf ⟨rfl, by decide, by decide⟩ hY F (fun _ _ a ns hl _ hS => ⟨a, ns, rfl, hS, hl, fun _ => rfl⟩) fun _ _ _ _ _ z => z
end G37
open PySem PySem.W PyProof.Rows in
set_option maxRecDepth 100000 in
set_option maxHeartbeats 0 in
theorem PySem.Challenge.cw_granary_k37_an_index_alone_holds : PySem.Challenge.rw_granary_k37_an_index_alone.Holds := by
  w_on; o_law; k_head; (case hw => w_witness2)
  k_fill
  refine G37.walk (l := PySem.Challenge.rw_granary_k37_an_index_alone) rfl rfl (fun w h Y => PySem.W.kIn_of Y) ?F
  case F =>
    intro w mg fa h KX G hmg
    refine' G37.all_mk KX G hmg ?a1 ?l1 ?c1 ?k1 ?a2 ?l2 ?c2 ?k2 ?a3 ?l3 ?c3 ?k3 ?a4 ?l4 ?c4 ?k4 ?a5 ?l5 ?c5 ?k5 ?z_len ?z_range ?z_list ?z_tuple ?z_int ?z_isinstance ?z_bool ?z_str ?z_set ?z_sorted ?aC ?x1 ?y1 ?v1 ?w1 ?u1 ?x2 ?y2 ?v2 ?w2 ?u2 ?x3 ?y3 ?v3 ?w3 ?u3 ?x4 ?y4 ?v4 ?w4 ?u4 ?pg ?hd ?po ?sa ?mk ?kc ?nM ?nR
    (case a1 => k_is)
    (case l1 => k_is)
    (case c1 => k_is)
    (case k1 => k_is)
    (case a2 => k_is)
    (case l2 => k_is)
    (case c2 => k_is)
    (case k2 => k_is)
    (case a3 => k_is)
    (case l3 => k_is)
    (case c3 => k_is)
    (case k3 => k_is)
    (case a4 => k_is)
    (case l4 => k_is)
    (case c4 => k_is)
    (case k4 => k_is)
    (case a5 => k_is)
    (case l5 => k_is)
    (case c5 => k_is)
    (case k5 => k_is)
    (case z_len => k_is)
    (case z_range => k_is)
    (case z_list => k_is)
    (case z_tuple => k_is)
    (case z_int => k_is)
    (case z_isinstance => k_is)
    (case z_bool => k_is)
    (case z_str => k_is)
    (case z_set => k_is)
    (case z_sorted => k_is)
    (case aC => k_is)
    (case x1 => k_is)
    (case y1 => k_is)
    (case v1 => k_is)
    (case w1 => k_is)
    (case u1 => k_is)
    (case x2 => k_is)
    (case y2 => k_is)
    (case v2 => k_is)
    (case w2 => k_is)
    (case u2 => k_is)
    (case x3 => k_is)
    (case y3 => k_is)
    (case v3 => k_is)
    (case w3 => k_is)
    (case u3 => k_is)
    (case x4 => k_is)
    (case y4 => k_is)
    (case v4 => k_is)
    (case w4 => k_is)
    (case u4 => k_is)
    (case pg => k_is)
    (case hd => k_is)
    (case po => k_is)
    (case sa => k_is)
    (case mk => k_is)
    (case kc => k_is)
    (case nM => k_is)
    (case nR => k_is)

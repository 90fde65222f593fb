import PyProof.Rows.All
import Wide.All
import OpenK.AllK
import Wide.FinOn
import HandS.ForMost
import HandS.IsInst
import HandS.TupAny
import HandS.WideMore
import PySem.Challenge.RW_granary_k55_sights
import KE.GoesEnum
import HandS.Walk
set_option Elab.async false
namespace RK
open PySem L2
section
variable {X : Cx} {K : PySem.W.Frag}
theorem ixL (h : X.K = K := by rfl) : IxR X (rIxL K) := by subst h; exact ix_list
theorem ixT (h : X.K = K := by rfl) : IxR X (rIxT K) := by subst h; exact ix_tup
theorem ixQ (h : X.K = K := by rfl) : IxR X (rIx K) := by subst h; exact ix_seq
theorem eqD (hu : X.A.units + 64 < cLine) (h : X.K = K := by rfl) : OpR X (compareOp .Eq) (rEqD K) := by subst h; exact op_eqD hu
theorem neD (hu : X.A.units + 64 < cLine) (h : X.K = K := by rfl) : OpR X (compareOp .NotEq) (rNeD K) := by subst h; exact op_neD hu
theorem inQ (h : X.K = K := by rfl) : OpR X (compareOp .In) (rIn K false) := by subst h; exact op_in_seq
theorem notInQ (h : X.K = K := by rfl) : OpR X (compareOp .NotIn) (rIn K true) := by subst h; exact op_notIn_seq
def rLenQ (K : PySem.W.Frag) : List V → Hp → VK → Prop := fun xs H Q => ∃ p ys, xs = [.ref p] ∧ (SqL K H p ys ∨ SqT K H p ys) ∧ Q (.int ys.length) H
theorem lenQ (h : X.K = K := by rfl) : CallR X (.builtin "len") (rLenQ K) := by subst h; exact call_len_seq
def rListQ (K : PySem.W.Frag) : List V → Hp → VK → Prop := fun xs H Q => ∃ p ys, xs = [.ref p] ∧ (SqL K H p ys ∨ SqT K H p ys) ∧ ∀ l, H l = none → Q (.ref l) (upd H l (.lst ys))
theorem listQ (h : X.K = K := by rfl) : CallR X (.type "list") (rListQ K) := by subst h; exact call_list_of
def rTupQ (K : PySem.W.Frag) : List V → Hp → VK → Prop := fun xs H Q => ∃ p ys, xs = [.ref p] ∧ ((SqL K H p ys ∧ ∀ l, H l = none → Q (.ref l) (upd H l (.tup ys))) ∨ (SqT K H p ys ∧ Q (.ref p) H))
theorem tupQ (h : X.K = K := by rfl) : CallR X (.type "tuple") (rTupQ K) := by subst h; exact call_tuple_of
theorem slL (h : X.K = K := by rfl) : SlR X (rSlL K) := by subst h; exact sl_list
theorem slT (h : X.K = K := by rfl) : SlR X (rSlA K) := by subst h; exact sl_tupA
theorem catT (h : X.K = K := by rfl) : OpR X (binaryOp .Add) (rCatA K) := by subst h; exact op_catA
theorem isi (h : X.K = K := by rfl) : CallR X (.builtin "isinstance") (rIsi K) := by subst h; exact call_isi
theorem isiT (h : X.K = K := by rfl) : CallR X (.builtin "isinstance") (rIsiT K) := by subst h; exact call_isiT
theorem piL {tg l : Expr} {tl : TE} (hl : PE X l tl) (h : X.K = K := by rfl) : PI X tg l (iList K tl) := by subst h; exact pi_list hl
theorem piT {tg l : Expr} {tl : TE} (hl : PE X l tl) (h : X.K = K := by rfl) : PI X tg l (iTup K tl) := by subst h; exact pi_tup hl
def rAllQ (K : PySem.W.Frag) : List V → Hp → VK → Prop := fun xs H Q => ∃ (a : Addr) (bs : List Bool), xs = [.ref a] ∧ SqL K H a (bs.map V.bl) ∧ Q (.bl (bs.all id)) H
def rAnyQ (K : PySem.W.Frag) : List V → Hp → VK → Prop := fun xs H Q => ∃ (a : Addr) (bs : List Bool), xs = [.ref a] ∧ SqL K H a (bs.map V.bl) ∧ Q (.bl (bs.any id)) H
theorem allQ (hc : X.calm = true) (h : X.K = K := by rfl) : CallR X (.builtin "all") (rAllQ K) := by subst h; exact cr_all hc
theorem anyQ (hc : X.calm = true) (h : X.K = K := by rfl) : CallR X (.builtin "any") (rAnyQ K) := by subst h; exact cr_any hc
theorem pgTup {es : List Expr} {kk n : Nat} {pos : Pos} {t : TGs} (hc : X.calm = true) (ht : PGs X es t) (h : X.K = K := by rfl) (hn : (assignEach es X.env).length = n := by rfl) (hst : (assignEach es X.env).findIdx? (·.1) = none := by rfl) :
    PG X (.Tuple es kk pos) (gTup K n t) := by subst h; exact pg_tup hc ht hn hst
end
end RK

set_option Elab.async false
set_option maxRecDepth 100000
set_option maxHeartbeats 4000000
namespace G55
open PySem L2
def top (i : Nat) : Stmt := PySem.Challenge.pw_granary_k55_sights.main.body.getD i (.Pass ⟨0, 0, 0, 0⟩)
abbrev sCrossed : Stmt := top 1
abbrev sIn : Stmt := top 3
abbrev sBetween : Stmt := top 4
abbrev sWider : Stmt := top 5
abbrev sNone : Stmt := top 6
abbrev sHolds : Stmt := top 7
abbrev sBegun : Stmt := top 9
abbrev sTake : Stmt := top 10
abbrev sAlike : Stmt := top 11
abbrev sBounds : Stmt := top 12
abbrev sLIn : Stmt := top 13
abbrev sLaw : Stmt := top 14

/-- the box: its cells (a list of ints) and a number -/
def BoxAt (H : Hp) (a b : Addr) : Prop := ∃ (z : Int) (cs : List Int), H a = some (.lst [.ref b, .int z]) ∧ H b = some (.lst (cs.map V.int)) ∧ cs.length ≤ 63
/-- all but the box stays -/
def Keep (a b : Addr) (H H' : Hp) : Prop := ∀ x o, x ≠ a → x ≠ b → H x = some o → H' x = some o

structure Txt (mg : Str → Option Value) : Prop where
  len : mg "len" = none
  range : mg "range" = none
  list : mg "list" = none
  tuple : mg "tuple" = none
  int : mg "int" = none
  isi : mg "isinstance" = none

def spBegun (K : PySem.W.Frag) : Sp := fun vs H Q _ => ∃ (l : Addr) (ns : List Int), vs = [.ref l] ∧ SqL K H l (ns.map V.int) ∧ ns.length ≤ 63 ∧
  ∀ (a b : Addr) (H' : Hp), H a = none → H b = none → BoxAt H' a b → Same H H' → Q (.ref a) H'
section
variable {P : Program} {w : World} {K : PySem.W.Frag} {mg : Str → Option Value} {base : Heap}
theorem getI {ns : List Int} {i : Nat} {y : V} (h : (ns.map V.int)[i]? = some y) : ∃ z, ns[i]? = some z ∧ y = V.int z := by
  rw [List.getElem?_map] at h
  cases e : ns[i]? with
  | none => rw [e] at h; cases h
  | some u => rw [e] at h; exact ⟨u, rfl, (Option.some.inj h).symm⟩
theorem scBegun : FnScope ["_law_script", "_law_stirred", "_law_cell"] ["_law_script"] (defScope sBegun) := ⟨rfl, rfl, rfl, by decide +kernel, rfl, by decide +kernel, by decide +kernel⟩
theorem ok_begun {f : Addr} {fd : FuncData} (F : Fun K "_law_begun" "_law_begun" sBegun f fd) (T : Txt mg) : FnOk P w K mg base CX0 1 f fd ["_law_script"] (spBegun K) := by
  refine F.ok scBegun (fun vs H Q E h => ?_) (fun cdv A outer s H vs Q E hr h => ?_)
  · obtain ⟨l, ns, rfl, _⟩ := h
    rfl
  · obtain ⟨l, ns, rfl, hS, hl, k⟩ := h
    refine ⟨_, pss_cons (ps_set (i := 1) scBegun.nd rfl (Or.inl rfl) pe_int)
      (pss_cons (ps_for PassesOwn.never rfl (pi_list (pv 0)) (pg_name (i := 2) scBegun.nd rfl (Or.inl rfl))
        (pss_one (ps_set (i := 1) scBegun.nd rfl (Or.inl rfl) (pe_op op_mod (pe_op op_add (pe_op op_add (pe_op op_mul (pv 1) pe_int) (pe_op op_mul (pv 2) pe_int)) pe_int) pe_int))))
      (pss_one (ps_ret (pe_lst (pa_cons (pe_callTy call_list_of (by rfl) T.list (by decide +kernel) (pa_cons (pv 0) pa_nil))
        (pa_cons (pe_op op_mul (pv 1) (pe_callTy call_int1 (by rfl) T.int (by decide +kernel) (pa_cons (pe_cmpR op_gt (pe_callB call_len_seq (by rfl) T.len PySem.boot_len (pa_cons (pv 0) pa_nil)) pe_int (nomark _)) pa_nil))) pa_nil)))))), ?_⟩
    refine ⟨_, rfl, l, rfl, ⟨_, hS⟩, for_list (K := K) (a := l) (xs := ns.map V.int) (fun i σ H' => ∃ (z : Int) (v : Option V), σ = [some (.ref l), some (.int z), v] ∧ H' = H) ⟨0, none, rfl, rfl⟩ (fun i σ H' _ ⟨_, _, _, e⟩ => by rw [e]; exact hS) ?_ ?_⟩
    · rintro i y σ H' hi ⟨z, v, rfl, rfl⟩
      obtain ⟨u, _, rfl⟩ := getI hi
      refine ⟨_, rfl, _, _, rfl, rfl, .inr ⟨by decide, by decide⟩, _, rfl, _, _, rfl, rfl, .inr ⟨by decide, by decide⟩, _, _, rfl, rfl, _, _, rfl, rfl, _, _, rfl, rfl, (by show (0 : Int) < 2147483647; decide), _, _, rfl, rfl⟩
    · rintro σ H' ⟨z, v, rfl, rfl⟩
      have hp1 : ∀ p, H' p = none → SqL K (upd H' p (.lst (ns.map V.int))) l (ns.map V.int) := fun p hp => (show Same H' (upd H' p (.lst (ns.map V.int))) from fun c o e => by rw [upd_ne (ne_of_none e hp)]; exact e).seq hS
      refine ⟨_, rfl, l, _, rfl, .inl hS, fun p hp => ⟨_, rfl, _, rfl, l, _, rfl, .inl (hp1 p hp), _, _, rfl, rfl, .inr ⟨_, rfl, ?_⟩⟩⟩
      have hb : ∀ c : Bool, (-(2 ^ 64) < (if c = true then (1 : Int) else 0)) ∧ ((if c = true then (1 : Int) else 0) < 2 ^ 64) := fun c => by cases c <;> decide
      refine ⟨_, _, rfl, rfl, .inr (hb _), (by show 2 ≤ sizeLine; decide), fun q hq => ?_⟩
      have npq : p ≠ q := fun e => by rw [← e, upd_same] at hq; cases hq
      have hq0 : H' q = none := by rw [upd_ne npq.symm] at hq; exact hq
      refine k q p _ hq0 hp ⟨_, ns, upd_same, (by rw [upd_ne npq, upd_same]), hl⟩ (fun c o e => ?_)
      rw [upd_ne (ne_of_none e hq0), upd_ne (ne_of_none e hp)]
      exact e
end
/-- ints as data -/
theorem dpInts (K : PySem.W.Frag) (H : Hp) : ∀ ns : List Int, DpAll K H (ns.map V.int) (ns.map PyData.int)
  | [] => .nil
  | n :: r => .cons (.int n) (dpInts K H r)
theorem eqv_nil (ds : List PyData) : PyData.eqv (.list ds) (.list []) = ds.isEmpty := by
  cases ds <;> simp [PyData.eqv, PyData.eqvAll]
theorem Keep.refl (a b : Addr) (H : Hp) : Keep a b H H := fun _ _ _ _ h => h
theorem Keep.trans {a b : Addr} {H H1 H2 : Hp} (p : Keep a b H H1) (q : Keep a b H1 H2) : Keep a b H H2 := fun x o h1 h2 h => q x o h1 h2 (p x o h1 h2 h)
theorem Keep.at1 {a b : Addr} {H : Hp} {o : HO} : Keep a b H (upd H a o) := fun x u h1 _ h => by rw [upd_ne h1]; exact h
theorem Keep.at2 {a b : Addr} {H : Hp} {o : HO} : Keep a b H (upd H b o) := fun x u _ h2 h => by rw [upd_ne h2]; exact h
theorem Keep.new {a b p : Addr} {H : Hp} {o : HO} (hp : H p = none) : Keep a b H (upd H p o) := fun x u _ _ h => by rw [upd_ne (ne_of_none h hp)]; exact h
theorem fmod_lt {x n : Int} (h : 0 < n) : 0 ≤ x.fmod n ∧ x.fmod n < n := ⟨Int.fmod_nonneg_of_pos x h, Int.fmod_lt_of_pos x h⟩
theorem at0 {x : V} {xs : List V} : atI (x :: xs) 0 = some x := atI_nat (j := 0) rfl
theorem ix0 {n : Nat} : ixN (n + 1) 0 = some 0 := by
  unfold ixN
  rw [if_pos (by decide), if_pos (by omega)]
  rfl
def spTake (_K : PySem.W.Frag) : Sp := fun vs H Q _ => ∃ (a b : Addr) (n : Int), vs = [.ref a, .int n] ∧ 0 < n ∧ n < 1000000 ∧ BoxAt H a b ∧
  ∀ (r : Int) (H' : Hp), 0 ≤ r → r < n → BoxAt H' a b → Keep a b H H' → Q (.int r) H'
section
variable {P : Program} {w : World} {K : PySem.W.Frag} {mg : Str → Option Value} {base : Heap}
theorem scTake : FnScope ["_law_box", "_law_many", "_law_drawn"] ["_law_box", "_law_many"] (defScope sTake) := ⟨rfl, rfl, rfl, by decide +kernel, rfl, by decide +kernel, by decide +kernel⟩
theorem ok_take {f : Addr} {fd : FuncData} (F : Fun K "_law_take" "_law_take" sTake f fd) (T : Txt mg) : FnOk P w K mg base CX0 1 f fd ["_law_box", "_law_many"] (spTake K) := by
  refine F.ok scTake (fun vs H Q E h => ?_) (fun cdv A outer s H vs Q E hr h => ?_)
  · obtain ⟨a, b, n, rfl, _⟩ := h
    rfl
  · obtain ⟨a, b, n, rfl, n0, n1, ⟨z, cs, ha, hb, hc⟩, k⟩ := h
    refine ⟨_, pss_cons (ps_if (pt_cmpR (op_eqD hr.units) (pe_ix ix_list (pv 0) pe_int (fun _ _ => rfl)) (pe_lst pa_nil) (nomark _))
        (pss_cons (ps_asg (pe_op op_mod (pe_op op_mul (pe_ix ix_list (pv 0) pe_int (fun _ _ => rfl)) pe_int) pe_int) (pg_sub (pv 0) pe_int set_list))
          (pss_one (ps_ret (pe_op op_modN (pe_op op_fdiv (pe_ix ix_list (pv 0) pe_int (fun _ _ => rfl)) pe_int) (pv 1))))) pss_nil)
      (pss_cons (ps_set (i := 2) scTake.nd rfl (Or.inl rfl) (pe_ix ix_list (pe_ix ix_list (pv 0) pe_int (fun _ _ => rfl)) pe_int (fun _ _ => rfl)))
      (pss_cons (ps_asg (pe_op op_fdivN (pv 2) (pv 1)) (pg_sub (pe_ix ix_list (pv 0) pe_int (fun _ _ => rfl)) pe_int set_list))
      (pss_cons (ps_if (PW.pt (pw_or (pt_cmpR op_eq (pe_ix ix_list (pe_ix ix_list (pv 0) pe_int (fun _ _ => rfl)) pe_int (fun _ _ => rfl)) pe_int (nomark _))
            (pw_or1 (pt_cmpR op_eq (pe_ix ix_list (pe_ix ix_list (pv 0) pe_int (fun _ _ => rfl)) pe_int (fun _ _ => rfl)) (pe_un un_neg pe_int) (nomark _)))))
          (pss_one (ps_expr (pe_bm PySem.F.plainAttrs_list PySem.F.slot_list_pop PySem.F.type_list_pop mt_popAt (pe_ix ix_list (pv 0) pe_int (fun _ _ => rfl)) (pa_cons pe_int pa_nil)))) pss_nil)
      (pss_one (ps_ret (pe_op op_modN (pv 2) (pv 1))))))), ?_⟩
    have nab : a ≠ b := ne_of ha hb (by
      intro e
      injection e with e
      cases cs with
      | nil => cases e
      | cons c r => rw [List.map_cons] at e; injection e with e1 _; cases e1)
    refine ⟨_, rfl, a, _, _, _, rfl, rfl, SqL.of ha, rfl, (by show 0 ≤ sizeLine; decide), fun e he => ?_⟩
    have nae : a ≠ e := ne_of_none ha he
    have nbe : b ≠ e := ne_of_none hb he
    have ha1 : upd H e (.lst []) a = some (.lst [.ref b, .int z]) := by rw [upd_ne nae]; exact ha
    have hb1 : upd H e (.lst []) b = some (.lst (cs.map V.int)) := by rw [upd_ne nbe]; exact hb
    refine ⟨_, _, .lst (SqL.of hb1) (dpInts K _ cs), .lst (SqL.of upd_same) .nil, PySem.W.shaped_ints cs, rfl, _, rfl, ?_⟩
    rw [eqv_nil]
    cases cs with
    | nil =>
      refine iteT ?_
      refine ⟨_, rfl, a, _, _, _, rfl, rfl, SqL.of ha1, rfl, _, _, rfl, rfl, .inr ⟨by decide, by decide⟩, _, _, rfl, rfl, (by show (0 : Int) < 2147483647; decide), ?_⟩
      refine ⟨_, rfl, a, _, _, 1, rfl, rfl, ha1, rfl, ?_⟩
      refine ⟨_, rfl, a, _, _, _, rfl, rfl, SqL.of upd_same, rfl, _, _, rfl, rfl, ⟨by decide, by decide⟩, _, rfl, _, _, rfl, rfl, (by show n ≠ 0; omega), ?_⟩
      refine k _ _ (fmod_lt n0).1 (fmod_lt n0).2 ⟨_, [], upd_same, (by rw [upd_ne nab.symm]; exact hb1), hc⟩ ((Keep.new he).trans Keep.at1)
    | cons c r =>
      refine iteF ?_
      have b0 : upd H e (.lst []) b = some (.lst (V.int c :: r.map V.int)) := hb1
      refine ⟨_, rfl, a, _, _, _, rfl, rfl, SqL.of ha1, rfl, b, _, _, _, rfl, rfl, SqL.of b0, at0, ?_⟩
      -- box[0][0] = drawn // many
      refine ⟨_, rfl, _, rfl, _, _, rfl, rfl, ⟨by omega, by omega⟩, _, rfl, a, _, _, _, rfl, rfl, SqL.of ha1, rfl, b, _, _, 0, rfl, rfl, b0, ix0, ?_⟩
      have nba := nab.symm
      let q := c.fdiv n
      have ha2 : upd (upd H e (.lst [])) b (.lst (V.int q :: r.map V.int)) a = some (.lst [.ref b, .int z]) := by rw [upd_ne nab]; exact ha1
      have hb2 : upd (upd H e (.lst [])) b (.lst (V.int q :: r.map V.int)) b = some (.lst (V.int q :: r.map V.int)) := upd_same
      have kp : Keep a b H (upd (upd H e (.lst [])) b (.lst (V.int q :: r.map V.int))) := (Keep.new he).trans Keep.at2
      have lr : r.length ≤ 62 := by rw [List.length_cons] at hc; omega
      have fin : ∀ H', BoxAt H' a b → Keep a b H H' → tRet (tOp (rI (fun x j => j ≠ 0) fun i j => V.int (i.fmod j)) (tVar 2) (tVar 1)) { nx := fun _ H' => Q .non H', rt := Q } [some (.ref a), some (.int n), some (.int c)] H' := fun H' B K' =>
        ⟨_, rfl, _, rfl, _, _, rfl, rfl, (by show n ≠ 0; omega), k _ _ (fmod_lt n0).1 (fmod_lt n0).2 B K'⟩
      have popped : tDrop (tBM K "list" rPopAt (tOp (rIxL K) (tVar 0) (tC (V.int 0))) (tCons (tC (.int 0)) tNil)) { nx := fun σ H' => tRet (tOp (rI (fun x j => j ≠ 0) fun i j => V.int (i.fmod j)) (tVar 2) (tVar 1)) { nx := fun _ H' => Q .non H', rt := Q } σ H', rt := Q } [some (.ref a), some (.int n), some (.int c)] (upd (upd H e (.lst [])) b (.lst (V.int q :: r.map V.int))) :=
        ⟨_, rfl, a, _, _, _, rfl, rfl, SqL.of ha2, rfl, .inl ⟨rfl, _, SqL.of hb2⟩, b, _, _, 0, _, rfl, rfl, hb2, by decide, by decide, (ixN_seq ix0).1, rfl, by
          refine fin _ ⟨z, r, (by rw [upd_ne nab]; exact ha2), upd_same, by omega⟩ (kp.trans Keep.at2)⟩
      refine ⟨_, rfl, a, _, _, _, rfl, rfl, SqL.of ha2, rfl, b, _, _, _, rfl, rfl, SqL.of hb2, at0, rfl, _, rfl, ?_⟩
      refine ite2 (fun _ => iteT popped) (fun _ => ?_)
      refine ⟨_, rfl, a, _, _, _, rfl, rfl, SqL.of ha2, rfl, b, _, _, _, rfl, rfl, SqL.of hb2, at0, _, rfl, rfl, _, rfl, ?_⟩
      refine ite2 (fun _ => popped) (fun _ => ?_)
      exact fin _ ⟨z, q :: r, ha2, hb2, by rw [List.length_cons]; omega⟩ kp
end
end G55

namespace G55
open PySem L2
abbrev Span := Option Int × Option Int
def oV : Option Int → V
  | none => .non
  | some i => .int i
/-- at f the tuple of the fields -/
abbrev FsAt (K : PySem.W.Frag) (H : Hp) (f : Addr) (fs : List Str) : Prop := SqT K H f (fs.map V.str)
def BdRel (K : PySem.W.Frag) (H : Hp) (kv : Key × V) (p : Str × Span) : Prop := kv.1 = .inr p.1 ∧ ∃ t, kv.2 = .ref t ∧ SqT K H t [oV p.2.1, oV p.2.2]
/-- at d the dict of such spans -/
def BdAt (K : PySem.W.Frag) (H : Hp) (d : Addr) (bs : List (Str × Span)) : Prop := ∃ kvs, H d = some (.dK kvs) ∧ Paired (BdRel K H) kvs bs
theorem sqT_mono {K : PySem.W.Frag} {H H' : Hp} {a : Addr} {xs : List V} (k : ∀ o, (∀ ys, o ≠ .lst ys) → H a = some o → H' a = some o) (h : SqT K H a xs) : SqT K H' a xs := by
  rcases h with (h | ⟨o, h⟩) | h
  · exact .inl (.inl (k _ (fun _ e => nomatch e) h))
  · exact .inl (.inr ⟨o, k _ (fun _ e => nomatch e) h⟩)
  · exact .inr h
/-- all that is no list stays -/
def KeepN (H H' : Hp) : Prop := ∀ x o, (∀ ys, o ≠ .lst ys) → H x = some o → H' x = some o
theorem Keep.n {a b : Addr} {H H' : Hp} (B : BoxAt H a b) (k : Keep a b H H') : KeepN H H' := fun x o no h => by
  obtain ⟨z, cs, ha, hb, _⟩ := B
  exact k x o (fun e => by rw [e, ha] at h; cases h; exact no _ rfl) (fun e => by rw [e, hb] at h; cases h; exact no _ rfl) h
theorem KeepN.of {H H' : Hp} (s : Same H H') : KeepN H H' := fun x o _ h => s x o h
theorem KeepN.trans {H H1 H2 : Hp} (p : KeepN H H1) (q : KeepN H1 H2) : KeepN H H2 := fun x o no h => q x o no (p x o no h)
theorem KeepN.t {K : PySem.W.Frag} {H H' : Hp} (k : KeepN H H') {a : Addr} {xs : List V} (h : SqT K H a xs) : SqT K H' a xs := sqT_mono (k a) h
theorem paired_mono {K : PySem.W.Frag} {H H' : Hp} (k : KeepN H H') : ∀ {kvs : List (Key × V)} {bs : List (Str × Span)}, Paired (BdRel K H) kvs bs → Paired (BdRel K H') kvs bs
  | _, _, .nil => .nil
  | _, _, .cons ⟨e, t, e2, h⟩ r => .cons ⟨e, t, e2, k.t h⟩ (paired_mono k r)
theorem KeepN.d {K : PySem.W.Frag} {H H' : Hp} (k : KeepN H H') {d : Addr} {bs : List (Str × Span)} (h : BdAt K H d bs) : BdAt K H' d bs := by
  obtain ⟨kvs, hd, p⟩ := h
  exact ⟨kvs, k d _ (fun _ e => nomatch e) hd, paired_mono k p⟩
theorem look_bd {K : PySem.W.Frag} {H : Hp} (f : Str) : ∀ {kvs : List (Key × V)} {bs : List (Str × Span)}, Paired (BdRel K H) kvs bs →
    (bs.lookup f = none ∧ valV kvs (.inr f) = none) ∨ ∃ sp t, bs.lookup f = some sp ∧ valV kvs (.inr f) = some (.ref t) ∧ SqT K H t [oV sp.1, oV sp.2]
  | _, _, .nil => .inl ⟨rfl, rfl⟩
  | (k, v) :: kvs, (g, sp) :: bs, .cons ⟨e, t, e2, h⟩ r => by
    have e : k = .inr g := e
    have e2 : v = .ref t := e2
    subst e; subst e2
    by_cases q : f = g
    · subst q
      refine .inr ⟨sp, t, by simp [List.lookup], valV_pos rfl, h⟩
    · have n1 : ((f == g) : Bool) = false := by simpa using q
      have n2 : ¬ ((Sum.inr g : Key) = .inr f) := fun z => q (Sum.inr.inj z).symm
      rw [show valV ((Sum.inr g, V.ref t) :: kvs) (.inr f) = valV kvs (.inr f) from valV_neg n2]
      rw [show List.lookup f ((g, sp) :: bs) = List.lookup f bs by simp [List.lookup, n1]]
      exact look_bd f r
theorem has_bd {K : PySem.W.Frag} {H : Hp} (f : Str) : ∀ {kvs : List (Key × V)} {bs : List (Str × Span)}, Paired (BdRel K H) kvs bs → f ∉ bs.map (·.1) → (kvs.any fun kv => decide (kv.1 = (Sum.inr f : Key))) = false
  | _, _, .nil, _ => rfl
  | (k, v) :: kvs, (g, sp) :: bs, .cons ⟨e, _, _, _⟩ r, hn => by
    have e : k = .inr g := e
    subst e
    rw [List.map_cons, List.mem_cons, not_or] at hn
    rw [List.any_cons, has_bd f r hn.2, Bool.or_false]
    exact decide_eq_false fun z => hn.1 (Sum.inr.inj z).symm
theorem paired_snoc {K : PySem.W.Frag} {H : Hp} {kv : Key × V} {p : Str × Span} {kvs : List (Key × V)} {bs : List (Str × Span)} (h : Paired (BdRel K H) kvs bs) (r : BdRel K H kv p) : Paired (BdRel K H) (kvs ++ [kv]) (bs ++ [p]) := Paired.snoc h r
theorem paired_len {K : PySem.W.Frag} {H : Hp} {kvs : List (Key × V)} {bs : List (Str × Span)} (h : Paired (BdRel K H) kvs bs) : kvs.length = bs.length := Paired.length h

def belowLo : Option Int → Int → Bool
  | none, _ => false
  | some l, n => decide (n < l)
def aboveHi : Option Int → Int → Bool
  | none, _ => false
  | some l, n => decide (l < n)
/-- a number within a span -/
def inSpan (sp : Span) (n : Int) : Bool := (match sp.1 with | none => true | some lo => decide (lo ≤ n)) && (match sp.2 with | none => true | some hi => decide (n ≤ hi))
def inOpt (o : Option Span) (n : Int) : Bool := match o with | none => true | some sp => inSpan sp n
/-- a row within bounds -/
def within (bs : List (Str × Span)) (fs : List Str) (ns : List Int) : Bool := (fs.zip ns).all fun p => inOpt (bs.lookup p.1) p.2

structure Cal (P : Program) (w : World) (K : PySem.W.Frag) (mg : Str → Option Value) (base : Heap) (k : Nat) (x : Str) (ps : List Str) (sp : Sp) (f : Addr) (fd : FuncData) : Prop where
  g : mg x = some (.ref f)
  kp : PySem.W.keepIn K (.ref f) = true
  b : Binds K fd ps []
  G : FnOk P w K mg base CX0 k f fd ps sp
structure Txt2 (mg : Str → Option Value) : Prop extends Txt mg where
  bool : mg "bool" = none
  str : mg "str" = none
def spAlikeB : Sp := fun vs H Q _ => ∃ x y : Bool, vs = [.bl x, .bl y] ∧ Q (.bl (decide (x = y))) H
def spBounds (K : PySem.W.Frag) : Sp := fun vs H Q _ => ∃ (a b f : Addr) (fs : List Str), vs = [.ref a, .ref f] ∧ BoxAt H a b ∧ FsAt K H f fs ∧ fs.Nodup ∧ fs.length ≤ 4 ∧
  ∀ (d : Addr) (H' : Hp) (bs : List (Str × Span)), BoxAt H' a b → Keep a b H H' → H d = none → BdAt K H' d bs → (bs.map (·.1)).Nodup → bs.length ≤ 4 → (∀ x ∈ bs.map (·.1), x ∈ fs) → Q (.ref d) H'
def spLIn (K : PySem.W.Frag) : Sp := fun vs H Q _ => ∃ (r f d : Addr) (fs : List Str) (ns : List Int) (bs : List (Str × Span)), vs = [.ref r, .ref f, .ref d] ∧ SqT K H r (ns.map V.int) ∧ FsAt K H f fs ∧ ns.length = fs.length ∧ fs.length ≤ 4 ∧ BdAt K H d bs ∧
  ∀ H', Same H H' → Q (.bl (within bs fs ns)) H'
section
variable {P : Program} {w : World} {K : PySem.W.Frag} {mg : Str → Option Value} {base : Heap}
theorem scAlike : FnScope ["_law_found", "_law_due", "_law_k"] ["_law_found", "_law_due"] (defScope sAlike) := ⟨rfl, rfl, rfl, by decide +kernel, rfl, by decide +kernel, by decide +kernel⟩
theorem ok_alike {f : Addr} {fd : FuncData} (F : Fun K "_law_alike" "_law_alike" sAlike f fd) (T : Txt2 mg) (hi : mg "isinstance" = none) : FnOk P w K mg base CX0 1 f fd ["_law_found", "_law_due"] spAlikeB := by
  refine F.ok scAlike (fun vs H Q E h => ?_) (fun cdv A outer s H vs Q E hr h => ?_)
  · obtain ⟨x, y, rfl, _⟩ := h
    rfl
  · obtain ⟨x, y, rfl, k⟩ := h
    refine ⟨_, (pss_cons (ps_if (pt_cmpR op_isN (pv 1) pe_non (nomark _)) (pss_one (ps_ret (pe_cmpR op_isN (pv 0) pe_non (nomark _)))) pss_nil)
      (pss_cons (ps_if (pt_val (pe_callB call_isi (by rfl) hi (by decide +kernel) (pa_cons (pv 1) (pa_cons (pe_bltn (v := .ty "bool") (u := .type "bool") (by rfl) T.bool (by decide +kernel) rfl) pa_nil)))) (pss_one (ps_ret (pe_and (pe_callB call_isi (by rfl) hi (by decide +kernel) (pa_cons (pv 0) (pa_cons (pe_bltn (v := .ty "bool") (u := .type "bool") (by rfl) T.bool (by decide +kernel) rfl) pa_nil))) (pe_one (pe_cmpR op_eq (pv 0) (pv 1) (nomark _)))))) pss_nil)
      (pss_cons ps_never (pss_cons ps_never (pss_cons ps_never (pss_cons ps_never (pss_cons ps_never (pss_one ps_never)))))))), ?_⟩
    have kb : PySem.W.kitOne K (.type "bool") (.type "bool") = some true := by
      unfold PySem.W.kitOne
      rw [if_pos (by decide)]
    refine ⟨_, rfl, rfl, _, rfl, iteF ?_⟩
    refine ⟨_, rfl, _, _, _, _, true, rfl, .ty "bool", .base (.bl y), kb, _, rfl, iteT ?_⟩
    refine ⟨_, rfl, _, _, _, _, true, rfl, .ty "bool", .base (.bl x), kb, _, rfl, iteT ?_⟩
    refine ⟨_, rfl, _, rfl, rfl, ?_⟩
    have e : decide (V.bl x = V.bl y) = decide (x = y) := by cases x <;> cases y <;> rfl
    show Q (.bl (decide (V.bl x = V.bl y))) H
    rw [e]
    exact k
theorem scLIn : FnScope ["_law_row", "_law_fields", "_law_spans", "_law_k", "_law_low", "_law_high"] ["_law_row", "_law_fields", "_law_spans"] (defScope sLIn) := ⟨rfl, rfl, rfl, by decide +kernel, rfl, by decide +kernel, by decide +kernel⟩
theorem ok_lin {f : Addr} {fd : FuncData} (F : Fun K "_law_in" "_law_in" sLIn f fd) (T : Txt2 mg) : FnOk P w K mg base CX0 1 f fd ["_law_row", "_law_fields", "_law_spans"] (spLIn K) := by
  refine F.ok scLIn (fun vs H Q E h => ?_) (fun cdv A outer s H vs Q E hr h => ?_)
  · obtain ⟨r, f, d, fs, ns, bs, rfl, _⟩ := h
    rfl
  · obtain ⟨r, f, d, fs, ns, bs, rfl, hr0, hf, hl, h4, hd, k⟩ := h
    refine ⟨_, (pss_cons (ps_for PassesOwn.never rfl (pi_range1 rfl T.range (pa_cons (pe_callB call_len_seq (by rfl) T.len PySem.boot_len (pa_cons (pv 1) pa_nil)) pa_nil)) (pg_name (i := 3) scLIn.nd rfl (Or.inl rfl))
        (pss_cons (ps_asg (pe_dget2 (hu_of hr) (pv 2) (pe_ix ix_tup (pv 1) (pv 3) (fun _ _ => rfl)) (pe_tup (pa_cons pe_non (pa_cons pe_non pa_nil))) ⟨rfl, rfl, rfl, rfl⟩) (pg_tup rfl (pgs_cons (pg_name (i := 4) scLIn.nd rfl (Or.inl rfl)) (pgs_cons (pg_name (i := 5) scLIn.nd rfl (Or.inl rfl)) pgs_nil))))
        (pss_one (ps_if (PW.pt (pw_or (PW.pt (pw_and (pt_cmpR op_notN (pv 4) pe_non (nomark _)) (pw_and1 (pt_cmpR op_lt (pe_ix ix_tup (pv 0) (pv 3) (fun _ _ => rfl)) (pv 4) (nomark _))))) (pw_or1 (PW.pt (pw_and (pt_cmpR op_notN (pv 5) pe_non (nomark _)) (pw_and1 (pt_cmpR op_gt (pe_ix ix_tup (pv 0) (pv 3) (fun _ _ => rfl)) (pv 5) (nomark _)))))))) (pss_one (ps_ret pe_bl)) pss_nil))))
      (pss_one (ps_ret pe_bl))), ?_⟩

    have lf : (fs.map V.str).length = fs.length := List.length_map ..
    refine ⟨_, rfl, f, _, rfl, .inr hf, _, rfl, (by omega), (by omega), for_range (lo := 0) (n := (fs.map V.str).length) (fun i σ H' => ∃ v3 v4 v5, σ = [some (.ref r), some (.ref f), some (.ref d), v3, v4, v5] ∧ Same H H' ∧ within bs (fs.take i) (ns.take i) = true)
      ⟨none, none, none, rfl, Same.refl H, rfl⟩ ?_ ?_⟩
    · rintro i σ H' hi ⟨v3, v4, v5, rfl, sm, wi⟩
      have hi1 : i < fs.length := by omega
      have hi2 : i < ns.length := by omega
      have kn := KeepN.of sm
      obtain ⟨kvs, hd1, pr⟩ := kn.d hd
      have e0 : (0 : Int) + (i : Nat) = ((i : Nat) : Int) := by omega
      show tSeq _ _ _ _ _
      rw [e0]
      have ef : atI (fs.map V.str) ((i : Nat) : Int) = some (.str fs[i]) := atI_nat (by rw [List.getElem?_map, List.getElem?_eq_getElem hi1]; rfl)
      have en : atI (ns.map V.int) ((i : Nat) : Int) = some (.int ns[i]) := atI_nat (by rw [List.getElem?_map, List.getElem?_eq_getElem hi2]; rfl)
      refine ⟨_, rfl, d, rfl, .inl ⟨kvs, .inl hd1⟩, _, rfl, _, rfl, f, _, _, _, rfl, rfl, kn.t hf, ef, (by show 2 ≤ sizeLine; decide), fun p hp => ?_⟩
      have kp : Same H' (upd H' p (.tup [.non, .non])) := fun b o e => by rw [upd_ne (ne_of_none e hp)]; exact e
      have kq := KeepN.of kp
      refine ⟨valV kvs (.inr fs[i]), DGet.k (k := .inr fs[i]) (kp _ _ hd1), ?_⟩
      have key : ∃ t lo hi, (valV kvs (.inr fs[i])).getD (.ref p) = .ref t ∧ SqT K (upd H' p (.tup [.non, .non])) t [oV lo, oV hi] ∧ inOpt (bs.lookup fs[i]) ns[i] = inSpan (lo, hi) ns[i] := by
        rcases look_bd fs[i] pr with ⟨e1, e2⟩ | ⟨sp, t, e1, e2, ht⟩
        · exact ⟨p, none, none, by rw [e2]; rfl, SqT.of upd_same, by rw [e1]; rfl⟩
        · exact ⟨t, sp.1, sp.2, by rw [e2]; rfl, kq.t ht, by rw [e1]; rfl⟩
      obtain ⟨t, lo, hh, e1, ht, e2⟩ := key
      refine ⟨t, _, e1, ht, rfl, _, _, rfl, _, _, rfl, rfl, ?_⟩
      have kr := (kn.trans kq).t hr0
      have step : within bs (fs.take (i + 1)) (ns.take (i + 1)) = inSpan (lo, hh) ns[i] := by
        have h1 : fs.take (i + 1) = fs.take i ++ [fs[i]] := by rw [List.take_add_one, List.getElem?_eq_getElem hi1]; rfl
        have h2 : ns.take (i + 1) = ns.take i ++ [ns[i]] := by rw [List.take_add_one, List.getElem?_eq_getElem hi2]; rfl
        unfold within at wi ⊢
        rw [h1, h2, List.zip_append (by rw [List.length_take, List.length_take]; omega), List.all_append, wi, e2.symm]
        simp
      have nowi : inSpan (lo, hh) ns[i] = false → within bs fs ns = false := fun z => by
        have h1 : fs = fs.take (i + 1) ++ fs.drop (i + 1) := (List.take_append_drop ..).symm
        have h2 : ns = ns.take (i + 1) ++ ns.drop (i + 1) := (List.take_append_drop ..).symm
        have z2 := step.trans z
        unfold within at z2 ⊢
        rw [h1, h2, List.zip_append (by rw [List.length_take, List.length_take]; omega), List.all_append, z2]
        rfl
      let H2 := upd H' p (.tup [.non, .non])
      let σ2 : St := [some (.ref r), some (.ref f), some (.ref d), some (.int ((i : Nat) : Int)), some (oV lo), some (oV hh)]
      have tA : ∀ Qb : Bool → Hp → Prop, Qb (belowLo lo ns[i]) H2 → tAnd (tTest (tOp (fun x y H Q => y = .non ∧ Q (.bl (!decide (x = .non))) H) (tVar 4) (tC .non))) (tTest (tOp (rI0 fun i j => .bl (decide (i < j))) (tOp (rIxT K) (tVar 0) (tVar 3)) (tVar 4))) σ2 H2 Qb := fun Qb q => by
        cases lo with
        | none => exact ⟨_, rfl, rfl, _, rfl, iteF q⟩
        | some l => exact ⟨_, rfl, rfl, _, rfl, iteT ⟨_, rfl, _, rfl, r, _, _, _, rfl, rfl, kr, en, _, rfl, _, _, rfl, rfl, _, rfl, q⟩⟩
      have tBn : ∀ Qb : Bool → Hp → Prop, Qb (aboveHi hh ns[i]) H2 → tAnd (tTest (tOp (fun x y H Q => y = .non ∧ Q (.bl (!decide (x = .non))) H) (tVar 5) (tC .non))) (tTest (tOp (rI0 fun i j => .bl (decide (j < i))) (tOp (rIxT K) (tVar 0) (tVar 3)) (tVar 5))) σ2 H2 Qb := fun Qb q => by
        cases hh with
        | none => exact ⟨_, rfl, rfl, _, rfl, iteF q⟩
        | some l => exact ⟨_, rfl, rfl, _, rfl, iteT ⟨_, rfl, _, rfl, r, _, _, _, rfl, rfl, kr, en, _, rfl, _, _, rfl, rfl, _, rfl, q⟩⟩
      have fin : ∀ a b : Bool, a = (belowLo lo ns[i]) → b = (aboveHi hh ns[i]) → inSpan (lo, hh) ns[i] = (!a && !b) := fun a b ea eb => by
        subst ea; subst eb
        unfold inSpan
        congr 1
        · cases lo with
          | none => rfl
          | some l =>
            show decide (l ≤ ns[i]) = !decide (ns[i] < l)
            rw [← decide_not]
            exact decide_eq_decide.mpr (by omega)
        · cases hh with
          | none => rfl
          | some l =>
            show decide (ns[i] ≤ l) = !decide (l < ns[i])
            rw [← decide_not]
            exact decide_eq_decide.mpr (by omega)
      refine tA _ ?_
      generalize eA : belowLo lo ns[i] = bA
      have out : inSpan (lo, hh) ns[i] = false → Q (.bl false) H2 := fun z => by
        have q := k H2 (sm.trans kp)
        rw [nowi z] at q
        exact q
      cases bA with
      | true => exact iteT (iteT (out (by rw [fin true _ eA.symm rfl]; rfl)))
      | false =>
        refine iteF (tBn _ ?_)
        generalize eB : aboveHi hh ns[i] = bB
        cases bB with
        | true => exact iteT (out (by rw [fin false true eA.symm eB.symm]; rfl))
        | false => exact iteF ⟨_, _, _, rfl, sm.trans kp, by rw [step, fin false false eA.symm eB.symm]; rfl⟩
    · rintro σ H' ⟨v3, v4, v5, rfl, sm, wi⟩
      have q := k H' sm
      rw [lf, List.take_length, ← hl, List.take_length] at wi
      rw [wi] at q
      exact q
end
end G55

namespace G55
open PySem L2
theorem BoxAt.same {H H' : Hp} {a b : Addr} (B : BoxAt H a b) (s : Same H H') : BoxAt H' a b := by
  obtain ⟨z, cs, h1, h2, h3⟩ := B
  exact ⟨z, cs, s _ _ h1, s _ _ h2, h3⟩
theorem Same.new {H : Hp} {p : Addr} {o : HO} (hp : H p = none) : Same H (upd H p o) := fun b u e => by rw [upd_ne (ne_of_none e hp)]; exact e
theorem Keep.same {a b : Addr} {H H' : Hp} (s : Same H H') : Keep a b H H' := fun x o _ _ h => s x o h
section
variable {P : Program} {w : World} {K : PySem.W.Frag} {mg : Str → Option Value} {base : Heap}
theorem scBounds : FnScope ["_law_box", "_law_fields", "_law_found", "_law_field", "_law_low", "_law_high"] ["_law_box", "_law_fields"] (defScope sBounds) := ⟨rfl, rfl, rfl, by decide +kernel, rfl, by decide +kernel, by decide +kernel⟩
theorem ok_bounds {f ft : Addr} {fd fdt : FuncData} (F : Fun K "_law_bounds" "_law_bounds" sBounds f fd) (T : Txt2 mg) (Ctake : Cal P w K mg base 1 "_law_take" ["_law_box", "_law_many"] (spTake K) ft fdt) :
    FnOk P w K mg base CX0 2 f fd ["_law_box", "_law_fields"] (spBounds K) := by
  refine F.ok scBounds (fun vs H Q E h => ?_) (fun cdv A outer s H vs Q E hr h => ?_)
  · obtain ⟨a, b, f, fs, rfl, _⟩ := h
    rfl
  · obtain ⟨a, b, f, fs, rfl, B, hf, nd, h4, k⟩ := h
    have hr1 : Room 1 _ := hr.mono (by decide)
    refine ⟨_, (pss_cons (ps_set (i := 2) scBounds.nd rfl (Or.inl rfl) pe_dnewK)
      (pss_cons (ps_for PassesOwn.never rfl (pi_tup (pv 1)) (pg_name (i := 3) scBounds.nd rfl (Or.inl rfl))
        (pss_one (ps_if (pt_cmpR op_eq (pe_call Ctake.G hr1 rfl Ctake.g Ctake.kp Ctake.b .nil pass0 (pa_cons (pv 0) (pa_cons pe_int pa_nil))) pe_int (nomark _)) (pss_cons (ps_par (i := 4) (j := 5) (by rfl) scBounds.nd rfl rfl (by decide) rfl rfl (pa_cons (pe_call Ctake.G hr1 rfl Ctake.g Ctake.kp Ctake.b .nil pass0 (pa_cons (pv 0) (pa_cons pe_int pa_nil))) (pa_cons (pe_call Ctake.G hr1 rfl Ctake.g Ctake.kp Ctake.b .nil pass0 (pa_cons (pv 0) (pa_cons pe_int pa_nil))) pa_nil)) (by rfl))
          (pss_one (ps_dput (hu_of hr) (pv 2) (pv 3) (pe_ix ix_list (pe_lst (pa_cons (pe_tup (pa_cons (pv 4) (pa_cons (pv 5) pa_nil))) (pa_cons (pe_tup (pa_cons pe_non (pa_cons (pv 5) pa_nil))) (pa_cons (pe_tup (pa_cons (pv 4) (pa_cons pe_non pa_nil))) (pa_cons (pe_tup (pa_cons pe_non (pa_cons pe_non pa_nil))) (pa_cons (pe_tup (pa_cons (pv 4) (pa_cons (pv 4) pa_nil))) pa_nil)))))) (pe_call Ctake.G hr1 rfl Ctake.g Ctake.kp Ctake.b .nil pass0 (pa_cons (pv 0) (pa_cons pe_int pa_nil))) (fun _ _ => rfl)) rfl))) pss_nil)))
      (pss_one (ps_ret (pv 2))))), ?_⟩

    intro d hd
    have lf : (fs.map V.str).length = fs.length := List.length_map ..
    have s0 := Same.new (o := .dK []) hd
    refine ⟨_, rfl, f, rfl, ⟨_, (KeepN.of s0).t hf⟩, for_tup (K := K) (a := f) (xs := fs.map V.str) (fun i σ H' => ∃ v3 v4 v5 bs, σ = [some (.ref a), some (.ref f), some (.ref d), v3, v4, v5] ∧ BoxAt H' a b ∧ Keep a b H H' ∧ BdAt K H' d bs ∧ (bs.map (·.1)).Sublist (fs.take i))
      ⟨none, none, none, [], rfl, B.same s0, Keep.same s0, ⟨[], upd_same, .nil⟩, List.Sublist.refl _⟩ (fun i σ H' _ ⟨_, _, _, _, _, _, kp, _⟩ => (kp.n B).t hf) ?_ ?_⟩
    · rintro i y σ H0 hi ⟨v3, v4, v5, bs, rfl, B0, kp0, D0, sub⟩
      have hi1 : i < fs.length := by have q := (List.getElem?_eq_some_iff.mp hi).1; omega
      obtain rfl : y = .str fs[i] := by rw [List.getElem?_map, List.getElem?_eq_getElem hi1] at hi; exact (Option.some.inj hi).symm
      have tk : fs.take (i + 1) = fs.take i ++ [fs[i]] := by rw [List.take_add_one, List.getElem?_eq_getElem hi1]; rfl
      have sub1 : (bs.map (·.1)).Sublist (fs.take (i + 1)) := by rw [tk]; exact sub.trans (List.sublist_append_left _ _)
      refine ⟨_, rfl, a, b, 2, rfl, by decide, by decide, B0, fun r1 H1 _ _ B1 kp1 => ⟨rfl, _, rfl, ite2 (fun _ => ?_) (fun _ => ?_)⟩⟩
      · have kp01 := kp0.trans kp1
        have D1 := (kp1.n B0).d D0
        refine ⟨_, rfl, a, b, 6, rfl, by decide, by decide, B1, fun lo H2 _ _ B2 kp2 => ⟨_, rfl, a, b, 6, rfl, by decide, by decide, B2, fun hh H3 _ _ B3 kp3 => ⟨_, _, rfl, ?_⟩⟩⟩
        have D3 := (kp3.n B2).d ((kp2.n B1).d D1)
        have kp03 := kp01.trans (kp2.trans kp3)
        refine ⟨_, rfl, _, rfl, (by show 2 ≤ sizeLine; decide), fun p1 hp1 => ⟨_, rfl, (by show 2 ≤ sizeLine; decide), fun p2 hp2 => ⟨_, rfl, (by show 2 ≤ sizeLine; decide), fun p3 hp3 => ⟨(by show 2 ≤ sizeLine; decide), fun p4 hp4 => ⟨_, rfl, _, rfl, (by show 2 ≤ sizeLine; decide), fun p5 hp5 => ⟨(by show 5 ≤ sizeLine; decide), fun l hl => ?_⟩⟩⟩⟩⟩⟩
        have s1 := Same.new (o := .tup [.int lo, .int hh]) hp1
        have s2 := Same.new (o := .tup [.non, .int hh]) hp2
        have s3 := Same.new (o := .tup [.int lo, .non]) hp3
        have s4 := Same.new (o := .tup [.non, .non]) hp4
        have s5 := Same.new (o := .tup [.int lo, .int lo]) hp5
        have s6 := Same.new (o := .lst [.ref p1, .ref p2, .ref p3, .ref p4, .ref p5]) hl
        have s16 := s1.trans (s2.trans (s3.trans (s4.trans (s5.trans s6))))
        have B6 := B3.same s16
        refine ⟨_, rfl, a, b, 5, rfl, by decide, by decide, B6, fun r H7 r0 r5 B7 kp7 => ?_⟩
        have kn7 := kp7.n B6
        have nla : l ≠ a := fun e => by
          obtain ⟨z, cs, ha, _⟩ := B3
          have q := (s1.trans (s2.trans (s3.trans (s4.trans s5)))) _ _ ha
          rw [← e, hl] at q
          cases q
        have nlb : l ≠ b := fun e => by
          obtain ⟨z, cs, _, hb, _⟩ := B3
          have q := (s1.trans (s2.trans (s3.trans (s4.trans s5)))) _ _ hb
          rw [← e, hl] at q
          cases q
        have hl7 : H7 l = some (.lst [.ref p1, .ref p2, .ref p3, .ref p4, .ref p5]) := kp7 l _ nla nlb upd_same
        have key : ∃ (t : Addr) (sp : Span), atI [V.ref p1, .ref p2, .ref p3, .ref p4, .ref p5] r = some (.ref t) ∧ SqT K H7 t [oV sp.1, oV sp.2] := by
          have h : r = 0 ∨ r = 1 ∨ r = 2 ∨ r = 3 ∨ r = 4 := by omega
          rcases h with rfl | rfl | rfl | rfl | rfl
          · exact ⟨p1, (some lo, some hh), rfl, kn7.t (SqT.of ((s2.trans (s3.trans (s4.trans (s5.trans s6)))) _ _ upd_same))⟩
          · exact ⟨p2, (none, some hh), rfl, kn7.t (SqT.of ((s3.trans (s4.trans (s5.trans s6))) _ _ upd_same))⟩
          · exact ⟨p3, (some lo, none), rfl, kn7.t (SqT.of ((s4.trans (s5.trans s6)) _ _ upd_same))⟩
          · exact ⟨p4, (none, none), rfl, kn7.t (SqT.of ((s5.trans s6) _ _ upd_same))⟩
          · exact ⟨p5, (some lo, some lo), rfl, kn7.t (SqT.of (s6 _ _ upd_same))⟩
        obtain ⟨t, sp, e1, ht⟩ := key
        have kp07 : Keep a b H H7 := kp03.trans ((Keep.same s16).trans kp7)
        obtain ⟨kvs, hd7, pr⟩ := kn7.d ((KeepN.of s16).d D3)
        have lk : kvs.length ≤ 4 := by
          rw [paired_len pr]
          have q := sub.length_le
          rw [List.length_map, List.length_take] at q
          omega
        refine ⟨l, _, r, _, rfl, rfl, SqL.of hl7, e1, _, rfl, _, rfl, d, _, rfl, DPut.k (k := .inr fs[i]) hd7 (Nat.lt_of_le_of_lt lk (by decide)), ?_⟩
        have nin : fs[i] ∉ bs.map (·.1) := fun m => by
          have q := sub.subset m
          have nd2 : (fs.take (i + 1)).Nodup := nd.sublist (List.take_sublist _ _)
          rw [tk, List.nodup_append] at nd2
          exact nd2.2.2 _ q _ (List.mem_singleton.mpr rfl) rfl
        have pe : putK kvs (.inr fs[i]) (.ref t) = kvs ++ [(.inr fs[i], .ref t)] := by
          unfold putK
          rw [has_bd _ pr nin]
          rfl
        have nda : d ≠ a := fun e => by obtain ⟨z, cs, ha, _⟩ := B; rw [e, ha] at hd; cases hd
        have ndb : d ≠ b := fun e => by obtain ⟨z, cs, _, hb, _⟩ := B; rw [e, hb] at hd; cases hd
        have kn8 : KeepN H7 (upd H7 d (.dK (putK kvs (.inr fs[i]) (.ref t)))) → True := fun _ => trivial
        have tt : ∀ t' xs, SqT K H7 t' xs → SqT K (upd H7 d (.dK (putK kvs (.inr fs[i]) (.ref t)))) t' xs := fun t' xs h => by
          rcases h with (h | ⟨o, h⟩) | h
          · exact .inl (.inl (by rw [upd_ne (ne_of h hd7 (fun e => nomatch e))]; exact h))
          · exact .inl (.inr ⟨o, by rw [upd_ne (ne_of h hd7 (fun e => nomatch e))]; exact h⟩)
          · exact .inr h
        have pm : ∀ {kvs : List (Key × V)} {bs : List (Str × Span)}, Paired (BdRel K H7) kvs bs → Paired (BdRel K (upd H7 d (.dK (putK kvs (.inr fs[i]) (.ref t))))) kvs bs → True := fun _ _ => trivial
        have pm2 : ∀ (H9 : Hp), (∀ t' xs, SqT K H7 t' xs → SqT K H9 t' xs) → ∀ {kvs : List (Key × V)} {bs : List (Str × Span)}, Paired (BdRel K H7) kvs bs → Paired (BdRel K H9) kvs bs := fun H9 m kvs bs p => by
          induction p with
          | nil => exact .nil
          | cons h _ ih => exact .cons ⟨h.1, h.2.elim fun t q => ⟨t, q.1, m _ _ q.2⟩⟩ ih
        refine ⟨_, _, _, bs ++ [(fs[i], sp)], rfl, ?_, ?_, ⟨_, upd_same, ?_⟩, ?_⟩
        · obtain ⟨z, cs, ha, hb, hc⟩ := B7
          exact ⟨z, cs, by rw [upd_ne nda.symm]; exact ha, by rw [upd_ne ndb.symm]; exact hb, hc⟩
        · intro x o h1 h2 h
          have q := kp07 x o h1 h2 h
          rw [upd_ne (ne_of_none h hd)]
          exact q
        · rw [pe]
          have tt2 := tt
          rw [pe] at tt2
          exact paired_snoc (pm2 _ tt2 pr) ⟨rfl, t, rfl, tt2 _ _ ht⟩
        · rw [List.map_append, tk]
          exact List.Sublist.append sub (List.Sublist.refl _)
      · exact ⟨_, _, _, bs, rfl, B1, kp0.trans kp1, (kp1.n B0).d D0, sub1⟩
    · rintro σ H' ⟨v3, v4, v5, bs, rfl, B', kp, D', sub⟩
      rw [lf, List.take_length] at sub
      refine ⟨_, rfl, k d H' bs B' kp hd D' (nd.sublist sub) ?_ fun x m => sub.subset m⟩
      have q := sub.length_le
      rw [List.length_map] at q
      exact Nat.le_trans q h4
end
end G55

namespace G55
open PySem L2
def spIsIn (K : PySem.W.Frag) : Sp := fun vs H Q _ => (∃ (r f d : Addr) (fs : List Str) (ns : List Int) (bs : List (Str × Span)), vs = [.ref r, .ref f, .ref d] ∧ SqT K H r (ns.map V.int) ∧ FsAt K H f fs ∧ ns.length = fs.length ∧ fs.length ≤ 4 ∧ fs.Nodup ∧ BdAt K H d bs ∧ (bs.map (·.1)).Nodup ∧
  ∀ H', Same H H' → Q (.bl (within bs fs ns)) H') ∨ ∃ f d, vs = [.non, .ref f, .ref d] ∧ ∀ H', Same H H' → Q (.bl false) H'
def spWider (K : PySem.W.Frag) (W : List (Str × Span) → List (Str × Span) → Bool) : Sp := fun vs H Q _ => ∃ (d e : Addr) (bs cs : List (Str × Span)), vs = [.ref d, .ref e] ∧ BdAt K H d bs ∧ BdAt K H e cs ∧ (bs.map (·.1)).Nodup ∧ (cs.map (·.1)).Nodup ∧
  bs.length ≤ 4 ∧ cs.length ≤ 4 ∧
  ∀ H', Same H H' → Q (.bl (W bs cs)) H'
def spLaw (K : PySem.W.Frag) : Sp := fun vs H Q _ => ∃ (a : Addr) (ns : List Int), vs = [.ref a] ∧ SqL K H a (ns.map V.int) ∧ ns.length ≤ 63 ∧ ∀ H', Q (.bl true) H'
theorem cb1 {r : List V → Hp → VK → Prop} {ta : TE} {σ : St} {H : Hp} {Q : VK} (h : ta σ H fun x H1 => r [x] H1 Q) : tCB r (tCons ta tNil) σ H Q := h
theorem sa1 {te : TE} {g : TG} {u : TS} {D : Ends} {σ : St} {H : Hp} (h : te σ H fun x H1 => g x σ H1 (u D)) : tSeq (tAsg te g) u D σ H := h
theorem sif {c : TT} {t e u : TS} {D : Ends} {σ : St} {H : Hp} (h : c σ H fun b H1 => if b = true then t { D with nx := u D } σ H1 else e { D with nx := u D } σ H1) : tSeq (tIfS c t e) u D σ H := h
/-- a list of rows at l -/
def RowsAt (K : PySem.W.Frag) (H : Hp) (l : Addr) (n : Nat) (ts : List (Addr × List Int)) : Prop := H l = some (.lst (ts.map fun p => V.ref p.1)) ∧ ∀ p ∈ ts, SqT K H p.1 (p.2.map V.int) ∧ p.2.length = n
theorem RowsAt.same {K : PySem.W.Frag} {H H' : Hp} {l : Addr} {n : Nat} {ts : List (Addr × List Int)} (s : Same H H') (h : RowsAt K H l n ts) : RowsAt K H' l n ts := ⟨s _ _ h.1, fun p m => ⟨(KeepN.of s).t (h.2 p m).1, (h.2 p m).2⟩⟩
section
variable {P : Program} {w : World} {K : PySem.W.Frag} {mg : Str → Option Value} {base : Heap}
/-- ("id", "x", "y", "z")[:1 + take(box, 4)] -/
theorem te_fields {σ : St} {H : Hp} {Q : VK} {a b : Addr} (hσ : σ[1]? = some (some (.ref a))) (B : BoxAt H a b)
    (k : ∀ (fA : Addr) (H2 : Hp) (fs : List Str), BoxAt H2 a b → Keep a b H H2 → FsAt K H2 fA fs → fs.Nodup → fs.length ≤ 4 → Q (.ref fA) H2) :
    tSl (rSlA K) (tTup (tCons (tC (V.str (Str.ofString "id"))) (tCons (tC (V.str (Str.ofString "x"))) (tCons (tC (V.str (Str.ofString "y"))) (tCons (tC (V.str (Str.ofString "z"))) tNil))))) tNoPart
      (tPart (tOp (rI0 fun i j => V.int (i + j)) (tC (V.int 1)) (tCall (spTake K) [] E0 (tCons (tVar 1) (tCons (tC (V.int 4)) tNil))))) σ H Q := by
  refine ⟨(by show 4 ≤ sizeLine; decide), fun p hp => ⟨_, hσ, a, b, 4, rfl, by decide, by decide, B.same (Same.new hp), fun r H1 r0 r4 B1 kp1 => ⟨_, _, rfl, rfl, _, rfl, ?_⟩⟩⟩
  have s0 : Same H _ := Same.new (o := .tup [.str (Str.ofString "id"), .str (Str.ofString "x"), .str (Str.ofString "y"), .str (Str.ofString "z")]) hp
  have kn := kp1.n (B.same s0)
  have kp : Keep a b H H1 := (Keep.same s0).trans kp1
  have ht : SqT K H1 p [.str (Str.ofString "id"), .str (Str.ofString "x"), .str (Str.ofString "y"), .str (Str.ofString "z")] := kn.t (SqT.of upd_same)
  have h : r = 0 ∨ r = 1 ∨ r = 2 ∨ r = 3 := by omega
  refine ⟨p, _, rfl, ht, fun hw => ?_, fun hw q hq => ?_⟩
  · rcases h with rfl | rfl | rfl | rfl
    · exact absurd hw.2 (by decide)
    · exact absurd hw.2 (by decide)
    · exact absurd hw.2 (by decide)
    · exact k p H1 [Str.ofString "id", Str.ofString "x", Str.ofString "y", Str.ofString "z"] B1 kp ht (by decide +kernel) (by decide)
  · have B2 := B1.same (Same.new (o := .tup (cutV [.str (Str.ofString "id"), .str (Str.ofString "x"), .str (Str.ofString "y"), .str (Str.ofString "z")] none (some (1 + r)))) hq)
    have kp2 : Keep a b H _ := kp.trans (Keep.same (Same.new (o := .tup (cutV [.str (Str.ofString "id"), .str (Str.ofString "x"), .str (Str.ofString "y"), .str (Str.ofString "z")] none (some (1 + r)))) hq))
    rcases h with rfl | rfl | rfl | rfl
    · exact k q _ [Str.ofString "id"] B2 kp2 (SqT.of upd_same) (by decide +kernel) (by decide)
    · exact k q _ [Str.ofString "id", Str.ofString "x"] B2 kp2 (SqT.of upd_same) (by decide +kernel) (by decide)
    · exact k q _ [Str.ofString "id", Str.ofString "x", Str.ofString "y"] B2 kp2 (SqT.of upd_same) (by decide +kernel) (by decide)
    · exact absurd ⟨rfl, rfl⟩ hw
/-- [take(box, 8) - 1 for field in fields] -/
theorem te_row {σ : St} {H : Hp} {Q : VK} {a b fA : Addr} {fs : List Str} (hσ : (wipe σ [7])[1]? = some (some (.ref a))) (hw : ∀ x, wipe ((wipe σ [7]).set 7 x) [7] = wipe σ [7]) (hσ1 : ∀ x, ((wipe σ [7]).set 7 x)[1]? = some (some (.ref a))) (hσ3 : σ[3]? = some (some (.ref fA))) (B : BoxAt H a b)
    (hf : FsAt K H fA fs) (h4 : fs.length ≤ 4) (k : ∀ (l : Addr) (H2 : Hp) (ns : List Int), BoxAt H2 a b → Keep a b H H2 → H l = none → H2 l = some (.lst (ns.map V.int)) → ns.length = fs.length → Q (.ref l) H2) :
    tLc (iTup K (tVar 3)) (gName 7) tYes (tOp (rI0 fun i j => V.int (i - j)) (tCall (spTake K) [] E0 (tCons (tVar 1) (tCons (tC (V.int 8)) tNil))) (tC (V.int 1))) (List.map (fun x => x.snd) [(Str.ofString "_law_field", 7)]) σ H Q := by
  have lf : (fs.map V.str).length = fs.length := List.length_map ..
  have nD : ∀ D, H D = none → D ≠ a ∧ D ≠ b := fun D hD => by
    obtain ⟨z, cs, ha, hb, _⟩ := B
    exact ⟨fun e => (by rw [e, ha] at hD; cases hD), fun e => (by rw [e, hb] at hD; cases hD)⟩
  refine ⟨_, hσ3, fA, rfl, ⟨_, hf⟩, fun D hD => lc_tup (K := K) (a := fA) (xs := fs.map V.str) (fun i H' => ∃ ns : List Int, BoxAt H' a b ∧ Keep a b H H' ∧ H' D = some (.lst (ns.map V.int)) ∧ ns.length = i)
    ⟨[], B.same (Same.new hD), Keep.same (Same.new hD), upd_same, rfl⟩ (fun i H' _ ⟨_, _, kp, _⟩ => (kp.n B).t hf) ?_ ?_⟩
  · rintro i x H' hx ⟨ns, B', kp, hl, hn⟩
    refine ⟨hw _, ?_⟩
    refine ⟨_, hσ1 _, a, b, 8, rfl, by decide, by decide, B', fun r H1 _ _ B1 kp1 => ⟨_, _, rfl, rfl, ns.map V.int, kp1 D _ (nD D hD).1 (nD D hD).2 hl, ?_, ns ++ [r - 1], ?_, ?_, ?_, ?_⟩⟩
    · have q := (List.getElem?_eq_some_iff.mp hx).1
      rw [List.length_map]
      exact Nat.lt_of_le_of_lt (show ns.length ≤ 4 by omega) (by decide)
    · obtain ⟨z, cs, ha, hb, hc⟩ := B1
      exact ⟨z, cs, by rw [upd_ne (nD D hD).1.symm]; exact ha, by rw [upd_ne (nD D hD).2.symm]; exact hb, hc⟩
    · intro x o h1 h2 h
      rw [upd_ne (ne_of_none h hD)]
      exact kp1 x o h1 h2 (kp x o h1 h2 h)
    · rw [upd_same, List.map_append]
      rfl
    · rw [List.length_append, hn]
      rfl
  · rintro H' ⟨ns, B', kp, hl, hn⟩
    exact k D H' ns B' kp hD hl (hn.trans lf)
/-- [tuple([..]) for k in range(9)] -/
theorem te_rows {v0 v2 v4 v5 v6 v7 v8 v9 v10 : Option V} {H : Hp} {Q : VK} {a b fA : Addr} {fs : List Str} (B : BoxAt H a b) (hf : FsAt K H fA fs) (h4 : fs.length ≤ 4)
    (k : ∀ (l : Addr) (H2 : Hp) (ts : List (Addr × List Int)), BoxAt H2 a b → Keep a b H H2 → RowsAt K H2 l fs.length ts → ts.length ≤ 9 → Q (.ref l) H2) :
    tLc (iRng1 (tCons (tC (V.int 9)) tNil)) (gName 8) tYes (tCB (RK.rTupQ K) (tCons
      (tLc (iTup K (tVar 3)) (gName 7) tYes (tOp (rI0 fun i j => V.int (i - j)) (tCall (spTake K) [] E0 (tCons (tVar 1) (tCons (tC (V.int 8)) tNil))) (tC (V.int 1))) (List.map (fun x => x.snd) [(Str.ofString "_law_field", 7)])) tNil))
      (List.map (fun x => x.snd) [(Str.ofString "_law_k", 8)]) [v0, some (.ref a), v2, some (.ref fA), v4, v5, v6, v7, v8, v9, v10] H Q := by
  have nD : ∀ D, H D = none → D ≠ a ∧ D ≠ b := fun D hD => by
    obtain ⟨z, cs, ha, hb, _⟩ := B
    exact ⟨fun e => (by rw [e, ha] at hD; cases hD), fun e => (by rw [e, hb] at hD; cases hD)⟩
  refine ⟨9, rfl, by decide, by decide, fun D hD => lc_range (lo := 0) (n := 9) (fun i H' => ∃ ts, BoxAt H' a b ∧ Keep a b H H' ∧ RowsAt K H' D fs.length ts ∧ ts.length = i)
    ⟨[], B.same (Same.new hD), Keep.same (Same.new hD), ⟨upd_same, fun p m => by cases m⟩, rfl⟩ ?_ ?_⟩
  · rintro i H' hi ⟨ts, B', kp, ⟨hl, hts⟩, hn⟩
    refine ⟨rfl, ?_⟩
    refine cb1 (te_row (K := K) (fs := fs) rfl (fun _ => rfl) (fun _ => rfl) rfl B' ((kp.n B).t hf) h4 fun l H2 ns B2 kp2 hl0 hl2 hn2 => ⟨l, _, rfl, .inl ⟨SqL.of hl2, fun t ht => ?_⟩⟩)
    have s3 := Same.new (o := .tup (ns.map V.int)) ht
    have hD2 : upd H2 t (.tup (ns.map V.int)) D = some (.lst (ts.map fun p => V.ref p.1)) := s3 _ _ (kp2 D _ (nD D hD).1 (nD D hD).2 hl)
    have kn2 := kp2.n B'
    have tt : ∀ t' xs, SqT K (upd H2 t (.tup (ns.map V.int))) t' xs → SqT K (upd (upd H2 t (.tup (ns.map V.int))) D (.lst ((ts.map fun p => V.ref p.1) ++ [.ref t]))) t' xs := fun t' xs h => by
      rcases h with (h | ⟨o, h⟩) | h
      · exact .inl (.inl (by rw [upd_ne (ne_of h hD2 (fun e => nomatch e))]; exact h))
      · exact .inl (.inr ⟨o, by rw [upd_ne (ne_of h hD2 (fun e => nomatch e))]; exact h⟩)
      · exact .inr h
    refine ⟨ts.map fun p => V.ref p.1, hD2, ?_, ts ++ [(t, ns)], ?_, ?_, ⟨?_, ?_⟩, ?_⟩
    · rw [List.length_map, hn]
      exact Nat.lt_of_lt_of_le hi (by decide)
    · obtain ⟨z, cs, ha, hb, hc⟩ := B2.same s3
      exact ⟨z, cs, by rw [upd_ne (nD D hD).1.symm]; exact ha, by rw [upd_ne (nD D hD).2.symm]; exact hb, hc⟩
    · intro x o h1 h2 h
      rw [upd_ne (ne_of_none h hD)]
      exact s3 _ _ (kp2 x o h1 h2 (kp x o h1 h2 h))
    · rw [upd_same, List.map_append]
      rfl
    · intro p m
      rcases List.mem_append.mp m with m | m
      · exact ⟨tt _ _ ((KeepN.of s3).t (kn2.t (hts p m).1)), (hts p m).2⟩
      · obtain rfl := List.mem_singleton.mp m
        exact ⟨tt _ _ (SqT.of upd_same), hn2⟩
    · rw [List.length_append, hn]
      rfl
  · rintro H' ⟨ts, B', kp, R, hn⟩
    exact k D H' ts B' kp R (by omega)
theorem scLaw : FnScope ["_law_script", "_law_box", "_law_turn", "_law_fields", "_law_one", "_law_other", "_law_rows", "_law_field", "_law_k", "_law_row", "_law_some"] ["_law_script"] (defScope sLaw) := ⟨rfl, rfl, rfl, by decide +kernel, rfl, by decide +kernel, by decide +kernel⟩
theorem ok_law {W : List (Str × Span) → List (Str × Span) → Bool} {f f1 f2 f3 f4 f5 f6 f7 : Addr} {fd fd1 fd2 fd3 fd4 fd5 fd6 fd7 : FuncData} (F : Fun K "law" "law" sLaw f fd) (T : Txt2 mg)
    (Cbegun : Cal P w K mg base 3 "_law_begun" ["_law_script"] (spBegun K) f1 fd1) (Ctake : Cal P w K mg base 3 "_law_take" ["_law_box", "_law_many"] (spTake K) f2 fd2)
    (Calike : Cal P w K mg base 3 "_law_alike" ["_law_found", "_law_due"] spAlikeB f3 fd3) (Cbounds : Cal P w K mg base 3 "_law_bounds" ["_law_box", "_law_fields"] (spBounds K) f4 fd4)
    (Cin : Cal P w K mg base 3 "_law_in" ["_law_row", "_law_fields", "_law_spans"] (spLIn K) f5 fd5)
    (Cis_in : Cal P w K mg base 3 "is_in" ["row", "fields", "bounds"] (spIsIn K) f6 fd6) (Cis_wider : Cal P w K mg base 3 "is_wider" ["one", "other"] (spWider K W) f7 fd7)
    (hW1 : ∀ bs, (bs.map (·.1)).Nodup → W bs bs = true) (hW2 : ∀ bs, W [] bs = true) (hW3 : ∀ bs cs, (bs.map (·.1)).Nodup → (cs.map (·.1)).Nodup → W bs cs = true → ∀ fs ns, fs.Nodup → (∀ x ∈ cs.map (·.1), x ∈ fs) → ns.length = fs.length → within cs fs ns = true → within bs fs ns = true) :
    FnOk P w K mg base CX0 4 f fd ["_law_script"] (spLaw K) := by
  refine F.ok scLaw (fun vs H Q E h => ?_) (fun cdv A outer s H vs Q E hr h => ?_)
  · obtain ⟨a, ns, rfl, _⟩ := h
    rfl
  · obtain ⟨l0, ns0, rfl, hS, hl, k⟩ := h
    have hr1 : Room 3 _ := hr.mono (by decide)
    refine ⟨_, (pss_cons (ps_set (i := 1) scLaw.nd rfl (Or.inr rfl) (pe_call Cbegun.G hr1 rfl Cbegun.g Cbegun.kp Cbegun.b .nil pass0 (pa_cons (pv 0) pa_nil)))
      (pss_cons (ps_for PassesOwn.never rfl (pi_range1 rfl T.range (pa_cons pe_int pa_nil)) (pg_name (i := 2) scLaw.nd rfl (Or.inl rfl))
        (pss_cons (ps_set (i := 3) scLaw.nd rfl (Or.inr rfl) (pe_slice (RK.slT (K := K)) (pe_tup (pa_cons pe_str (pa_cons pe_str (pa_cons pe_str (pa_cons pe_str pa_nil))))) po_none (po_some (pe_op op_add pe_int (pe_call Ctake.G hr1 rfl Ctake.g Ctake.kp Ctake.b .nil pass0 (pa_cons (pv 1) (pa_cons pe_int pa_nil)))))))
        (pss_cons (ps_asg (pe_tup (pa_cons (pe_call Cbounds.G hr1 rfl Cbounds.g Cbounds.kp Cbounds.b .nil pass0 (pa_cons (pv 1) (pa_cons (pv 3) pa_nil))) (pa_cons (pe_call Cbounds.G hr1 rfl Cbounds.g Cbounds.kp Cbounds.b .nil pass0 (pa_cons (pv 1) (pa_cons (pv 3) pa_nil))) pa_nil))) (RK.pgTup (K := K) rfl (pgs_cons (pg_name (i := 4) scLaw.nd rfl (Or.inr rfl)) (pgs_cons (pg_name (i := 5) scLaw.nd rfl (Or.inr rfl)) pgs_nil))))
        (pss_cons (ps_setLc (i := 6) (own := [("_law_k", 8)]) rfl scLaw.nd rfl rfl (sw_true rfl rfl rfl (by decide +kernel)) (pi_range1 rfl T.range (pa_cons pe_int pa_nil)) (blkOk_by (N := ["_law_script", "_law_box", "_law_turn", "_law_fields", "_law_one", "_law_other", "_law_rows", "_law_field", "_law_k", "_law_row", "_law_some"]) (sc := defScope sLaw) (by decide +kernel)) (fun _ _ _ _ _ => (pg_name (i := 8) scLaw.nd rfl (Or.inl rfl))) (fun _ _ _ _ _ => pts_nil) (fun _ _ _ _ _ => (pe_callTy (RK.tupQ (K := K)) (by rfl) T.tuple (by decide +kernel) (pa_cons (pe_lc (own := [("_law_field", 7)]) rfl scLaw.nd (RK.piT (K := K) (pv 3)) (blkOk_by (N := ["_law_script", "_law_box", "_law_turn", "_law_fields", "_law_one", "_law_other", "_law_rows", "_law_field", "_law_k", "_law_row", "_law_some"]) (sc := (relS { kind := .function, names := [(".0", .local), ("_law_k", .local), ("tuple", .globalImplicit), ("_law_box", .free), ("_law_fields", .free)], isGenerator := false, isCoroutine := false } (defScope sLaw))) (by decide +kernel)) (fun _ _ _ _ _ => (pg_name (i := 7) scLaw.nd rfl (Or.inl rfl))) (fun _ _ _ _ _ => pts_nil) (fun _ _ _ _ _ => (pe_op op_sub (pe_call Ctake.G hr1 rfl Ctake.g Ctake.kp Ctake.b .nil pass0 (pa_cons (pv 1) (pa_cons pe_int pa_nil))) pe_int))) pa_nil))))
        (pss_cons (ps_if (pt_cmpR (RK.neD (K := K) hr.units) (pe_lc (own := [("_law_row", 9)]) rfl scLaw.nd (RK.piL (K := K) (pv 6)) (blkOk_by (N := ["_law_script", "_law_box", "_law_turn", "_law_fields", "_law_one", "_law_other", "_law_rows", "_law_field", "_law_k", "_law_row", "_law_some"]) (sc := defScope sLaw) (by decide +kernel)) (fun _ _ _ _ _ => (pg_name (i := 9) scLaw.nd rfl (Or.inl rfl))) (fun _ _ _ _ _ => (pts_one (pt_not (pt_val (pe_call Calike.G hr1 rfl Calike.g Calike.kp Calike.b .nil pass0 (pa_cons (pe_call Cis_in.G hr1 rfl Cis_in.g Cis_in.kp Cis_in.b .nil pass0 (pa_cons (pv 9) (pa_cons (pv 3) (pa_cons (pv 4) pa_nil)))) (pa_cons (pe_call Cin.G hr1 rfl Cin.g Cin.kp Cin.b .nil pass0 (pa_cons (pv 9) (pa_cons (pv 3) (pa_cons (pv 4) pa_nil)))) pa_nil))))))) (fun _ _ _ _ _ => (pv 9))) (pe_lst pa_nil) (nomark _)) (pss_one (ps_ret pe_bl)) pss_nil)
        (pss_cons (ps_if (PW.pt (pw_or (pt_val (pe_call Cis_in.G hr1 rfl Cis_in.g Cis_in.kp Cis_in.b .nil pass0 (pa_cons pe_non (pa_cons (pv 3) (pa_cons (pv 4) pa_nil))))) (pw_or (pt_not (pt_val (pe_call Cis_wider.G hr1 rfl Cis_wider.g Cis_wider.kp Cis_wider.b .nil pass0 (pa_cons (pv 4) (pa_cons (pv 4) pa_nil))))) (pw_or1 (pt_not (pt_val (pe_call Cis_wider.G hr1 rfl Cis_wider.g Cis_wider.kp Cis_wider.b .nil pass0 (pa_cons pe_dnewK (pa_cons (pv 4) pa_nil))))))))) (pss_one (ps_ret pe_bl)) pss_nil)
        (pss_cons (ps_setLc (i := 10) (own := [("_law_row", 9)]) rfl scLaw.nd rfl rfl (sw_true rfl rfl rfl (by decide +kernel)) (RK.piL (K := K) (pv 6)) (blkOk_by (N := ["_law_script", "_law_box", "_law_turn", "_law_fields", "_law_one", "_law_other", "_law_rows", "_law_field", "_law_k", "_law_row", "_law_some"]) (sc := defScope sLaw) (by decide +kernel)) (fun _ _ _ _ _ => (pg_name (i := 9) scLaw.nd rfl (Or.inl rfl))) (fun _ _ _ _ _ => (pts_one (PW.pt (pw_and (pt_val (pe_call Cin.G hr1 rfl Cin.g Cin.kp Cin.b .nil pass0 (pa_cons (pv 9) (pa_cons (pv 3) (pa_cons (pv 5) pa_nil))))) (pw_and1 (pt_not (pt_val (pe_call Cin.G hr1 rfl Cin.g Cin.kp Cin.b .nil pass0 (pa_cons (pv 9) (pa_cons (pv 3) (pa_cons (pv 4) pa_nil))))))))))) (fun _ _ _ _ _ => (pv 9)))
        (pss_one (ps_if (PW.pt (pw_and (pt_val (pe_call Cis_wider.G hr1 rfl Cis_wider.g Cis_wider.kp Cis_wider.b .nil pass0 (pa_cons (pv 4) (pa_cons (pv 5) pa_nil)))) (pw_and1 (pt_cmpR (RK.neD (K := K) hr.units) (pv 10) (pe_lst pa_nil) (nomark _))))) (pss_one (ps_ret pe_bl)) pss_nil)))))))))
      (pss_one (ps_ret pe_bl)))), ?_⟩

    refine ⟨_, rfl, l0, ns0, rfl, hS, hl, fun a b H0 _ _ B0 _ => ?_⟩
    refine ⟨8, rfl, by decide, by decide, for_range (lo := 0) (n := 8) (fun i σ H' => ∃ v2 v3 v4 v5 v6 v7 v8 v9 v10, σ = [some (.ref l0), some (.ref a), v2, v3, v4, v5, v6, v7, v8, v9, v10] ∧ BoxAt H' a b)
      ⟨_, _, _, _, _, _, _, _, _, rfl, B0⟩ ?_ ?_⟩
    · rintro i σ H1 hi ⟨v2, v3, v4, v5, v6, v7, v8, v9, v10, rfl, B1⟩
      refine sa1 (te_fields (K := K) (by rfl) B1 fun fA H2 fs B2 _ hf nd h4 => ?_)
      refine ⟨_, rfl, _, rfl, a, b, fA, fs, rfl, B2, hf, nd, h4, fun d1 H3 bs B3 kp3 _ D1 nd1 l1 _ => ⟨_, rfl, _, rfl, a, b, fA, fs, rfl, B3, (kp3.n B2).t hf, nd, h4, fun d2 H4 cs B4 kp4 _ D2 nd2 l2 m2 => ?_⟩⟩
      have hf4 := (kp4.n B3).t ((kp3.n B2).t hf)
      refine ⟨(by show 2 ≤ sizeLine; decide), fun t ht => ?_⟩
      have s5 := Same.new (o := .tup [.ref d1, .ref d2]) ht
      refine ⟨t, _, rfl, SqT.of upd_same, rfl, _, _, rfl, _, _, rfl, rfl, ?_⟩
      refine sa1 (te_rows (K := K) (fs := fs) (B4.same s5) ((KeepN.of s5).t hf4) h4 fun l H6 ts B6 kp6 R6 lts => ?_)
      have kn6 : KeepN H4 H6 := (KeepN.of s5).trans (kp6.n (B4.same s5))
      have hf6 := kn6.t hf4
      have D16 := kn6.d ((kp4.n B3).d D1)
      have D26 := kn6.d D2
      have l9 : ts.length < sizeLine := Nat.lt_of_le_of_lt lts (by decide)
      have dn : ∀ ds : List PyData, PyData.eqv (.list ds) (.list []) = ds.isEmpty := eqv_nil
      -- [row for row in rows if not alike(..)] != []
      refine sif ?_
      refine ⟨_, rfl, l, rfl, ⟨_, SqL.of R6.1⟩, fun D hD => lc_list (K := K) (a := l) (xs := ts.map fun p => V.ref p.1) (fun i H' => Same H6 H' ∧ H' D = some (.lst []))
        ⟨Same.new hD, upd_same⟩ (fun i H' _ ⟨sm, _⟩ => SqL.of (sm _ _ R6.1)) ?_ ?_⟩
      · rintro i x H' hx ⟨sm, hd⟩
        obtain ⟨p, hp, rfl⟩ : ∃ p ∈ ts, x = V.ref p.1 := by
          have q := List.mem_of_getElem? hx
          obtain ⟨p, m, e⟩ := List.mem_map.mp q
          exact ⟨p, m, e.symm⟩
        have kn := KeepN.of sm
        refine ⟨rfl, _, rfl, _, rfl, _, rfl, .inl ⟨p.1, fA, d1, fs, p.2, bs, rfl, kn.t (R6.2 p hp).1, kn.t hf6, (R6.2 p hp).2, h4, nd, kn.d D16, nd1, fun H8 s8 => ?_⟩⟩
        have kn8 := kn.trans (KeepN.of s8)
        refine ⟨_, rfl, _, rfl, _, rfl, p.1, fA, d1, fs, p.2, bs, rfl, kn8.t (R6.2 p hp).1, kn8.t hf6, (R6.2 p hp).2, h4, kn8.d D16, fun H9 s9 => ?_⟩
        refine ⟨_, _, rfl, _, rfl, ?_⟩
        have e : (!decide (within bs fs p.2 = within bs fs p.2)) = false := by simp
        show (if (!decide (within bs fs p.2 = within bs fs p.2)) = true then _ else _)
        rw [e]
        exact iteF ⟨sm.trans (s8.trans s9), s9 _ _ (s8 _ _ hd)⟩
      · rintro H7 ⟨s7, hd7⟩
        refine ⟨(by show 0 ≤ sizeLine; decide), fun q hq => ?_⟩
        have s8 := Same.new (o := .lst []) hq
        refine ⟨.list [], .list [], .lst (SqL.of (s8 _ _ hd7)) .nil, .lst (SqL.of upd_same) .nil, rfl, rfl, _, rfl, ?_⟩
        rw [dn]
        refine iteF ?_
        have s68 := s7.trans s8
        have kn8 := KeepN.of s68
        -- is_in(None, ..) or not is_wider(one, one) or not is_wider({}, one)
        refine ⟨_, rfl, _, rfl, .inr ⟨fA, d1, rfl, fun H9 s9 => ⟨_, rfl, iteF ?_⟩⟩⟩
        have kn9 := kn8.trans (KeepN.of s9)
        refine ⟨_, rfl, _, rfl, d1, d1, bs, bs, rfl, kn9.d D16, kn9.d D16, nd1, nd1, l1, l1, fun Ha sa => ⟨_, rfl, ?_⟩⟩
        rw [hW1 bs nd1]
        refine iteF ?_
        intro e he
        have sb := Same.new (o := .dK []) he
        have kna := kn9.trans (KeepN.of sa)
        have knb := kna.trans (KeepN.of sb)
        refine ⟨_, rfl, e, d1, [], bs, rfl, ⟨[], upd_same, .nil⟩, knb.d D16, List.nodup_nil, nd1, Nat.zero_le _, l1, fun Hc sc => ⟨_, rfl, ?_⟩⟩
        rw [hW2 bs]
        refine iteF ?_
        have s6c : Same H6 Hc := s68.trans (s9.trans (sa.trans (sb.trans sc)))
        have Rc := R6.same s6c
        have knc := KeepN.of s6c
        -- some = [row for row in rows if in(row, fields, other) and not in(row, fields, one)]
        refine ⟨_, rfl, l, rfl, ⟨_, SqL.of Rc.1⟩, fun D2 hD2 => lc_list (K := K) (a := l) (xs := ts.map fun p => V.ref p.1) (fun i H' => Same Hc H' ∧ ∃ acc, H' D2 = some (.lst acc) ∧ acc.length ≤ i ∧ (W bs cs = true → acc = []))
          ⟨Same.new hD2, [], upd_same, Nat.le_refl _, fun _ => rfl⟩ (fun i H' _ ⟨sm, _⟩ => SqL.of (sm _ _ Rc.1)) ?_ ?_⟩
        · rintro i x H' hx ⟨sm, acc, hacc, hal, hw⟩
          have hi9 : i < ts.length := by
            have q := (List.getElem?_eq_some_iff.mp hx).1
            rw [List.length_map] at q
            exact q
          obtain ⟨p, hp, rfl⟩ : ∃ p ∈ ts, x = V.ref p.1 := by
            have q := List.mem_of_getElem? hx
            obtain ⟨p, m, e⟩ := List.mem_map.mp q
            exact ⟨p, m, e.symm⟩
          have kn := knc.trans (KeepN.of sm)
          refine ⟨rfl, _, rfl, _, rfl, _, rfl, p.1, fA, d2, fs, p.2, cs, rfl, kn.t (R6.2 p hp).1, kn.t hf6, (R6.2 p hp).2, h4, kn.d D26, fun H8 s8 => ⟨_, rfl, ?_⟩⟩
          have kn8 := kn.trans (KeepN.of s8)
          refine ite2 (fun c1 => ?_) (fun c1 => iteF ⟨sm.trans s8, acc, s8 _ _ hacc, Nat.le_succ_of_le hal, hw⟩)
          refine ⟨_, rfl, _, rfl, _, rfl, p.1, fA, d1, fs, p.2, bs, rfl, kn8.t (R6.2 p hp).1, kn8.t hf6, (R6.2 p hp).2, h4, kn8.d D16, fun H9 s9 => ⟨_, rfl, ?_⟩⟩
          have hacc9 := s9 _ _ (s8 _ _ hacc)
          cases c2 : within bs fs p.2 with
          | true => exact iteF ⟨sm.trans (s8.trans s9), acc, hacc9, Nat.le_succ_of_le hal, hw⟩
          | false =>
            refine iteT ⟨_, rfl, acc, hacc9, Nat.lt_of_le_of_lt (show acc.length ≤ ts.length by omega) l9, fun b o e => ?_, acc ++ [V.ref p.1], upd_same, by rw [List.length_append]; exact Nat.succ_le_succ hal, fun hW => ?_⟩
            · rw [upd_ne (ne_of_none e hD2)]
              exact s9 _ _ (s8 _ _ (sm _ _ e))
            · have q := hW3 bs cs nd1 nd2 hW fs p.2 nd m2 (R6.2 p hp).2 c1
              rw [c2] at q
              cases q
        · rintro Hd ⟨sd, acc, hacc, hal, hw⟩
          have knd := knc.trans (KeepN.of sd)
          have done : ∀ H', Same H6 H' → ∃ u2 u3 u4 u5 u6 u7 u8 u9 u10, [some (V.ref l0), some (V.ref a), some (.int (0 + ((i : Nat) : Int))), some (V.ref fA), some (V.ref d1), some (V.ref d2), some (V.ref l), v7, v8, v9, some (V.ref D2)] = [some (V.ref l0), some (V.ref a), u2, u3, u4, u5, u6, u7, u8, u9, u10] ∧ BoxAt H' a b :=
            fun H' s => ⟨_, _, _, _, _, _, _, _, _, rfl, B6.same s⟩
          refine ⟨_, rfl, _, rfl, d1, d2, bs, cs, rfl, knd.d D16, knd.d D26, nd1, nd2, l1, l2, fun He se => ⟨_, rfl, ?_⟩⟩
          cases c : W bs cs with
          | false => exact iteF (iteF (done He (s6c.trans (sd.trans se))))
          | true =>
            obtain rfl := hw c
            refine iteT ⟨_, rfl, (by show 0 ≤ sizeLine; decide), fun q2 hq2 => ?_⟩
            have s2 := Same.new (o := .lst []) hq2
            refine ⟨.list [], .list [], .lst (SqL.of (s2 _ _ (se _ _ hacc))) .nil, .lst (SqL.of upd_same) .nil, rfl, rfl, _, rfl, ?_⟩
            rw [dn]
            exact iteF (done _ (s6c.trans (sd.trans (se.trans s2))))
    · rintro σ H' ⟨v2, v3, v4, v5, v6, v7, v8, v9, v10, rfl, B1⟩
      exact k H'
end
end G55

set_option Elab.async false
set_option maxRecDepth 100000
set_option maxHeartbeats 4000000
namespace EN
open PySem PySem.Spec PyProof.Rows L2
open Sem (wp)
/-- enumerate(v) of anything whose iter is told -/
theorem enum_new1 {v : Value} {ob : Obj} {G : Heap → Prop} (B : Begins v ob G) :
    Meets (Builtin.«enumerate.__new__» ⟨[.type "enumerate", v], []⟩) (fun _ R s => G s.heap ∧
      R (.ok (.ret (.ref (s.heap.push ob).objs.size))) { s with heap := (s.heap.push ob).push ⟨.type "enumerate", none, .fields #[.none, .bool false, .ref s.heap.objs.size, rawInt 0, .none, .none], #[]⟩ }) :=
  .of_wp fun prog w A R sh hh => by
    obtain ⟨hp, gg, dd, tt, oo⟩ := sh; obtain ⟨g1, hh⟩ := hh
    have hsub := sub_enumerate
    have qi : ∀ {A' : Around} {E Q : Value → Shared → Prop}, Q (.ref hp.objs.size) ⟨hp.push ob, gg, dd, tt, oo⟩ → wpAny (model prog w) A' (pyIter v) Q E ⟨hp, gg, dd, tt, oo⟩ :=
      fun q => B.iter prog w _ _ ⟨hp, gg, dd, tt, oo⟩ _ g1 q
    wp_walk using qi
    refine wpAny_stack_any fun stk => wpAny_pure ?_
    split
    · rename_i cc _ _ _ _ _
      cases (cc == Value.type "enumerate")
      · wp_walk using qi
        exact ⟨_, rfl, hh⟩
      · wp_walk using qi
        exact ⟨_, rfl, hh⟩
    · wp_walk using qi
      exact ⟨_, rfl, hh⟩
theorem enum_call1 {prog : Program} {w : World} {A : Around} {E Q : Value → Shared → Prop} {s : Shared} {v : Value} {ob : Obj} {G : Heap → Prop} (B : Begins v ob G) (g1 : G s.heap)
    (k : ∀ h2, IsEnum h2 (s.heap.objs.size + 1) s.heap.objs.size 0 .none → h2.get? s.heap.objs.size = some ob → h2.objs.size = s.heap.objs.size + 2 →
      (∀ b o, s.heap.get? b = some o → h2.get? b = some o) → Q (.ref (s.heap.objs.size + 1)) { s with heap := h2 }) :
    wpAny (model prog w) A (call (.type "enumerate") [v]) Q E s := by
  refine callType_new F.called_enumerate (by decide) (F.typeCall_enumerate_1 _) (F.newCall_enumerate_1 _) (fun oj => F.args_object_init_2 oj _) F.entry_enumerate_new (enum_new1 B) ⟨g1, ?_⟩
  have hz : (s.heap.push ob).objs.size = s.heap.objs.size + 1 := Heap.size_push ..
  show _ ∧ _
  rw [hz]
  have he : IsEnum ((s.heap.push ob).push ⟨.type "enumerate", none, .fields #[.none, .bool false, .ref s.heap.objs.size, rawInt 0, .none, .none], #[]⟩) (s.heap.objs.size + 1) s.heap.objs.size 0 .none := by
    have q := Heap.get?_push_size (s.heap.push ob) (o := ⟨.type "enumerate", none, .fields #[.none, .bool false, .ref s.heap.objs.size, rawInt 0, .none, .none], #[]⟩) rfl
    rw [hz] at q
    exact q
  exact ⟨⟨_, he, rfl⟩, k _ he (Heap.get?_push_of_some _ (Heap.get?_push_size _ B.free)) (by rw [Heap.size_push, hz]) fun b o x => Heap.get?_push_of_some _ (Heap.get?_push_of_some _ x)⟩
/-- a tuple at a, each item in a new pair -/
def IteT (K : PySem.W.Frag) (a : Addr) : It :=
  ⟨fun i H => ∃ (xs : List V) (x : V), SqT K H a xs ∧ xs[i]? = some x, fun i H v H' => ∃ T x, v = .ref T ∧ H T = none ∧ H' = upd H T (.tup [.int (i : Nat), x]) ∧ ∀ xs, SqT K H a xs → xs[i]? = some x,
    fun i H => ∃ xs : List V, SqT K H a xs ∧ xs.length ≤ i⟩
theorem turn_enumT {P : Program} {w : World} {K : PySem.W.Frag} {elts : List Expr} {kk : Nat} {tpos : Pos} (a e it : Addr) :
    Turn P w K (.Tuple elts kk tpos) (IteT K a) [e, it] e (fun i h => (∃ old, IsEnum h e it ((i : Nat) : Int) old) ∧ h.IsTupleIter it a i ∧ e ≠ it ∧ e ≠ a ∧ a ≠ it) where
  mem := by simp
  obj := fun i h st b hb => by
    obtain ⟨⟨old, he⟩, ⟨o, ho, hc, hd⟩, _⟩ := st
    have e' : b = e ∨ b = it := by simpa using hb
    rcases e' with z | z
    · rw [z]; exact ⟨_, he, fun v q => nomatch q⟩
    · rw [z]; exact ⟨o, ho, fun v q => by rw [hd] at q; cases q⟩
  keep := fun i h h' st k => let ⟨⟨old, he⟩, hi, hne⟩ := st; ⟨⟨old, k e (by simp) _ he⟩, hi.at fun o q => k it (by simp) o q, hne⟩
  item := by
    intro X hP hw hK hc i pins s σ H E I hf st hg
    subst hP hw hK
    obtain ⟨⟨old, he⟩, hit, hne, hea, hai⟩ := st
    obtain ⟨xs, x, hq, hx⟩ := hg
    obtain ⟨its, rv, p, hz⟩ := I.tuple hq
    obtain ⟨u, hu, ru⟩ := rv.get hx
    have hel : e < s.heap.objs.size := Heap.lt_size he
    have hil : it < s.heap.objs.size := by obtain ⟨_, q, _⟩ := hit; exact Heap.lt_size q
    have pt : s.heap.IsTuple a its.toArray := p
    have hlt : i < its.toArray.size := by
      have q := (List.getElem?_eq_some_iff.mp hu).1
      simpa using q
    refine wpAny_pyNext_enum_itemD (Draws.tuple (A := X.A.in1) (show X.A.in1.handled = none from I.ok.hd hc) it a hai its.toArray) he ⟨hit, pt⟩ hlt hne (by simp [hne, hea]) fun y h' tk hy ho hit' hT hsz hk => ?_
    obtain rfl : y = u := by
      have q : its.toArray[i]? = some u := by simpa using hu
      rw [hy] at q
      exact Option.some.inj q
    refine ⟨_, rfl, wpAny_letOwnedTupleGo_enum (s := { s with heap := h', toks := tk + 1 }) ho fun h'' he' sb => ?_⟩
    have hT2 : h''.get? s.heap.objs.size = some { cls := .type "tuple", data := .seq #[.int i tk, y] } := (sb.2 _ (Nat.ne_of_gt hel)).trans hT
    have new : ObjOk X.prog X.w (upd H s.heap.objs.size (.tup [.int (i : Nat), x])) h'' s.heap.objs.size (.tup [.int (i : Nat), x]) :=
      ⟨by show 2 ≤ sizeLine; decide, [.int i tk, y], .cons ⟨_, rfl⟩ (.cons ru .nil), ⟨_, hT2, rfl, _, rfl⟩⟩
    have I1 : Inv X pins σ (upd H s.heap.objs.size (.tup [.int (i : Nat), x])) { s with heap := h'', toks := tk + 1 } :=
      I.turnedNew (ch := [e, it]) (fun b ob hb q => (sb.2 b (fun z => hb (by simp [z]))).trans (hk b ob (fun z => hb (by simp [z])) (fun z => hb (by simp [z])) q)) hf (Nat.le_refl _) new
    refine ⟨.ref s.heap.objs.size, _, I1, rfl, ⟨_, x, rfl, I.hok.fresh (Nat.le_refl _), rfl, fun ys hy => by rw [I.tuple_inj hy hq]; exact hx⟩, ⟨⟨y, ?_⟩, hit'.1.at fun o q => (sb.2 it (Ne.symm hne)).trans q, hne, hea, hai⟩, fun b hb => ?_⟩
    · have e1 : ((i + 1 : Nat) : Int) = (i : Int) + 1 := by omega
      rw [e1]; exact he'
    · have hb' : b < s.heap.objs.size := by
        have e' : b = e ∨ b = it := by simpa using hb
        rcases e' with z | z
        · rw [z]; exact hel
        · rw [z]; exact hil
      rw [upd_ne (Nat.ne_of_lt hb')]
      exact (hf b hb).1
  done := by
    intro X hP hw hK hc i pins s σ H E I hf st hg
    subst hP hw hK
    obtain ⟨⟨old, he⟩, hit, hne, hea, hai⟩ := st
    obtain ⟨xs, hq, hx⟩ := hg
    obtain ⟨its, rv, p, hz⟩ := I.tuple hq
    obtain ⟨f0, f1, f2, f3, f4, f5⟩ := hf it (by simp)
    have hl := rv.length
    have pt : s.heap.IsTuple a its.toArray := p
    have hh : X.A.handled = none := I.ok.hd hc
    unfold pyNext
    refine wpAny_bind (wpAny_attempt (wpAny_callSpecial?_slot (name := Str.ofString "__next__") ⟨_, he, rfl⟩ F.slot_enumerate_next (wpAny_call_entry F.slot_enumerate_next ⟨_, he, rfl⟩ F.entry_enumerate_next ?_ (F.args_enumerate_next_1 _))))
    show wpAny _ _ (field (.ref e) 2 >>= _) _ _ _
    refine wpAny_bind (wpAny_field he rfl (x := .ref it) rfl ?_)
    refine wpAny_bind (wpAny_nextOf_tuple_end hh hit pt (by simp; omega) fun h' x he' hx' => ?_)
    obtain ⟨o, ho, hc⟩ := hx'
    exact wpAny_bind (wpAny_isInstance (T := "StopIteration") (b := true) ⟨o, ho, hc⟩ isSubtype_stop (wpAny_pure ⟨rfl, I.turned (t' := s.toks) (fun b o hb q => he' b o hb q) f0 f1 f3 f4 f5⟩))
  self := fun A i s Q E st h => let ⟨⟨_, he⟩, _⟩ := st; wpAny_pyIter_enum he h
def iEnumT (K : PySem.W.Frag) (ta : TA) : TI := fun σ H R => ta σ H fun vs H1 => ∃ a xs, vs = [.ref a] ∧ SqT K H1 a xs ∧ R (IteT K a) H1
theorem pi_enumT {X : Cx} {K : PySem.W.Frag} {e : Expr} {ta : TA} {p pos tpos : Pos} {elts : List Expr} {kk : Nat} (hg : Gl X "enumerate") (hm : X.mg "enumerate" = none) (ha : PA X [e] ta) (hK : X.K = K := by rfl) (hs : starEach [e] X.env = [(false, eval e X.env)] := by rfl) :
    PI X (.Tuple elts kk tpos) (.Call (.Name "enumerate" p) [e] [] pos) (iEnumT K ta) := by
  subst hK
  refine ⟨fun pins s σ H R I h => ?_⟩
  refine Call_ (ld_blt I hg hm boot_enumerate (PyProof.Rows.callWith_type1 (thn (ha.run pos pins s σ H _ I h) fun us s1 ⟨vs, H1, I1, r1, q1⟩ => ?_) hs rfl))
  obtain ⟨a, xs, ex, hq, q⟩ := q1
  subst ex
  cases r1 with
  | cons r rr =>
    cases rr
    cases r
    obtain ⟨its, rv, p', hz⟩ := I1.tuple hq
    have pt : s1.heap.IsTuple a its.toArray := p'
    have hal : a < s1.heap.objs.size := by obtain ⟨_, q, _⟩ := id pt; exact Heap.lt_size q
    refine enum_call1 (begins_tuple a its.toArray) pt fun h' he hit hsz hk => wpAny_pyIter_enum he ?_
    have I2 : Inv X pins σ H1 { s1 with heap := h' } := I1.kept (t' := s1.toks) hk
    refine ⟨s1.heap.objs.size + 1, [s1.heap.objs.size + 1, s1.heap.objs.size], _, _, H1, rfl, I2, turn_enumT a (s1.heap.objs.size + 1) s1.heap.objs.size,
      ⟨⟨.none, he⟩, ⟨_, hit, rfl, rfl⟩, Nat.succ_ne_self _, Nat.ne_of_gt (Nat.lt_succ_of_lt hal), Nat.ne_of_lt hal⟩, fun b hb => ?_, q⟩
    have e' : b = s1.heap.objs.size + 1 ∨ b = s1.heap.objs.size := by simpa using hb
    have hle : s1.heap.objs.size ≤ b := by
      rcases e' with z | z
      · rw [z]; exact Nat.le_add_right _ _
      · rw [z]; exact Nat.le_refl _
    exact I1.fpOk hle (I1.hok.fresh hle)
theorem walk_enumT {K : PySem.W.Frag} {a : Addr} {xs : List V} : Walk (IteT K a) xs.length (fun H => SqT K H a xs) (YPair (fun i => some (.int (i : Nat))) (fun i => xs[i]?)) where
  goes := fun i H hi q => ⟨xs, xs[i], q, List.getElem?_eq_getElem hi⟩
  stops := fun H q => ⟨xs, q, Nat.le_refl _⟩
  yields := fun i H x H' hi q y => let ⟨T, z, e1, e2, e3, e4⟩ := y; ⟨T, _, z, e1, e2, e3, rfl, e4 xs q⟩
end EN

namespace G55
open PySem L2
def hiOk : Option Int → Int → Bool
  | none, _ => true
  | some h, n => decide (n ≤ h)
def loOk : Option Int → Int → Bool
  | none, _ => true
  | some h, n => decide (h ≤ n)
def crossed (lo hi : Option Int) : Bool := match lo, hi with | some l, some h => decide (h < l) | _, _ => false
def letsNone (cs : List (Str × Span)) : Bool := cs.any fun p => crossed p.2.1 p.2.2
def lowHolds (lo lo2 : Option Int) : Bool := match lo with | none => true | some l => (match lo2 with | none => false | some m => decide (l ≤ m))
def highHolds (hi hi2 : Option Int) : Bool := match hi with | none => true | some h => (match hi2 with | none => false | some m => decide (m ≤ h))
def holdsB (a b : Span) : Bool := lowHolds a.1 b.1 && highHolds a.2 b.2
def wider (bs cs : List (Str × Span)) : Bool := letsNone cs || bs.all fun p => holdsB p.2 ((cs.lookup p.1).getD (none, none))
def spCrossed : Sp := fun vs H Q _ => ∃ lo hi : Option Int, vs = [oV lo, oV hi] ∧ Q (.bl (crossed lo hi)) H
def spBetween : Sp := fun vs H Q _ => ∃ (n : Int) (lo hi : Option Int), vs = [.int n, oV lo, oV hi] ∧ Q (.bl (inSpan (lo, hi) n)) H
def spHolds (K : PySem.W.Frag) : Sp := fun vs H Q _ => ∃ (t u : Addr) (a b : Span), vs = [.ref t, .ref u] ∧ SqT K H t [oV a.1, oV a.2] ∧ SqT K H u [oV b.1, oV b.2] ∧ Q (.bl (holdsB a b)) H
def spNone (K : PySem.W.Frag) : Sp := fun vs H Q _ => ∃ (d : Addr) (cs : List (Str × Span)), vs = [.ref d] ∧ BdAt K H d cs ∧ cs.length ≤ 4 ∧ ∀ H', Same H H' → Q (.bl (letsNone cs)) H'
theorem paired_at {α β : Type} {F : α → β → Prop} : ∀ {l₁ : List α} {l₂ : List β} {i : Nat}, Paired F l₁ l₂ → (h : i < l₂.length) → ∃ a, l₁[i]? = some a ∧ F a l₂[i]
  | _, _, 0, .cons r _, _ => ⟨_, rfl, r⟩
  | _, _, i + 1, .cons _ q, h => paired_at (i := i) q (Nat.lt_of_succ_lt_succ h)
theorem sqT_dict {K : PySem.W.Frag} {H : Hp} {d t : Addr} {xs : List V} {kvs : List (Key × V)} {o : HO} (h : SqT K H t xs) (hd : H d = some (.dK kvs)) : SqT K (upd H d o) t xs := by
  rcases h with (h | ⟨o', h⟩) | h
  · exact .inl (.inl (by rw [upd_ne (fun z => by rw [z, hd] at h; cases h)]; exact h))
  · exact .inl (.inr ⟨o', by rw [upd_ne (fun z => by rw [z, hd] at h; cases h)]; exact h⟩)
  · exact .inr h
theorem sqT_new {K : PySem.W.Frag} {H : Hp} {d t : Addr} {xs : List V} {o : HO} (h : SqT K H t xs) (hd : H d = none) : SqT K (upd H d o) t xs := (KeepN.of (Same.new hd)).t h
theorem upd_upd {H : Hp} {a : Addr} {o o' : HO} : upd (upd H a o) a o' = upd H a o' := by
  funext x
  by_cases e : x = a
  · subst e; rw [upd_same, upd_same]
  · rw [upd_ne e, upd_ne e, upd_ne e]
theorem same_back {H : Hp} {d D : Addr} {u o l : HO} (hd : H d = some u) (hD : upd H d o D = none) : Same H (upd (upd (upd H d o) D l) d u) := fun x v e => by
  by_cases c : x = d
  · subst c
    rw [upd_same, ← hd, e]
  · have c2 : x ≠ D := fun z => by rw [← z, upd_ne c, e] at hD; cases hD
    rw [upd_ne c, upd_ne c2, upd_ne c]
    exact e
/-- all but d stays -/
def KeepD (d : Addr) (H H' : Hp) : Prop := ∀ x o, x ≠ d → H x = some o → H' x = some o
theorem sqT_keepD {K : PySem.W.Frag} {H H' : Hp} {d t : Addr} {xs : List V} {kvs : List (Key × V)} (h : SqT K H t xs) (hd : H d = some (.dK kvs)) (q : KeepD d H H') : SqT K H' t xs := by
  rcases h with (h | ⟨o', h⟩) | h
  · exact .inl (.inl (q _ _ (fun z => by rw [z, hd] at h; cases h) h))
  · exact .inl (.inr ⟨o', q _ _ (fun z => by rw [z, hd] at h; cases h) h⟩)
  · exact .inr h
theorem lookup_nd : ∀ {bs : List (Str × Span)} {i : Nat}, (bs.map (·.1)).Nodup → (h : i < bs.length) → bs.lookup bs[i].1 = some bs[i].2
  | (g, sp) :: bs, 0, _, _ => by simp [List.lookup]
  | (g, sp) :: bs, i + 1, nd, h => by
    rw [List.map_cons, List.nodup_cons] at nd
    have h2 : i < bs.length := Nat.lt_of_succ_lt_succ h
    have ne : ((bs[i].1 == g) : Bool) = false := by
      rw [beq_eq_false_iff_ne]
      intro z
      exact nd.1 (z ▸ List.mem_map.mpr ⟨bs[i], List.getElem_mem h2, rfl⟩)
    show List.lookup bs[i].1 ((g, sp) :: bs) = some bs[i].2
    rw [show List.lookup bs[i].1 ((g, sp) :: bs) = List.lookup bs[i].1 bs by simp [List.lookup, ne]]
    exact lookup_nd nd.2 h2
structure Txt3 (mg : Str → Option Value) : Prop where
  all : mg "all" = none
  any : mg "any" = none
  enumerate : mg "enumerate" = none
section
variable {P : Program} {w : World} {K : PySem.W.Frag} {mg : Str → Option Value} {base : Heap}
theorem scCrossed : FnScope ["least", "greatest"] ["least", "greatest"] (defScope sCrossed) := ⟨rfl, rfl, rfl, by decide +kernel, rfl, by decide +kernel, by decide +kernel⟩
theorem ok_crossed {f : Addr} {fd : FuncData} (F : Fun K "is_crossed" "is_crossed" sCrossed f fd) : FnOk P w K mg base CX0 1 f fd ["least", "greatest"] spCrossed := by
  refine F.ok scCrossed (fun vs H Q E h => ?_) (fun cdv A outer s H vs Q E hr h => ?_)
  · obtain ⟨lo, hi, rfl, _⟩ := h
    rfl
  · obtain ⟨lo, hi, rfl, k⟩ := h
    refine ⟨_, (pss_one (ps_ret (pe_and (pe_cmpR op_notN (pv 0) pe_non (nomark _)) (pe_and (pe_cmpR op_notN (pv 1) pe_non (nomark _)) (pe_one (pe_cmpR op_gt (pv 0) (pv 1) (nomark _))))))), ?_⟩
    cases lo with
    | none => exact ⟨_, rfl, rfl, _, rfl, k⟩
    | some l =>
      refine ⟨_, rfl, rfl, _, rfl, iteT ?_⟩
      cases hi with
      | none => exact ⟨_, rfl, rfl, _, rfl, k⟩
      | some m => exact ⟨_, rfl, rfl, _, rfl, iteT ⟨_, rfl, _, rfl, _, _, rfl, rfl, k⟩⟩
theorem scBetween : FnScope ["number", "low", "high"] ["number", "low", "high"] (defScope sBetween) := ⟨rfl, rfl, rfl, by decide +kernel, rfl, by decide +kernel, by decide +kernel⟩
theorem ok_between {f : Addr} {fd : FuncData} (F : Fun K "is_between" "is_between" sBetween f fd) : FnOk P w K mg base CX0 1 f fd ["number", "low", "high"] spBetween := by
  refine F.ok scBetween (fun vs H Q E h => ?_) (fun cdv A outer s H vs Q E hr h => ?_)
  · obtain ⟨n, lo, hi, rfl, _⟩ := h
    rfl
  · obtain ⟨n, lo, hi, rfl, k⟩ := h
    refine ⟨_, (pss_one (ps_ret (pe_and (pe_or (pe_cmpR op_isN (pv 1) pe_non (nomark _)) (pe_one (pe_cmpR op_ge (pv 0) (pv 1) (nomark _)))) (pe_one (pe_or (pe_cmpR op_isN (pv 2) pe_non (nomark _)) (pe_one (pe_cmpR op_le (pv 0) (pv 2) (nomark _)))))))), ?_⟩
    replace k : Q (.bl (loOk lo n && hiOk hi n)) H := by cases lo <;> cases hi <;> exact k
    have second : ∀ Qx : VK, Qx (.bl (hiOk hi n)) H → tOrV (tOp (fun x y H Q => y = V.non ∧ Q (V.bl (decide (x = V.non))) H) (tVar 2) (tC V.non)) (tOp (rI0 fun i j => V.bl (decide (i ≤ j))) (tVar 0) (tVar 2)) [some (.int n), some (oV lo), some (oV hi)] H Qx := fun Qx q => by
      cases hi with
      | none => exact ⟨_, rfl, rfl, _, rfl, iteT q⟩
      | some m => exact ⟨_, rfl, rfl, _, rfl, iteF ⟨_, rfl, _, rfl, _, _, rfl, rfl, q⟩⟩
    cases lo with
    | none => exact ⟨_, rfl, rfl, _, rfl, iteT ⟨_, rfl, iteT (second _ k)⟩⟩
    | some l =>
      refine ⟨_, rfl, rfl, _, rfl, iteF ⟨_, rfl, _, rfl, _, _, rfl, rfl, _, rfl, ?_⟩⟩
      by_cases c : l ≤ n
      · have e : decide (l ≤ n) = true := decide_eq_true c
        replace k : Q (.bl (decide (l ≤ n) && hiOk hi n)) H := k
        simp only [e, Bool.true_and] at k
        exact (if_pos (decide_eq_true (show n ≥ l from c))) ▸ second _ k
      · have e : decide (l ≤ n) = false := decide_eq_false c
        replace k : Q (.bl (decide (l ≤ n) && hiOk hi n)) H := k
        simp only [e, Bool.false_and] at k
        rw [if_neg (by simpa using c)]
        exact k
theorem scHolds : FnScope ["one", "other"] ["one", "other"] (defScope sHolds) := ⟨rfl, rfl, rfl, by decide +kernel, rfl, by decide +kernel, by decide +kernel⟩
theorem ok_holds {f : Addr} {fd : FuncData} (F : Fun K "holds" "holds" sHolds f fd) : FnOk P w K mg base CX0 1 f fd ["one", "other"] (spHolds K) := by
  refine F.ok scHolds (fun vs H Q E h => ?_) (fun cdv A outer s H vs Q E hr h => ?_)
  · obtain ⟨t, u, a, b, rfl, _⟩ := h
    rfl
  · obtain ⟨t, u, ⟨lo, hi⟩, ⟨lo2, hi2⟩, rfl, ht, hu, k⟩ := h
    refine ⟨_, (pss_cons (ps_if (PW.pt (pw_and (pt_cmpR op_notN (pe_ix (RK.ixT (K := K)) (pv 0) pe_int (fun _ _ => rfl)) pe_non (nomark _)) (pw_and1 (PW.pt (pw_or (pt_cmpR op_isN (pe_ix (RK.ixT (K := K)) (pv 1) pe_int (fun _ _ => rfl)) pe_non (nomark _)) (pw_or1 (pt_cmpR op_lt (pe_ix (RK.ixT (K := K)) (pv 1) pe_int (fun _ _ => rfl)) (pe_ix (RK.ixT (K := K)) (pv 0) pe_int (fun _ _ => rfl)) (nomark _)))))))) (pss_one (ps_ret pe_bl)) pss_nil)
      (pss_one (ps_ret (pe_or (pe_cmpR op_isN (pe_ix (RK.ixT (K := K)) (pv 0) pe_int (fun _ _ => rfl)) pe_non (nomark _)) (pe_one (pe_and (pe_cmpR op_notN (pe_ix (RK.ixT (K := K)) (pv 1) pe_int (fun _ _ => rfl)) pe_non (nomark _)) (pe_one (pe_cmpR op_le (pe_ix (RK.ixT (K := K)) (pv 1) pe_int (fun _ _ => rfl)) (pe_ix (RK.ixT (K := K)) (pv 0) pe_int (fun _ _ => rfl)) (nomark _))))))))), ?_⟩
    have tl : ∀ Qb : Bool → Hp → Prop, Qb (!lowHolds lo lo2) H → tAnd
        (tTest (tOp (fun x y H Q => y = V.non ∧ Q (V.bl !decide (x = V.non)) H) (tOp (rIxT K) (tVar 0) (tC (V.int 0))) (tC V.non)))
        (tOr (tTest (tOp (fun x y H Q => y = V.non ∧ Q (V.bl (decide (x = V.non))) H) (tOp (rIxT K) (tVar 1) (tC (V.int 0))) (tC V.non)))
          (tTest (tOp (rI0 fun i j => V.bl (decide (i < j))) (tOp (rIxT K) (tVar 1) (tC (V.int 0))) (tOp (rIxT K) (tVar 0) (tC (V.int 0))))))
        [some (.ref t), some (.ref u)] H Qb := fun Qb q => by
      refine ⟨_, rfl, t, _, _, _, rfl, rfl, ht, rfl, rfl, _, rfl, ?_⟩
      cases lo with
      | none => exact iteF q
      | some l =>
        refine iteT ⟨_, rfl, u, _, _, _, rfl, rfl, hu, rfl, rfl, _, rfl, ?_⟩
        cases lo2 with
        | none => exact iteT q
        | some m =>
          refine iteF ⟨_, rfl, u, _, _, _, rfl, rfl, hu, rfl, _, rfl, t, _, _, _, rfl, rfl, ht, rfl, _, _, rfl, rfl, _, rfl, ?_⟩
          have e : (!lowHolds (some l) (some m)) = decide (m < l) := by
            show (!decide (l ≤ m)) = decide (m < l)
            rw [← decide_not]
            exact decide_eq_decide.mpr (by omega)
          rw [e] at q
          exact q
    refine sif (tl _ ?_)
    cases c : lowHolds lo lo2 with
    | false =>
      refine iteT ?_
      have e : holdsB (lo, hi) (lo2, hi2) = false := by
        show (lowHolds lo lo2 && highHolds hi hi2) = false
        rw [c]; rfl
      rw [e] at k
      exact k
    | true =>
      refine iteF ?_
      have e : holdsB (lo, hi) (lo2, hi2) = highHolds hi hi2 := by
        show (lowHolds lo lo2 && highHolds hi hi2) = highHolds hi hi2
        rw [c]; rfl
      rw [e] at k
      refine ⟨_, rfl, t, _, _, _, rfl, rfl, ht, rfl, rfl, _, rfl, ?_⟩
      cases hi with
      | none => exact iteT k
      | some h1 =>
        refine iteF ⟨_, rfl, u, _, _, _, rfl, rfl, hu, rfl, rfl, _, rfl, ?_⟩
        cases hi2 with
        | none => exact iteF k
        | some h2 => exact iteT ⟨_, rfl, u, _, _, _, rfl, rfl, hu, rfl, _, rfl, t, _, _, _, rfl, rfl, ht, rfl, _, _, rfl, rfl, k⟩
theorem scNone : FnScope ["bounds", "least", "greatest"] ["bounds"] (defScope sNone) := ⟨rfl, rfl, rfl, by decide +kernel, rfl, by decide +kernel, by decide +kernel⟩
theorem ok_none {f fc : Addr} {fd fdc : FuncData} (F : Fun K "lets_none" "lets_none" sNone f fd) (T : Txt3 mg) (Cis_crossed : Cal P w K mg base 1 "is_crossed" ["least", "greatest"] spCrossed fc fdc) : FnOk P w K mg base CX0 2 f fd ["bounds"] (spNone K) := by
  refine F.ok scNone (fun vs H Q E h => ?_) (fun cdv A outer s H vs Q E hr h => ?_)
  · obtain ⟨d, cs, rfl, _⟩ := h
    rfl
  · obtain ⟨d, cs, rfl, hd, h4, k⟩ := h
    have hr1 : Room 1 _ := hr.mono (by decide)
    refine ⟨_, (pss_one (ps_ret (pe_or (pe_cmpR op_isN (pv 0) pe_non (nomark _)) (pe_one (pe_callB (RK.anyQ (K := K) rfl) (by rfl) T.any (by decide +kernel) (pa_cons (pe_lock (pe_lc (own := [("least", 1), ("greatest", 2)]) rfl scNone.nd (pi_values (pv 0)) (blkOk_by (N := ["bounds", "least", "greatest"]) (sc := defScope sNone) (by decide +kernel)) (fun _ _ _ _ _ => (RK.pgTup (K := K) (n := 2) rfl (pgs_cons (pg_name (i := 1) scNone.nd rfl (Or.inl rfl)) (pgs_cons (pg_name (i := 2) scNone.nd rfl (Or.inl rfl)) pgs_nil)))) (fun _ _ _ _ _ => pts_nil) (fun _ _ _ _ _ => (pe_call Cis_crossed.G hr1 (by rfl) Cis_crossed.g Cis_crossed.kp Cis_crossed.b .nil pass0 (pa_cons (pv 1) (pa_cons (pv 2) pa_nil)))))) pa_nil)))))), ?_⟩
    obtain ⟨kvs, hdd, pr⟩ := hd
    refine ⟨_, rfl, rfl, _, rfl, iteF ?_⟩
    refine ⟨d, _, hdd, trivial, fun od => ?_⟩
    refine ⟨_, rfl, d, od, kvs, rfl, upd_same, fun D hD => ?_⟩
    have hne : D ≠ d := fun e => by rw [e, upd_same] at hD; cases hD
    have len : kvs.length = cs.length := Paired.length pr
    refine lc_it (walk_values (kvs := kvs)) (fun i H' => i ≤ cs.length ∧ H' = upd (upd H d (.frz od (.dK kvs))) D (.lst (((cs.take i).map fun p => crossed p.2.1 p.2.2).map V.bl))) ⟨Nat.zero_le _, rfl⟩ ?_ ?_ ?_
    · rintro i H' _ ⟨_, rfl⟩
      rw [upd_ne hne.symm, upd_same]
    · rintro i x H0 H' hi ⟨_, rfl⟩ ⟨rfl, k0, hx⟩
      have hi2 : i < cs.length := len ▸ hi
      obtain ⟨kv, hkv, rel⟩ := paired_at pr hi2
      rw [hkv] at hx
      cases hx
      obtain ⟨_, t, rfl, ht⟩ := rel
      have ht2 : SqT K (upd (upd H d (.frz od (.dK kvs))) D (.lst (((cs.take i).map fun p => crossed p.2.1 p.2.2).map V.bl))) t [oV cs[i].2.1, oV cs[i].2.2] := sqT_new (sqT_dict ht hdd) hD
      refine ⟨t, _, rfl, ht2, rfl, _, _, rfl, _, _, rfl, rfl, rfl, ?_⟩
      refine ⟨_, rfl, _, rfl, cs[i].2.1, cs[i].2.2, rfl, _, upd_same, ?_, hi2, ?_⟩
      · rw [List.length_map, List.length_map, List.length_take]
        exact Nat.lt_of_le_of_lt (show min i cs.length ≤ 4 by omega) (by decide)
      · rw [upd_upd]
        have tk : cs.take (i + 1) = cs.take i ++ [cs[i]] := by rw [List.take_add_one, List.getElem?_eq_getElem hi2]; rfl
        rw [tk, List.map_append, List.map_append]
        rfl
    · rintro H' ⟨_, rfl⟩
      rw [len, List.take_length]
      refine ⟨by rw [upd_ne hne.symm, upd_same], D, _, rfl, SqL.of (by rw [upd_ne hne, upd_same]), ?_⟩
      have e : (cs.map fun p => crossed p.2.1 p.2.2).any id = letsNone cs := by
        rw [List.any_map]
        rfl
      rw [e]
      exact k _ (same_back hdd hD)
theorem scWider : FnScope ["one", "other", "field"] ["one", "other"] (defScope sWider) := ⟨rfl, rfl, rfl, by decide +kernel, rfl, by decide +kernel, by decide +kernel⟩
theorem ok_wider {f fn fh : Addr} {fd fdn fdh : FuncData} (F : Fun K "is_wider" "is_wider" sWider f fd) (T : Txt3 mg) (Clets_none : Cal P w K mg base 2 "lets_none" ["bounds"] (spNone K) fn fdn) (Cholds : Cal P w K mg base 2 "holds" ["one", "other"] (spHolds K) fh fdh) :
    FnOk P w K mg base CX0 3 f fd ["one", "other"] (spWider K wider) := by
  refine F.ok scWider (fun vs H Q E h => ?_) (fun cdv A outer s H vs Q E hr h => ?_)
  · obtain ⟨d, e, bs, cs, rfl, _⟩ := h
    rfl
  · obtain ⟨d, e, bs, cs, rfl, hd, he, nd1, nd2, l1, l2, k⟩ := h
    have hr1 : Room 2 _ := hr.mono (by decide)
    refine ⟨_, (pss_cons (ps_if (pt_val (pe_call Clets_none.G hr1 (by rfl) Clets_none.g Clets_none.kp Clets_none.b .nil pass0 (pa_cons (pv 1) pa_nil))) (pss_one (ps_ret pe_bl)) pss_nil)
      (pss_cons (ps_if (pt_cmpR op_isN (pv 0) pe_non (nomark _)) (pss_one (ps_ret pe_bl)) pss_nil)
      (pss_one (ps_ret (pe_callB (RK.allQ (K := K) rfl) (by rfl) T.all (by decide +kernel) (pa_cons (pe_lock (pe_lc (own := [("field", 2)]) rfl scWider.nd (pi_keys (pv 0)) (blkOk_by (N := ["one", "other", "field"]) (sc := defScope sWider) (by decide +kernel)) (fun _ _ _ _ _ => (pg_name (i := 2) scWider.nd rfl (Or.inl rfl))) (fun _ _ _ _ _ => pts_nil) (fun _ _ _ _ _ => (pe_call Cholds.G hr1 (by rfl) Cholds.g Cholds.kp Cholds.b .nil pass0 (pa_cons (pe_dget (hu_of hr) (pv 0) (pv 2) (fun _ _ => rfl)) (pa_cons (pe_dget2 (hu_of hr) (pv 1) (pv 2) (pe_tup (pa_cons pe_non (pa_cons pe_non pa_nil))) ⟨rfl, rfl, rfl, rfl⟩) pa_nil)))))) pa_nil)))))), ?_⟩
    refine ⟨_, rfl, e, cs, rfl, he, l2, fun H1 s1 => ⟨_, rfl, ?_⟩⟩
    cases c : letsNone cs with
    | true =>
      refine iteT ?_
      have q := k H1 s1
      unfold wider at q
      rw [c] at q
      exact q
    | false =>
      refine iteF ⟨_, rfl, rfl, _, rfl, iteF ?_⟩
      obtain ⟨kvs, hdd, pr⟩ := (KeepN.of s1).d hd
      obtain ⟨les, hee, pe⟩ := (KeepN.of s1).d he
      have len : kvs.length = bs.length := Paired.length pr
      refine ⟨d, _, hdd, trivial, fun od => ?_⟩
      refine ⟨_, rfl, d, od, rfl, .inl ⟨kvs, upd_same, fun D hD => ?_⟩⟩
      have hne : D ≠ d := fun e => by rw [e, upd_same] at hD; cases hD
      refine lc_it (walk_keys (kvs := kvs)) (fun i H' => i ≤ bs.length ∧ H' d = some (.frz od (.dK kvs)) ∧ KeepD d H1 H' ∧ H' D = some (.lst (((bs.take i).map fun p => holdsB p.2 ((cs.lookup p.1).getD (none, none))).map V.bl)))
        ⟨Nat.zero_le _, by rw [upd_ne hne.symm, upd_same], ?_, upd_same⟩ ?_ ?_ ?_
      · intro x o hx ho
        have hDn : H1 D = none := by rw [upd_ne hne] at hD; exact hD
        rw [upd_ne (fun z => by rw [z, hDn] at ho; cases ho), upd_ne hx]
        exact ho
      · rintro i H' _ ⟨_, h1, _⟩
        exact h1
      · rintro i x H0 H' hi ⟨_, h1, h2, h3⟩ ⟨rfl, k0, v0, hx, rfl⟩
        have hDn : H1 D = none := by rw [upd_ne hne] at hD; exact hD
        have hi2 : i < bs.length := len ▸ hi
        obtain ⟨kv, hkv, rel⟩ := paired_at pr hi2
        rw [hkv] at hx
        cases hx
        have rel1 : k0 = Sum.inr bs[i].1 := rel.1
        subst rel1
        have look := lookup_nd nd1 hi2
        rcases look_bd bs[i].1 pr with ⟨z, _⟩ | ⟨sp, t, e1, e2, ht⟩
        · rw [look] at z
          cases z
        rw [look] at e1
        cases e1
        have rdE : Rd H' e (.dK les) := by
          by_cases z : e = d
          · subst z
            rw [hdd] at hee
            cases hee
            exact .inr ⟨od, h1⟩
          · exact .inl (h2 e _ z hee)
        refine ⟨rfl, _, rfl, _, rfl, d, _, rfl, .inl ⟨kvs, Sum.inr bs[i].1, .inr ⟨od, h1⟩, rfl, e2.symm⟩, ?_⟩
        refine ⟨_, rfl, e, rfl, .inl ⟨les, rdE⟩, _, rfl, (by show 2 ≤ sizeLine; decide), fun p hp => ?_⟩
        have kp : ∀ y o, H' y = some o → upd H' p (.tup [.non, .non]) y = some o := fun y o q => by rw [upd_ne (ne_of_none q hp)]; exact q
        have rdE2 : Rd (upd H' p (.tup [.non, .non])) e (.dK les) := by
          rcases rdE with q | ⟨o, q⟩
          · exact .inl (kp _ _ q)
          · exact .inr ⟨o, kp _ _ q⟩
        refine ⟨valV les (Sum.inr bs[i].1), .inl ⟨les, Sum.inr bs[i].1, rdE2, rfl, rfl⟩, ?_⟩
        have key : ∃ u, (valV les (Sum.inr bs[i].1)).getD (.ref p) = .ref u ∧ SqT K (upd H' p (.tup [.non, .non])) u [oV ((cs.lookup bs[i].1).getD (none, none)).1, oV ((cs.lookup bs[i].1).getD (none, none)).2] := by
          rcases look_bd bs[i].1 pe with ⟨z1, z2⟩ | ⟨sp, u, z1, z2, hu⟩
          · exact ⟨p, by rw [z2]; rfl, by rw [z1]; exact SqT.of upd_same⟩
          · exact ⟨u, by rw [z2]; rfl, by rw [z1]; exact sqT_new (sqT_keepD hu hdd h2) hp⟩
        obtain ⟨u, z1, hu⟩ := key
        rw [z1]
        refine ⟨t, u, bs[i].2, _, rfl, sqT_new (sqT_keepD ht hdd h2) hp, hu, _, kp _ _ h3, ?_, hi2, ?_, ?_, ?_⟩
        · rw [List.length_map, List.length_map, List.length_take]
          exact Nat.lt_of_le_of_lt (show min i bs.length ≤ 4 by omega) (by decide)
        · rw [upd_ne hne.symm]
          exact kp _ _ h1
        · intro y o hy ho
          rw [upd_ne (fun z => by rw [z, hDn] at ho; cases ho)]
          exact kp _ _ (h2 y o hy ho)
        · rw [upd_same]
          have tk : bs.take (i + 1) = bs.take i ++ [bs[i]] := by rw [List.take_add_one, List.getElem?_eq_getElem hi2]; rfl
          rw [tk, List.map_append, List.map_append]
          rfl
      · rintro H' ⟨_, h1, h2, h3⟩
        rw [len, List.take_length] at h3
        refine ⟨h1, D, _, rfl, SqL.of (by rw [upd_ne hne]; exact h3), ?_⟩
        have q := k (upd H' d (.dK kvs)) fun x o ho => by
          by_cases z : x = d
          · subst z
            rw [upd_same, ← hdd]
            exact s1 _ _ ho
          · rw [upd_ne z]
            exact h2 x o z (s1 _ _ ho)
        have e2 : (bs.map fun p => holdsB p.2 ((cs.lookup p.1).getD (none, none))).all id = wider bs cs := by
          unfold wider
          rw [c, List.all_map]
          rfl
        rw [e2]
        exact q
theorem scIn : FnScope ["row", "fields", "bounds", "at", "field"] ["row", "fields", "bounds"] (defScope sIn) := ⟨rfl, rfl, rfl, by decide +kernel, rfl, by decide +kernel, by decide +kernel⟩
theorem ok_in {f fb : Addr} {fd fdb : FuncData} (F : Fun K "is_in" "is_in" sIn f fd) (T : Txt3 mg) (Cis_between : Cal P w K mg base 2 "is_between" ["number", "low", "high"] spBetween fb fdb) :
    FnOk P w K mg base CX0 3 f fd ["row", "fields", "bounds"] (spIsIn K) := by
  refine F.ok scIn (fun vs H Q E h => ?_) (fun cdv A outer s H vs Q E hr h => ?_)
  · rcases h with ⟨r, f, d, fs, ns, bs, rfl, _⟩ | ⟨f, d, rfl, _⟩
    · rfl
    · rfl
  · have hr1 : Room 2 _ := hr.mono (by decide)
    refine ⟨_, (pss_cons (ps_if (PW.pt (pw_or (pt_cmpR op_isN (pv 0) pe_non (nomark _)) (pw_or1 (pt_cmpR op_isN (pv 2) pe_non (nomark _))))) (pss_one (ps_ret pe_bl)) pss_nil)
      (pss_cons (ps_for PassesOwn.never rfl (EN.pi_enumT (K := K) (by rfl) T.enumerate (pa_cons (pv 1) pa_nil)) (RK.pgTup (K := K) (n := 2) rfl (pgs_cons (pg_name (i := 3) scIn.nd rfl (Or.inl rfl)) (pgs_cons (pg_name (i := 4) scIn.nd rfl (Or.inl rfl)) pgs_nil)))
        (pss_one (ps_if (PW.pt (pw_and (pt_cmp (pc_din (hu_of hr) (pv 4) (pv 2))) (pw_and1 (pt_not (pt_val (pe_call Cis_between.G hr1 rfl Cis_between.g Cis_between.kp Cis_between.b .nil pass0 (pa_cons (pe_ix (RK.ixT (K := K)) (pv 0) (pv 3) (fun _ _ => rfl)) (pa_cons (pe_ix (RK.ixT (K := K)) (pe_dget (hu_of hr) (pv 2) (pv 4) (fun _ _ => rfl)) pe_int (fun _ _ => rfl)) (pa_cons (pe_ix (RK.ixT (K := K)) (pe_dget (hu_of hr) (pv 2) (pv 4) (fun _ _ => rfl)) pe_int (fun _ _ => rfl)) pa_nil))))))))) (pss_one (ps_ret pe_bl)) pss_nil)))
      (pss_one (ps_ret pe_bl)))), ?_⟩
    rcases h with ⟨r, fA, d, fs, ns, bs, rfl, hr0, hf, hl, h4, nd, hd, nb, k⟩ | ⟨fA, d, rfl, k⟩
    · refine sif ⟨_, rfl, rfl, _, rfl, iteF ⟨_, rfl, rfl, _, rfl, iteF ?_⟩⟩
      have lf : (fs.map V.str).length = fs.length := List.length_map ..
      refine ⟨_, rfl, fA, _, rfl, hf, for_it EN.walk_enumT (fun i σ H' => ∃ v3 v4, σ = [some (.ref r), some (.ref fA), some (.ref d), v3, v4] ∧ Same H H' ∧ within bs (fs.take i) (ns.take i) = true)
        ⟨none, none, rfl, Same.refl H, rfl⟩ (fun i σ H' _ ⟨_, _, _, sm, _⟩ => (KeepN.of sm).t hf) ?_ ?_⟩
      · rintro i x σ H0 H' hi ⟨v3, v4, rfl, sm, wi⟩ ⟨T, x1, y1, rfl, hT, rfl, e1, e2⟩
        cases e1
        have hi1 : i < fs.length := lf ▸ hi
        have hi2 : i < ns.length := hl ▸ hi1
        have ef : y1 = .str fs[i] := by
          replace e2 : (fs.map V.str)[i]? = some y1 := e2
          rw [List.getElem?_map, List.getElem?_eq_getElem hi1] at e2
          exact (Option.some.inj e2).symm
        subst ef
        have st := Same.new (o := .tup [.int ((i : Nat) : Int), .str fs[i]]) hT
        have s2 := sm.trans st
        have kn := KeepN.of s2
        obtain ⟨kvs, hd1, pr⟩ := kn.d hd
        have en : atI (ns.map V.int) ((i : Nat) : Int) = some (.int ns[i]) := atI_nat (by rw [List.getElem?_map, List.getElem?_eq_getElem hi2]; rfl)
        have step : within bs (fs.take (i + 1)) (ns.take (i + 1)) = inOpt (bs.lookup fs[i]) ns[i] := by
          have h1 : fs.take (i + 1) = fs.take i ++ [fs[i]] := by rw [List.take_add_one, List.getElem?_eq_getElem hi1]; rfl
          have h2 : ns.take (i + 1) = ns.take i ++ [ns[i]] := by rw [List.take_add_one, List.getElem?_eq_getElem hi2]; rfl
          unfold within at wi ⊢
          rw [h1, h2, List.zip_append (by rw [List.length_take, List.length_take]; omega), List.all_append, wi]
          simp
        refine ⟨T, _, rfl, SqT.of upd_same, rfl, _, _, rfl, _, _, rfl, rfl, ?_⟩
        refine ⟨_, rfl, _, rfl, d, _, rfl, DGet.k (k := Sum.inr fs[i]) hd1, _, rfl, ?_⟩
        rcases look_bd fs[i] pr with ⟨z1, z2⟩ | ⟨sp, t, z1, z2, ht⟩
        · rw [z2]
          refine iteF (iteF ⟨_, _, rfl, s2, ?_⟩)
          rw [step, z1]
          rfl
        · rw [z2]
          refine iteT ?_
          have dg : DGet (upd H0 T (.tup [.int ((i : Nat) : Int), .str fs[i]])) d (.str fs[i]) (some (.ref t)) := z2 ▸ DGet.k (k := Sum.inr fs[i]) hd1
          refine ⟨_, rfl, _, rfl, r, _, _, _, rfl, rfl, kn.t hr0, en, _, rfl, _, rfl, d, _, rfl, dg, t, _, _, _, rfl, rfl, ht, rfl, _, rfl, _, rfl, d, _, rfl, dg, t, _, _, _, rfl, rfl, ht, rfl, ns[i], sp.1, sp.2, rfl, _, rfl, ?_⟩
          cases c : inSpan (sp.1, sp.2) ns[i] with
          | true =>
            refine iteF ⟨_, _, rfl, s2, ?_⟩
            rw [step, z1]
            exact c
          | false =>
            refine iteT ?_
            have nowi : within bs fs ns = false := by
              have h1 : fs = fs.take (i + 1) ++ fs.drop (i + 1) := (List.take_append_drop ..).symm
              have h2 : ns = ns.take (i + 1) ++ ns.drop (i + 1) := (List.take_append_drop ..).symm
              rw [z1] at step
              have z3 := step.trans c
              unfold within at z3 ⊢
              rw [h1, h2, List.zip_append (by rw [List.length_take, List.length_take]; omega), List.all_append, z3]
              rfl
            have q := k _ s2
            rw [nowi] at q
            exact q
      · rintro σ H' ⟨v3, v4, rfl, sm, wi⟩
        have q := k H' sm
        rw [lf, List.take_length, ← hl, List.take_length] at wi
        rw [wi] at q
        exact q
    · exact sif ⟨_, rfl, rfl, _, rfl, iteT (iteT (k H (Same.refl H)))⟩
end
theorem lookup_mem : ∀ {bs : List (Str × Span)} {x : Str} {sp : Span}, bs.lookup x = some sp → (x, sp) ∈ bs
  | (g, s) :: bs, x, sp, h => by
    by_cases c : x = g
    · subst c
      simp [List.lookup] at h
      subst h
      exact List.mem_cons_self ..
    · have n1 : ((x == g) : Bool) = false := by simpa using c
      simp [List.lookup, n1] at h
      exact List.mem_cons_of_mem _ (lookup_mem h)
theorem holds_self (a : Span) : holdsB a a = true := by
  obtain ⟨lo, hi⟩ := a
  cases lo <;> cases hi <;> simp [holdsB, lowHolds, highHolds]
theorem wider_self (bs : List (Str × Span)) (nd : (bs.map (·.1)).Nodup) : wider bs bs = true := by
  unfold wider
  rw [Bool.or_eq_true]
  refine .inr (List.all_eq_true.mpr fun p m => ?_)
  obtain ⟨i, hi, e⟩ := List.getElem_of_mem m
  have q := lookup_nd nd hi
  rw [e] at q
  rw [q]
  exact holds_self _
theorem wider_nil (bs : List (Str × Span)) : wider [] bs = true := by
  unfold wider
  rw [Bool.or_eq_true]
  exact .inr rfl
theorem inSpan_of {a b : Span} {n : Int} (h : holdsB a b = true) (q : inSpan b n = true) : inSpan a n = true := by
  obtain ⟨lo, hi⟩ := a
  obtain ⟨lo2, hi2⟩ := b
  cases lo <;> cases hi <;> cases lo2 <;> cases hi2 <;> simp_all [holdsB, lowHolds, highHolds, inSpan] <;> omega
theorem crossed_no {lo hi : Option Int} {n : Int} (h : crossed lo hi = true) : inSpan (lo, hi) n = false := by
  cases lo <;> cases hi <;> simp_all [crossed, inSpan]
  omega
theorem within_all {bs : List (Str × Span)} {fs : List Str} {ns : List Int} (h : within bs fs ns = true) {i : Nat} (h1 : i < fs.length) (h2 : i < ns.length) : inOpt (bs.lookup fs[i]) ns[i] = true := by
  unfold within at h
  rw [List.all_eq_true] at h
  refine h (fs[i], ns[i]) ?_
  have e : (fs.zip ns)[i]'(by rw [List.length_zip]; omega) = (fs[i], ns[i]) := List.getElem_zip ..
  rw [← e]
  exact List.getElem_mem _
theorem wider_so (bs cs : List (Str × Span)) (nd1 : (bs.map (·.1)).Nodup) (nd2 : (cs.map (·.1)).Nodup) (h : wider bs cs = true) (fs : List Str) (ns : List Int) (_ : fs.Nodup) (m : ∀ x ∈ cs.map (·.1), x ∈ fs) (hl : ns.length = fs.length)
    (q : within cs fs ns = true) : within bs fs ns = true := by
  unfold wider at h
  rw [Bool.or_eq_true] at h
  rcases h with h | h
  · unfold letsNone at h
    rw [List.any_eq_true] at h
    obtain ⟨p, mp, hc⟩ := h
    obtain ⟨j, hj, ej⟩ := List.getElem_of_mem (m p.1 (List.mem_map.mpr ⟨p, mp, rfl⟩))
    have z := within_all q hj (hl ▸ hj)
    obtain ⟨i, hi, e⟩ := List.getElem_of_mem mp
    have lk := lookup_nd nd2 hi
    rw [e] at lk
    rw [ej, lk] at z
    have z2 := crossed_no (n := ns[j]) hc
    have z3 : inSpan p.2 ns[j] = true := z
    rw [show p.2 = (p.2.1, p.2.2) from rfl, z2] at z3
    cases z3
  · unfold within
    rw [List.all_eq_true] at h ⊢
    intro x mx
    obtain ⟨i, hi, e⟩ := List.getElem_of_mem mx
    have hi1 : i < fs.length := by rw [List.length_zip] at hi; omega
    have hi2 : i < ns.length := by omega
    have e2 : (fs.zip ns)[i] = (fs[i], ns[i]) := List.getElem_zip ..
    rw [e2] at e
    subst e
    have z := within_all q hi1 hi2
    show inOpt (bs.lookup fs[i]) ns[i] = true
    cases lb : bs.lookup fs[i] with
    | none => rfl
    | some sp =>
      have mb := lookup_mem lb
      have hh := h _ mb
      cases lc : cs.lookup fs[i] with
      | none =>
        rw [lc] at hh
        exact inSpan_of hh rfl
      | some sq =>
        rw [lc] at hh z
        exact inSpan_of hh z
end G55


set_option Elab.async false
set_option maxRecDepth 100000
set_option maxHeartbeats 4000000
namespace G55
open PySem L2
theorem all_mk {l : PySem.W.OpenLaw} {w : World} {K : PySem.W.Frag} {h : Heap} {mg : Str → Option Value} {fa f1 f2 f3 f4 f5 f6 f7 f8 f9 f10 f11 f12 : Addr} (X : K.In h) (G : h.Ns mainGlobals mg) (hfa : mg "law" = some (.ref fa))
    {od1 an1 od2 an2 od3 an3 od4 an4 od5 an5 od6 an6 od7 an7 od8 an8 od9 an9 od10 an10 od11 an11 od12 an12 : Option Addr} {sl1 sl2 sl3 sl4 sl5 sl6 sl7 sl8 sl9 sl10 sl11 sl12 : Array (Option Value)} {oc1 kV1 dc1 pm1 cd1 ct1 oc2 kV2 dc2 pm2 cd2 ct2 oc3 kV3 dc3 pm3 cd3 ct3 oc4 kV4 dc4 pm4 cd4 ct4 oc5 kV5 dc5 pm5 cd5 ct5 oc6 kV6 dc6 pm6 cd6 ct6 oc7 kV7 dc7 pm7 cd7 ct7 oc8 kV8 dc8 pm8 cd8 ct8 oc9 kV9 dc9 pm9 cd9 ct9 oc10 kV10 dc10 pm10 cd10 ct10 oc11 kV11 dc11 pm11 cd11 ct11 oc12 kV12 dc12 pm12 cd12 ct12 : Value}
    (a1 : PySem.W.nsIn K mainGlobals "is_crossed" = some (some (.ref f1))) (l1 : K.lookup f1 = some ⟨oc1, od1, .func (PySem.W.fnOf "is_crossed" "is_crossed" (defArgs sCrossed) (defBody sCrossed) (defScope sCrossed) .none kV1 dc1 pm1 an1 cd1 ct1), sl1⟩) (c1 : PySem.W.codeIn K cd1 "is_crossed" = true) (k1 : PySem.W.keepIn K (.ref f1) = true)
    (a2 : PySem.W.nsIn K mainGlobals "is_in" = some (some (.ref f2))) (l2 : K.lookup f2 = some ⟨oc2, od2, .func (PySem.W.fnOf "is_in" "is_in" (defArgs sIn) (defBody sIn) (defScope sIn) .none kV2 dc2 pm2 an2 cd2 ct2), sl2⟩) (c2 : PySem.W.codeIn K cd2 "is_in" = true) (k2 : PySem.W.keepIn K (.ref f2) = true)
    (a3 : PySem.W.nsIn K mainGlobals "is_between" = some (some (.ref f3))) (l3 : K.lookup f3 = some ⟨oc3, od3, .func (PySem.W.fnOf "is_between" "is_between" (defArgs sBetween) (defBody sBetween) (defScope sBetween) .none kV3 dc3 pm3 an3 cd3 ct3), sl3⟩) (c3 : PySem.W.codeIn K cd3 "is_between" = true) (k3 : PySem.W.keepIn K (.ref f3) = true)
    (a4 : PySem.W.nsIn K mainGlobals "is_wider" = some (some (.ref f4))) (l4 : K.lookup f4 = some ⟨oc4, od4, .func (PySem.W.fnOf "is_wider" "is_wider" (defArgs sWider) (defBody sWider) (defScope sWider) .none kV4 dc4 pm4 an4 cd4 ct4), sl4⟩) (c4 : PySem.W.codeIn K cd4 "is_wider" = true) (k4 : PySem.W.keepIn K (.ref f4) = true)
    (a5 : PySem.W.nsIn K mainGlobals "lets_none" = some (some (.ref f5))) (l5 : K.lookup f5 = some ⟨oc5, od5, .func (PySem.W.fnOf "lets_none" "lets_none" (defArgs sNone) (defBody sNone) (defScope sNone) .none kV5 dc5 pm5 an5 cd5 ct5), sl5⟩) (c5 : PySem.W.codeIn K cd5 "lets_none" = true) (k5 : PySem.W.keepIn K (.ref f5) = true)
    (a6 : PySem.W.nsIn K mainGlobals "holds" = some (some (.ref f6))) (l6 : K.lookup f6 = some ⟨oc6, od6, .func (PySem.W.fnOf "holds" "holds" (defArgs sHolds) (defBody sHolds) (defScope sHolds) .none kV6 dc6 pm6 an6 cd6 ct6), sl6⟩) (c6 : PySem.W.codeIn K cd6 "holds" = true) (k6 : PySem.W.keepIn K (.ref f6) = true)
    (a7 : PySem.W.nsIn K mainGlobals "_law_begun" = some (some (.ref f7))) (l7 : K.lookup f7 = some ⟨oc7, od7, .func (PySem.W.fnOf "_law_begun" "_law_begun" (defArgs sBegun) (defBody sBegun) (defScope sBegun) .none kV7 dc7 pm7 an7 cd7 ct7), sl7⟩) (c7 : PySem.W.codeIn K cd7 "_law_begun" = true) (k7 : PySem.W.keepIn K (.ref f7) = true)
    (a8 : PySem.W.nsIn K mainGlobals "_law_take" = some (some (.ref f8))) (l8 : K.lookup f8 = some ⟨oc8, od8, .func (PySem.W.fnOf "_law_take" "_law_take" (defArgs sTake) (defBody sTake) (defScope sTake) .none kV8 dc8 pm8 an8 cd8 ct8), sl8⟩) (c8 : PySem.W.codeIn K cd8 "_law_take" = true) (k8 : PySem.W.keepIn K (.ref f8) = true)
    (a9 : PySem.W.nsIn K mainGlobals "_law_alike" = some (some (.ref f9))) (l9 : K.lookup f9 = some ⟨oc9, od9, .func (PySem.W.fnOf "_law_alike" "_law_alike" (defArgs sAlike) (defBody sAlike) (defScope sAlike) .none kV9 dc9 pm9 an9 cd9 ct9), sl9⟩) (c9 : PySem.W.codeIn K cd9 "_law_alike" = true) (k9 : PySem.W.keepIn K (.ref f9) = true)
    (a10 : PySem.W.nsIn K mainGlobals "_law_bounds" = some (some (.ref f10))) (l10 : K.lookup f10 = some ⟨oc10, od10, .func (PySem.W.fnOf "_law_bounds" "_law_bounds" (defArgs sBounds) (defBody sBounds) (defScope sBounds) .none kV10 dc10 pm10 an10 cd10 ct10), sl10⟩) (c10 : PySem.W.codeIn K cd10 "_law_bounds" = true) (k10 : PySem.W.keepIn K (.ref f10) = true)
    (a11 : PySem.W.nsIn K mainGlobals "_law_in" = some (some (.ref f11))) (l11 : K.lookup f11 = some ⟨oc11, od11, .func (PySem.W.fnOf "_law_in" "_law_in" (defArgs sLIn) (defBody sLIn) (defScope sLIn) .none kV11 dc11 pm11 an11 cd11 ct11), sl11⟩) (c11 : PySem.W.codeIn K cd11 "_law_in" = true) (k11 : PySem.W.keepIn K (.ref f11) = true)
    (a12 : PySem.W.nsIn K mainGlobals "law" = some (some (.ref f12))) (l12 : K.lookup f12 = some ⟨oc12, od12, .func (PySem.W.fnOf "law" "law" (defArgs sLaw) (defBody sLaw) (defScope sLaw) .none kV12 dc12 pm12 an12 cd12 ct12), sl12⟩) (c12 : PySem.W.codeIn K cd12 "law" = true) (k12 : PySem.W.keepIn K (.ref f12) = true)
    (z_len : PySem.W.nsIn K mainGlobals "len" = some none) (z_range : PySem.W.nsIn K mainGlobals "range" = some none) (z_list : PySem.W.nsIn K mainGlobals "list" = some none) (z_tuple : PySem.W.nsIn K mainGlobals "tuple" = some none) (z_int : PySem.W.nsIn K mainGlobals "int" = some none) (z_isinstance : PySem.W.nsIn K mainGlobals "isinstance" = some none) (z_bool : PySem.W.nsIn K mainGlobals "bool" = some none) (z_str : PySem.W.nsIn K mainGlobals "str" = some none) (z_all : PySem.W.nsIn K mainGlobals "all" = some none) (z_any : PySem.W.nsIn K mainGlobals "any" = some none) (z_enumerate : PySem.W.nsIn K mainGlobals "enumerate" = some none) :
    ∃ fd : FuncData, (∀ (s : Shared) (v : Value), BindsTo s fd ⟨[v], []⟩ [("_law_script", v)]) ∧ ∀ base : Heap, K.In base → base.Ns mainGlobals mg → FnOk l.prog w K mg base CX0 4 fa fd ["_law_script"] (spLaw K) := by
  have e := hfa.symm.trans (PySem.W.mg_of X G a12)
  cases e
  have m_len : mg "len" = none := PySem.W.mg_none_of X G z_len
  have m_range : mg "range" = none := PySem.W.mg_none_of X G z_range
  have m_list : mg "list" = none := PySem.W.mg_none_of X G z_list
  have m_tuple : mg "tuple" = none := PySem.W.mg_none_of X G z_tuple
  have m_int : mg "int" = none := PySem.W.mg_none_of X G z_int
  have m_isinstance : mg "isinstance" = none := PySem.W.mg_none_of X G z_isinstance
  have m_bool : mg "bool" = none := PySem.W.mg_none_of X G z_bool
  have m_str : mg "str" = none := PySem.W.mg_none_of X G z_str
  have m_all : mg "all" = none := PySem.W.mg_none_of X G z_all
  have m_any : mg "any" = none := PySem.W.mg_none_of X G z_any
  have m_enumerate : mg "enumerate" = none := PySem.W.mg_none_of X G z_enumerate
  have F1 := fun_mk (st := sCrossed) l1 c1 k1
  have g1 : mg "is_crossed" = some (.ref f1) := PySem.W.mg_of X G a1
  have b1 := F1.binds (ps := ["least", "greatest"]) fun _ _ _ _ _ _ us hl => match us, hl with | [_, _], _ => rfl
  have F2 := fun_mk (st := sIn) l2 c2 k2
  have g2 : mg "is_in" = some (.ref f2) := PySem.W.mg_of X G a2
  have b2 := F2.binds (ps := ["row", "fields", "bounds"]) fun _ _ _ _ _ _ us hl => match us, hl with | [_, _, _], _ => rfl
  have F3 := fun_mk (st := sBetween) l3 c3 k3
  have g3 : mg "is_between" = some (.ref f3) := PySem.W.mg_of X G a3
  have b3 := F3.binds (ps := ["number", "low", "high"]) fun _ _ _ _ _ _ us hl => match us, hl with | [_, _, _], _ => rfl
  have F4 := fun_mk (st := sWider) l4 c4 k4
  have g4 : mg "is_wider" = some (.ref f4) := PySem.W.mg_of X G a4
  have b4 := F4.binds (ps := ["one", "other"]) fun _ _ _ _ _ _ us hl => match us, hl with | [_, _], _ => rfl
  have F5 := fun_mk (st := sNone) l5 c5 k5
  have g5 : mg "lets_none" = some (.ref f5) := PySem.W.mg_of X G a5
  have b5 := F5.binds (ps := ["bounds"]) fun _ _ _ _ _ _ us hl => match us, hl with | [_], _ => rfl
  have F6 := fun_mk (st := sHolds) l6 c6 k6
  have g6 : mg "holds" = some (.ref f6) := PySem.W.mg_of X G a6
  have b6 := F6.binds (ps := ["one", "other"]) fun _ _ _ _ _ _ us hl => match us, hl with | [_, _], _ => rfl
  have F7 := fun_mk (st := sBegun) l7 c7 k7
  have g7 : mg "_law_begun" = some (.ref f7) := PySem.W.mg_of X G a7
  have b7 := F7.binds (ps := ["_law_script"]) fun _ _ _ _ _ _ us hl => match us, hl with | [_], _ => rfl
  have F8 := fun_mk (st := sTake) l8 c8 k8
  have g8 : mg "_law_take" = some (.ref f8) := PySem.W.mg_of X G a8
  have b8 := F8.binds (ps := ["_law_box", "_law_many"]) fun _ _ _ _ _ _ us hl => match us, hl with | [_, _], _ => rfl
  have F9 := fun_mk (st := sAlike) l9 c9 k9
  have g9 : mg "_law_alike" = some (.ref f9) := PySem.W.mg_of X G a9
  have b9 := F9.binds (ps := ["_law_found", "_law_due"]) fun _ _ _ _ _ _ us hl => match us, hl with | [_, _], _ => rfl
  have F10 := fun_mk (st := sBounds) l10 c10 k10
  have g10 : mg "_law_bounds" = some (.ref f10) := PySem.W.mg_of X G a10
  have b10 := F10.binds (ps := ["_law_box", "_law_fields"]) fun _ _ _ _ _ _ us hl => match us, hl with | [_, _], _ => rfl
  have F11 := fun_mk (st := sLIn) l11 c11 k11
  have g11 : mg "_law_in" = some (.ref f11) := PySem.W.mg_of X G a11
  have b11 := F11.binds (ps := ["_law_row", "_law_fields", "_law_spans"]) fun _ _ _ _ _ _ us hl => match us, hl with | [_, _, _], _ => rfl
  have F12 := fun_mk (st := sLaw) l12 c12 k12
  have T1 : Txt mg := ⟨m_len, m_range, m_list, m_tuple, m_int, m_isinstance⟩
  have T : Txt2 mg := ⟨T1, m_bool, m_str⟩
  have T3 : Txt3 mg := ⟨m_all, m_any, m_enumerate⟩
  refine ⟨PySem.W.fnOf "law" "law" (defArgs sLaw) (defBody sLaw) (defScope sLaw) .none kV12 dc12 pm12 an12 cd12 ct12, fun s v => .of_eq rfl, fun base _ _ => ?_⟩
  have C1 : Cal l.prog w K mg base 1 "is_crossed" ["least", "greatest"] spCrossed f1 _ := ⟨g1, k1, b1, ok_crossed F1⟩
  have C3 : Cal l.prog w K mg base 2 "is_between" ["number", "low", "high"] spBetween f3 _ := ⟨g3, k3, b3, (ok_between F3).mono (by decide)⟩
  have C6 : Cal l.prog w K mg base 2 "holds" ["one", "other"] (spHolds K) f6 _ := ⟨g6, k6, b6, (ok_holds F6).mono (by decide)⟩
  have C5 : Cal l.prog w K mg base 2 "lets_none" ["bounds"] (spNone K) f5 _ := ⟨g5, k5, b5, ok_none F5 T3 C1⟩
  have C2 : Cal l.prog w K mg base 3 "is_in" ["row", "fields", "bounds"] (spIsIn K) f2 _ := ⟨g2, k2, b2, ok_in F2 T3 C3⟩
  have C4 : Cal l.prog w K mg base 3 "is_wider" ["one", "other"] (spWider K wider) f4 _ := ⟨g4, k4, b4, ok_wider F4 T3 C5 C6⟩
  have C7 : Cal l.prog w K mg base 3 "_law_begun" ["_law_script"] (spBegun K) f7 _ := ⟨g7, k7, b7, (ok_begun F7 T1).mono (by decide)⟩
  have C8 : Cal l.prog w K mg base 1 "_law_take" ["_law_box", "_law_many"] (spTake K) f8 _ := ⟨g8, k8, b8, ok_take F8 T1⟩
  have C8' : Cal l.prog w K mg base 3 "_law_take" ["_law_box", "_law_many"] (spTake K) f8 _ := ⟨g8, k8, b8, (ok_take F8 T1).mono (by decide)⟩
  have C9 : Cal l.prog w K mg base 3 "_law_alike" ["_law_found", "_law_due"] spAlikeB f9 _ := ⟨g9, k9, b9, (ok_alike F9 T m_isinstance).mono (by decide)⟩
  have C10 : Cal l.prog w K mg base 3 "_law_bounds" ["_law_box", "_law_fields"] (spBounds K) f10 _ := ⟨g10, k10, b10, (ok_bounds F10 T C8).mono (by decide)⟩
  have C11 : Cal l.prog w K mg base 3 "_law_in" ["_law_row", "_law_fields", "_law_spans"] (spLIn K) f11 _ := ⟨g11, k11, b11, (ok_lin F11 T).mono (by decide)⟩
  exact ok_law F12 T C7 C8' C9 C10 C11 C2 C4 wider_self wider_nil wider_so

theorem walk {l : PySem.W.OpenLaw} {q : Program} {loose : List Str} {XP : (Str → Option Value) → Heap → Prop} {YP : World → Heap → Prop} {d : DefRec} {K : Params → PySem.W.Frag} (hn : l.most = some 63) (hdf : d.params.defaults = [])
    (hY : ∀ (w : World) (h : Heap), YP w h → (K w.params).In h)
    (F : ∀ (w : World) (mg : Str → Option Value) (fa : Addr) (h : Heap), (K w.params).In h → h.Ns mainGlobals mg → mg d.name = some (.ref fa) →
      ∃ fd : FuncData, (∀ (s : Shared) (u : Value), BindsTo s fd ⟨[u], []⟩ [("_law_script", u)]) ∧ ∀ base : Heap, (K w.params).In base → base.Ns mainGlobals mg → FnOk l.prog w (K w.params) mg base CX0 4 fa fd ["_law_script"] (spLaw (K w.params))) :
    PySem.W.WalkO q loose XP YP l.row.toRowW d [] (fun f vs => PySem.call f vs) :=
  L2.walk_of (n := 63) (k := 4) (x := "_law_script") (CX := fun _ => CX0) (sp := fun w => spLaw (K w.params)) hn (by decide) hdf ⟨rfl, by decide, by decide⟩ hY F (fun _ _ a ns hl _ hS => ⟨a, ns, rfl, hS, hl, fun _ => rfl⟩) fun _ _ _ _ _ z => z
end G55
open PySem PySem.W PyProof.Rows in
set_option maxRecDepth 100000 in
set_option maxHeartbeats 0 in
theorem PySem.Challenge.cw_granary_k55_sights_holds : PySem.Challenge.rw_granary_k55_sights.Holds := by
  w_on; o_law; k_head; (case hw => w_witness2)
  k_fill
  refine G55.walk (l := PySem.Challenge.rw_granary_k55_sights) rfl rfl (fun w h Y => PySem.W.kIn_of Y) ?F
  case F =>
    intro w mg fa h KX G hmg
    refine' G55.all_mk KX G hmg ?a1 ?l1 ?c1 ?k1 ?a2 ?l2 ?c2 ?k2 ?a3 ?l3 ?c3 ?k3 ?a4 ?l4 ?c4 ?k4 ?a5 ?l5 ?c5 ?k5 ?a6 ?l6 ?c6 ?k6 ?a7 ?l7 ?c7 ?k7 ?a8 ?l8 ?c8 ?k8 ?a9 ?l9 ?c9 ?k9 ?a10 ?l10 ?c10 ?k10 ?a11 ?l11 ?c11 ?k11 ?a12 ?l12 ?c12 ?k12 ?z_len ?z_range ?z_list ?z_tuple ?z_int ?z_isinstance ?z_bool ?z_str ?z_all ?z_any ?z_enumerate
    (case a1 => k_is)
    (case l1 => k_is)
    (case c1 => k_is)
    (case k1 => k_is)
    (case a2 => k_is)
    (case l2 => k_is)
    (case c2 => k_is)
    (case k2 => k_is)
    (case a3 => k_is)
    (case l3 => k_is)
    (case c3 => k_is)
    (case k3 => k_is)
    (case a4 => k_is)
    (case l4 => k_is)
    (case c4 => k_is)
    (case k4 => k_is)
    (case a5 => k_is)
    (case l5 => k_is)
    (case c5 => k_is)
    (case k5 => k_is)
    (case a6 => k_is)
    (case l6 => k_is)
    (case c6 => k_is)
    (case k6 => k_is)
    (case a7 => k_is)
    (case l7 => k_is)
    (case c7 => k_is)
    (case k7 => k_is)
    (case a8 => k_is)
    (case l8 => k_is)
    (case c8 => k_is)
    (case k8 => k_is)
    (case a9 => k_is)
    (case l9 => k_is)
    (case c9 => k_is)
    (case k9 => k_is)
    (case a10 => k_is)
    (case l10 => k_is)
    (case c10 => k_is)
    (case k10 => k_is)
    (case a11 => k_is)
    (case l11 => k_is)
    (case c11 => k_is)
    (case k11 => k_is)
    (case a12 => k_is)
    (case l12 => k_is)
    (case c12 => k_is)
    (case k12 => k_is)
    (case z_len => k_is)
    (case z_range => k_is)
    (case z_list => k_is)
    (case z_tuple => k_is)
    (case z_int => k_is)
    (case z_isinstance => k_is)
    (case z_bool => k_is)
    (case z_str => k_is)
    (case z_all => k_is)
    (case z_any => k_is)
    (case z_enumerate => k_is)

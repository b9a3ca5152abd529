import PyProof.Rows.All
import Wide.All
import OpenK.AllK
import Wide.FinOn
import HandS.ForMost
import HandS.Wide
import HandS.IsInst
import HandS.TupAny
import HandS.TupLe
import HandS.Star
import HandS.Evl
import HandS.SortRule
import HandS.NoneIn
import HandS.Defaults
import HandS.TupSets
import HandS.Keys
import HandS.Small
import KE.KOpsOwn
import HandS.SlotsOwn
import KE.RegKIsAll
import PyProof.Draws
import HandS.ForExc
import HandS.Text
import HandS.FStr
import HandS.StrMore
import HandS.MapJoin
import HandS.Style
import HandS.Records
import HandS.Rev
import HandS.Flow
import HandS.WideBits
import HandS.CallLocal
import HandS.Codes
import HandS.ExcField
import HandS.ExcInit
import HandS.ExcIs
import HandS.ExcOwn
import HandS.ExcValue
import KE.KExcIs
import HandS.MakeKw
import PyProof.ReprReads
import PyProof.ReprRoads
import HandS.RaiseMore
import HandS.Comp
import HandS.Conv
import HandS.SortInts
import PySem.Challenge.RW_openranges_k00_errors
set_option Elab.async false
set_option linter.all false
set_option maxRecDepth 100000
namespace OR
open PySem PySem.Spec PyProof.Rows L2
def top (i : Nat) : Stmt := PySem.Challenge.pw_openranges_k00_errors.main.body.getD i (.Pass ⟨0, 0, 0, 0⟩)
abbrev sBadStretchInit : Stmt := inClass (top 2) 0
abbrev sBadTextInit : Stmt := inClass (top 3) 0
abbrev sBadLineInit : Stmt := inClass (top 4) 0
abbrev sBadWordInit : Stmt := inClass (top 5) 0
abbrev sSameFunctionInit : Stmt := inClass (top 6) 0
abbrev sBadSignInit : Stmt := inClass (top 7) 0
abbrev sBadFactorInit : Stmt := inClass (top 8) 0
abbrev sBadPiecesInit : Stmt := inClass (top 9) 0
abbrev sBadFunctionsInit : Stmt := inClass (top 12) 0
abbrev sTwiceInit : Stmt := inClass (top 13) 0
abbrev sTooManyInit : Stmt := inClass (top 14) 0
abbrev sNoFunctionInit : Stmt := inClass (top 15) 0
abbrev sNoPlaceInit : Stmt := inClass (top 16) 0
abbrev sNoClauseInit : Stmt := inClass (top 17) 0
abbrev sNoBoundInit : Stmt := inClass (top 18) 0
abbrev sBadNameInit : Stmt := inClass (top 20) 0
abbrev sUnknownInit : Stmt := inClass (top 21) 0
abbrev sKnownInit : Stmt := inClass (top 22) 0
abbrev sSettledInit : Stmt := inClass (top 23) 0
abbrev sNotLetInit : Stmt := inClass (top 24) 0
abbrev sPen : Stmt := top 28
abbrev sDraw : Stmt := top 29
abbrev sPick : Stmt := top 30
abbrev sWhole : Stmt := top 31
abbrev sAny : Stmt := top 32
abbrev sByPosition : Stmt := top 33
abbrev sByName : Stmt := top 34
abbrev sMade : Stmt := top 35
abbrev sKinds : Stmt := top 36
abbrev sLaw : Stmt := top 37
end OR

namespace OR
open PySem PySem.Spec PyProof.Rows L2
/-! ### the pen: a dict of the cells, how many have begun, what is left of the last one -/
theorem kBC : ¬ ((Sum.inr ("begun" : Str) : Key) = Sum.inr ("cells" : Str)) := by decide +kernel
theorem kLC : ¬ ((Sum.inr ("left" : Str) : Key) = Sum.inr ("cells" : Str)) := by decide +kernel
theorem kLB : ¬ ((Sum.inr ("left" : Str) : Key) = Sum.inr ("begun" : Str)) := by decide +kernel
def penK (c : Addr) (k l : Int) : List (Key × V) := [(.inr ("cells" : Str), .ref c), (.inr ("begun" : Str), .int k), (.inr ("left" : Str), .int l)]
theorem pen_cells (c : Addr) (k l : Int) : valV (penK c k l) (.inr ("cells" : Str)) = some (.ref c) := valV_pos rfl
theorem pen_begun (c : Addr) (k l : Int) : valV (penK c k l) (.inr ("begun" : Str)) = some (.int k) :=
  (valV_neg (fun e => kBC e.symm)).trans (valV_pos rfl)
theorem pen_left (c : Addr) (k l : Int) : valV (penK c k l) (.inr ("left" : Str)) = some (.int l) :=
  (valV_neg (fun e => kLC e.symm)).trans ((valV_neg (fun e => kLB e.symm)).trans (valV_pos rfl))
theorem pen_put_left (c : Addr) (k l y : Int) : putK (penK c k l) (.inr ("left" : Str)) (.int y) = penK c k y := by
  have h1 : ¬ ((Sum.inr ("cells" : Str) : Key) = Sum.inr ("left" : Str)) := fun e => kLC e.symm
  have h2 : ¬ ((Sum.inr ("begun" : Str) : Key) = Sum.inr ("left" : Str)) := fun e => kLB e.symm
  unfold putK penK
  simp only [List.any_cons, List.any_nil, List.map_cons, List.map_nil, h1, h2, decide_true, decide_false, Bool.or_false, Bool.false_or, if_true, if_false]
theorem pen_put_begun (c : Addr) (k l y : Int) : putK (penK c k l) (.inr ("begun" : Str)) (.int y) = penK c y l := by
  have h1 : ¬ ((Sum.inr ("cells" : Str) : Key) = Sum.inr ("begun" : Str)) := fun e => kBC e.symm
  have h2 : ¬ ((Sum.inr ("left" : Str) : Key) = Sum.inr ("begun" : Str)) := kLB
  unfold putK penK
  simp only [List.any_cons, List.any_nil, List.map_cons, List.map_nil, h1, h2, decide_true, decide_false, Bool.or_false, Bool.false_or, Bool.or_true, if_true, if_false]
/-- a pen at p after at most n draws -/
def Pen (H : Hp) (p : Addr) (n : Nat) : Prop := ∃ (c : Addr) (ns : List Int) (k l : Int), H p = some (.dK (penK c k l)) ∧ H c = some (.lst (ns.map V.int)) ∧ ns.length ≤ 63 ∧ 0 ≤ k ∧ k ≤ n ∧ 0 ≤ l
/-- where the pen at p keeps its cells -/
def cellsAt (H : Hp) (p c : Addr) : Prop := ∃ k l, H p = some (.dK (penK c k l))
theorem penK_inj {c c' : Addr} {k l k' l' : Int} (h : penK c k l = penK c' k' l') : c = c' := by
  unfold penK at h
  injection h with h1 _
  injection h1 with _ h2
  injection h2
theorem cellsAt.inj {H : Hp} {p c : Addr} {k l : Int} {c' : Addr} (h : cellsAt H p c) (e : H p = some (.dK (penK c' k l))) : c = c' := by
  obtain ⟨k', l', e'⟩ := h
  rw [e] at e'
  injection e' with e'
  injection e' with e'
  exact (penK_inj e').symm
/-- all but what stands at p is as it was, and the pen there has the same cells -/
structure Frm (p : Addr) (H H' : Hp) : Prop where
  at_ : ∀ b o, H b = some o → b ≠ p → H' b = some o
  ce : ∀ c, cellsAt H p c → cellsAt H' p c
instance {p : Addr} {H H' : Hp} : CoeFun (Frm p H H') (fun _ => ∀ b o, H b = some o → b ≠ p → H' b = some o) := ⟨Frm.at_⟩
theorem Frm.refl (p : Addr) (H : Hp) : Frm p H H := ⟨fun _ _ h _ => h, fun _ h => h⟩
theorem Frm.trans {p : Addr} {H H1 H2 : Hp} (a : Frm p H H1) (b : Frm p H1 H2) : Frm p H H2 := ⟨fun c o h n => b c o (a c o h n) n, fun c h => b.ce c (a.ce c h)⟩
theorem Frm.pen {p c : Addr} {H : Hp} {k l k' l' : Int} (h : H p = some (.dK (penK c k l))) : Frm p H (upd H p (.dK (penK c k' l'))) :=
  ⟨fun b x e n => by rw [upd_ne n]; exact e, fun c' h' => by rw [h'.inj h]; exact ⟨k', l', upd_same⟩⟩
theorem Frm.new {p q : Addr} {H : Hp} {o : HO} (h : H q = none) : Frm p H (upd H q o) :=
  ⟨fun b x e _ => by rw [upd_ne (ne_of_none e h)]; exact e, fun c ⟨k, l, e⟩ => ⟨k, l, by rw [upd_ne (ne_of_none e h)]; exact e⟩⟩
/-- a list that is not the pen's cells is changed -/
theorem Pen.put {H : Hp} {p c a : Addr} {n : Nat} {xs : List V} {o : HO} (P : Pen H p n) (hc : cellsAt H p c) (h : H a = some (.lst xs)) (n1 : c ≠ a) : Pen (upd H a o) p n := by
  obtain ⟨c', ns, k, l, h1, h2, h3⟩ := P
  obtain rfl := hc.inj h1
  exact ⟨c, ns, k, l, by rw [upd_ne (ne_of h1 h (by intro z; cases z))]; exact h1, by rw [upd_ne n1]; exact h2, h3⟩
theorem Pen.cells {H : Hp} {p : Addr} {n : Nat} (P : Pen H p n) : ∃ c, cellsAt H p c ∧ H c ≠ none := by
  obtain ⟨c, ns, k, l, h1, h2, _⟩ := P
  exact ⟨c, ⟨k, l, h1⟩, by rw [h2]; exact fun z => nomatch z⟩
theorem Pen.dict {H : Hp} {p : Addr} {n : Nat} (P : Pen H p n) : ∃ kvs, H p = some (.dK kvs) := by
  obtain ⟨c, ns, k, l, h1, _⟩ := P
  exact ⟨_, h1⟩
/-- what stands at a list, a tuple or an object is not the pen -/
theorem Frm.lst {H H' : Hp} {p a : Addr} {n : Nat} {xs : List V} (f : Frm p H H') (P : Pen H p n) (h : H a = some (.lst xs)) : H' a = some (.lst xs) := by
  obtain ⟨kvs, hp⟩ := P.dict
  exact f _ _ h (ne_of h hp (by intro z; cases z))
theorem Pen.mono {H : Hp} {p : Addr} {n m : Nat} (P : Pen H p n) (h : n ≤ m) : Pen H p m := by
  obtain ⟨c, ns, k, l, h1, h2, h3, h4, h5, h6⟩ := P
  exact ⟨c, ns, k, l, h1, h2, h3, h4, by omega, h6⟩
theorem Pen.new {H : Hp} {p q : Addr} {n : Nat} {o : HO} (P : Pen H p n) (h : H q = none) : Pen (upd H q o) p n := by
  obtain ⟨c, ns, k, l, h1, h2, h3, h4, h5, h6⟩ := P
  exact ⟨c, ns, k, l, by rw [upd_ne (ne_of_none h1 h)]; exact h1, by rw [upd_ne (ne_of_none h2 h)]; exact h2, h3, h4, h5, h6⟩
/-! ### the promises -/
/-- a draw: some number below m -/
def spDraw : Sp := fun vs H Q _ => ∃ (p : Addr) (m : Int) (n : Nat), vs = [.ref p, .int m] ∧ 0 < m ∧ m.natAbs < 2 ^ 200 ∧ Pen H p n ∧ n ≤ 1000000 ∧
  ∀ (r : Int) (H' : Hp), 0 ≤ r → r < m → Pen H' p (n + 1) → Frm p H H' → Q (.int r) H'
/-- a def that lets nothing out, as it is called by its name -/
structure Cl (P : Program) (w : World) (K : PySem.W.Frag) (mg : Str → Option Value) (base : Heap) (k : Nat) (x : Str) (ps : List Str) (sp : Sp) : Prop where
  ex : ∃ (f : Addr) (fd : FuncData), FnOk P w K mg base CX0 k f fd ps sp ∧ mg x = some (.ref f) ∧ PySem.W.keepIn K (.ref f) = true ∧ Binds K fd ps []
theorem pe_cl {X : Cx} {k j : Nat} {x : Str} {ps : List Str} {sp : Sp} {e : Expr} {es : List Expr} {t : TA} {p pos : Pos} (c : Cl X.prog X.w X.K X.mg X.base k x ps sp) (hr : Room j X.A) (hk : k ≤ j) (hg : Gl X x) (ha : PA X (e :: es) t)
    (hdb : (x == ("__debug__" : Str)) = false := by decide) (he : starEach (e :: es) X.env = (false, eval e X.env) :: starEach es X.env := by rfl) (hpl : (backTo pos (starEach es X.env)).any (·.1) = false := by rfl) :
    PE X (.Call (.Name x p) (e :: es) [] pos) (tCall sp [] E0 t) := by
  obtain ⟨f, fd, F, hm, hkp, hb⟩ := c.ex
  exact pe_call F (hr.mono hk) hg hm hkp hb .nil pass0 ha hdb he hpl
theorem Frm.seq {K : PySem.W.Frag} {H H' : Hp} {p a : Addr} {n : Nat} {xs : List V} (f : Frm p H H') (P : Pen H p n) (h : SqL K H a xs) : SqL K H' a xs := by
  obtain ⟨c, ns, k, l, hp, _⟩ := P
  rcases h with (h | ⟨o, h⟩) | h
  · exact .inl (.inl (f _ _ h (ne_of h hp (by intro z; cases z))))
  · exact .inl (.inr ⟨o, f _ _ h (ne_of h hp (by intro z; cases z))⟩)
  · exact .inr h
theorem Frm.tup {K : PySem.W.Frag} {H H' : Hp} {p a : Addr} {n : Nat} {xs : List V} (f : Frm p H H') (P : Pen H p n) (h : SqT K H a xs) : SqT K H' a xs := by
  obtain ⟨c, ns, k, l, hp, _⟩ := P
  rcases h with (h | ⟨o, h⟩) | h
  · exact .inl (.inl (f _ _ h (ne_of h hp (by intro z; cases z))))
  · exact .inl (.inr ⟨o, f _ _ h (ne_of h hp (by intro z; cases z))⟩)
  · exact .inr h
/-- an item of a list that is not empty -/
def spPick (K : PySem.W.Frag) : Sp := fun vs H Q _ => ∃ (p a : Addr) (xs : List V) (n : Nat), vs = [.ref p, .ref a] ∧ SqL K H a xs ∧ 0 < xs.length ∧ xs.length ≤ 1000 ∧ Pen H p n ∧ n ≤ 1000000 ∧
  ∀ (v : V) (H' : Hp), v ∈ xs → Pen H' p (n + 1) → Frm p H H' → Q v H'
/-- some number, not too great -/
def spWhole : Sp := fun vs H Q _ => ∃ (p : Addr) (n : Nat), vs = [.ref p] ∧ Pen H p n ∧ n ≤ 900000 ∧
  ∀ (r : Int) (H' : Hp), -(10 ^ 30) < r → r < 10 ^ 30 → Pen H' p (n + 3) → Frm p H H' → Q (.int r) H'
/-- the pen, made of the script -/
def spPen (K : PySem.W.Frag) : Sp := fun vs H Q _ => ∃ (a : Addr) (ns : List Int), vs = [.ref a] ∧ SqL K H a (ns.map V.int) ∧ ns.length ≤ 63 ∧
  ∀ (p : Addr) (H' : Hp), H p = none → Pen H' p 0 → Same H H' → Q (.ref p) H'
structure Bl (mg : Str → Option Value) : Prop where
  int : mg "int" = none
  len : mg "len" = none
  abs : mg "abs" = none
  list : mg "list" = none
theorem dg {H : Hp} {p : Addr} {kvs : List (Key × V)} {x : Str} {v : V} (h : H p = some (.dK kvs)) (e : valV kvs (.inr x) = some v) : DGet H p (.str x) (some v) := e ▸ DGet.k (k := .inr x) h
theorem dp {H : Hp} {p : Addr} {kvs kvs' : List (Key × V)} {x : Str} {v : V} (h : H p = some (.dK kvs)) (e : putK kvs (.inr x) v = kvs') (hl : kvs.length < sizeLine) : DPut H p (.str x) v (upd H p (.dK kvs')) := e ▸ DPut.k (k := .inr x) h hl
theorem pen_small (c : Addr) (k l : Int) : (penK c k l).length < sizeLine := by show 3 < sizeLine; decide
theorem mod_bd (a b : Int) (h : 0 < b) : 0 ≤ a % b ∧ a % b < b := ⟨Int.emod_nonneg a (by omega), Int.emod_lt_of_pos a h⟩
theorem boot_absO : bootBuiltins ("abs" : Str) = some (.builtin "abs") := by decide +kernel
section
variable {P : Program} {w : World} {K : PySem.W.Frag} {mg : Str → Option Value} {base : Heap}
theorem scDraw : FnScope ["_law_pen_here", "_law_many", "_law_digit", "_law_k", "_law_size", "_law_cell", "_law_mix"] ["_law_pen_here", "_law_many"] (defScope sDraw) := ⟨rfl, rfl, rfl, by decide +kernel, rfl, by decide +kernel, by decide +kernel⟩
theorem div200 {m : Int} (h : 0 < m) (h2 : m.natAbs < 2 ^ 200) (i : Int) : CDivW i m := wide_div h h2 (by decide) (by decide)
theorem ok_draw {f : Addr} {fd : FuncData} (F : Fun K "_law_draw" "_law_draw" sDraw f fd) (B : Bl mg) : FnOk P w K mg base CX0 1 f fd ["_law_pen_here", "_law_many"] spDraw := by
  refine F.ok scDraw (fun vs H Q E h => ?_) (fun cdv A outer s H vs Q E hr h => ?_)
  · obtain ⟨p, m, n, rfl, _⟩ := h
    rfl
  · obtain ⟨p, m, n, rfl, hm, hmb, ⟨c, ns, k, l, hp, hc, hns, hk0, hkn, hl⟩, hn, q⟩ := h
    have hu := hu_of hr
    have ncp : c ≠ p := ne_of hc hp (by intro z; cases z)
    have nd := scDraw.nd
    refine ⟨_, pss_cons (ps_if (pt_cmpR op_gt (pe_dget hu (pv 0) pe_str (fun _ _ => rfl)) pe_int (nomark _))
        (pss_cons (ps_set (i := 2) nd rfl (.inl rfl) (pe_op op_mod (pe_callTy call_int1 (by rfl) B.int boot_int (pa_cons (pe_dget hu (pv 0) pe_str (fun _ _ => rfl)) pa_nil)) (pv 1)))
        (pss_cons (ps_dput hu (pv 0) pe_str (pe_op op_fdivW (pe_dget hu (pv 0) pe_str (fun _ _ => rfl)) (pv 1)) rfl)
        (pss_one (ps_ret (pv 2))))) pss_nil)
      (pss_cons (ps_par (i := 3) (j := 4) rfl nd rfl rfl (by decide) rfl rfl (pa_cons (pe_dget hu (pv 0) pe_str (fun _ _ => rfl)) (pa_cons (pe_callB call_len_seq (by rfl) B.len PySem.boot_len (pa_cons (pe_dget hu (pv 0) pe_str (fun _ _ => rfl)) pa_nil)) pa_nil)) rfl)
      (pss_cons (ps_dput hu (pv 0) pe_str (pe_op op_add (pv 3) pe_int) rfl)
      (Evl.pss_cut (ps_set (i := 5) nd rfl (.inl rfl) (pe_ifExp (pt_cmpR op_gt (pv 4) pe_int (nomark _))
          (pe_ix ix_list (pe_dget hu (pv 0) pe_str (fun _ _ => rfl)) (pe_op op_mod (pe_callTy call_int1 (by rfl) B.int boot_int (pa_cons (pv 3) pa_nil)) (pv 4)) (fun _ _ => rfl))
          (pe_op op_add (pe_op op_mul pe_int (pv 3)) pe_int)))
      (Evl.pss_cut (ps_if (PW.pt (pw_and (pt_cmpR op_lt (pv 3) (pv 4) (nomark _)) (pw_and1 (pt_cmpR op_ge (pe_callB call_abs (by rfl) B.abs boot_absO (pa_cons (pv 5) pa_nil)) (pe_op op_pow pe_int pe_int) (nomark _)))))
        (pss_cons (ps_dput hu (pv 0) pe_str (pe_op op_fdivW (pe_op op_sub (pe_callB call_abs (by rfl) B.abs boot_absO (pa_cons (pv 5) pa_nil)) (pe_op op_pow pe_int pe_int)) (pv 1)) rfl)
        (pss_one (ps_ret (pe_op op_mod (pe_callTy call_int1 (by rfl) B.int boot_int (pa_cons (pe_op op_sub (pe_callB call_abs (by rfl) B.abs boot_absO (pa_cons (pv 5) pa_nil)) (pe_op op_pow pe_int pe_int)) pa_nil)) (pv 1))))) pss_nil)
      (pss_cons (ps_set (i := 6) nd rfl (.inl rfl) (pe_op op_mod (pe_callTy call_int1 (by rfl) B.int boot_int (pa_cons
          (pe_op op_add (pe_op op_add (pe_op op_add (pe_op op_mul (pe_op op_mod (pe_callTy call_int1 (by rfl) B.int boot_int (pa_cons (pv 5) pa_nil)) pe_int) pe_int) (pe_op op_mul (pe_op op_mul pe_int (pv 3)) (pv 3))) (pe_op op_mul pe_int (pv 3))) pe_int) pa_nil)) pe_int))
      (pss_cons (ps_set (i := 6) nd rfl (.inl rfl) (pe_op op_mod (pe_callTy call_int1 (by rfl) B.int boot_int (pa_cons
          (pe_op op_add (pe_op op_add (pe_op op_mul (pv 6) (pv 6)) (pe_op op_mul pe_int (pv 6))) (pe_op op_mul pe_int (pv 3))) pa_nil)) pe_int))
      (pss_one (ps_ret (pe_op op_mod (pe_callTy call_int1 (by rfl) B.int boot_int (pa_cons (pe_op op_fdiv (pe_op op_mod (pe_callTy call_int1 (by rfl) B.int boot_int (pa_cons (pe_op op_mul (pv 6) (pe_op op_add (pv 6) pe_int)) pa_nil)) pe_int) pe_int) pa_nil)) (pv 1)))))))))), ?_⟩
    -- if pen['left'] > 0
    have dL : DGet H p (.str "left") (some (.int l)) := dg hp (pen_left c k l)
    have dB : DGet H p (.str "begun") (some (.int k)) := dg hp (pen_begun c k l)
    have dC : DGet H p (.str "cells") (some (.ref c)) := dg hp (pen_cells c k l)
    refine ⟨_, rfl, p, .int l, rfl, dL, _, _, rfl, rfl, _, rfl, ite2 (fun e => ?_) (fun e => ?_)⟩
    · have hl1 : 0 < l := of_decide_eq_true e
      refine ⟨_, rfl, p, .int l, rfl, dL, .inl ⟨l, rfl, _, rfl, l, m, rfl, rfl, hm, ?_⟩⟩
      refine ⟨_, rfl, p, .int l, rfl, dL, _, rfl, l, m, rfl, rfl, div200 hm hmb l, _, rfl, p, _, rfl, dp hp (pen_put_left c k l _) (pen_small c k l), _, rfl, ?_⟩
      refine q (l % m) _ (mod_bd l m hm).1 (mod_bd l m hm).2 ⟨c, ns, k, l / m, upd_same, by rw [upd_ne ncp]; exact hc, hns, hk0, by omega, Int.ediv_nonneg hl (by omega)⟩ (Frm.pen hp)
    · -- k, size = pen['begun'], len(pen['cells'])
      have hcL : SqL K H c (ns.map V.int) := .inl (.inl hc)
      refine ⟨_, rfl, p, .int k, rfl, dB, _, rfl, p, .ref c, rfl, dC, c, _, rfl, .inl hcL, _, _, rfl, ?_⟩
      refine ⟨_, rfl, _, _, rfl, rfl, _, rfl, p, _, rfl, dp hp (pen_put_begun c k l _) (pen_small c k l), ?_⟩
      -- cell = ..
      have hl0 : l = 0 := by
        have : ¬ (0 < l) := fun z => e (decide_eq_true z)
        omega
      have hp1 : (upd H p (.dK (penK c (k + 1) l))) p = some (.dK (penK c (k + 1) l)) := upd_same
      have hc1 : (upd H p (.dK (penK c (k + 1) l))) c = some (.lst (ns.map V.int)) := by rw [upd_ne ncp]; exact hc
      have dC1 := dg (x := "cells") hp1 (pen_cells c (k + 1) l)
      have hcL1 : SqL K (upd H p (.dK (penK c (k + 1) l))) c (ns.map V.int) := .inl (.inl hc1)
      have fin : ∀ (r y : Int), 0 ≤ r → r < m → 0 ≤ y → ∀ H', H' = upd H p (.dK (penK c (k + 1) y)) → Q (.int r) H' := fun r y h0 h1 hy H' e => by
        subst e
        exact q r _ h0 h1 ⟨c, ns, k + 1, y, upd_same, by rw [upd_ne ncp]; exact hc, hns, by omega, by omega, hy⟩ (Frm.pen hp)
      refine ⟨fun σ' H' => ∃ cell : Int, σ' = [some (.ref p), some (.int m), none, some (.int k), some (.int ((ns.map V.int).length : Int)), some (.int cell), none] ∧ H' = upd H p (.dK (penK c (k + 1) l)), ?_, ?_⟩
      · refine ⟨_, rfl, _, _, rfl, rfl, _, rfl, ite2 (fun e2 => ?_) (fun e2 => ?_)⟩
        · have hsz : (0 : Int) < ((ns.map V.int).length : Int) := of_decide_eq_true e2
          have hb := mod_bd k _ hsz
          have hj : (k % ((ns.map V.int).length : Int)).toNat < ns.length := by
            rw [List.length_map] at hb ⊢
            omega
          refine ⟨_, rfl, p, _, rfl, dC1, _, rfl, .inl ⟨k, rfl, _, rfl, k, _, rfl, rfl, hsz, c, ns.map V.int, _, .int ns[(k % ((ns.map V.int).length : Int)).toNat], rfl, rfl, hcL1, ?_, ?_⟩⟩
          · have := atI_nat (xs := ns.map V.int) (j := (k % ((ns.map V.int).length : Int)).toNat) (v := .int ns[(k % ((ns.map V.int).length : Int)).toNat]) (by rw [List.getElem?_map, List.getElem?_eq_getElem hj]; rfl)
            rw [Int.toNat_of_nonneg hb.1] at this
            exact this
          · exact ⟨_, rfl, rfl⟩
        · refine ⟨_, rfl, _, _, rfl, rfl, .inl ⟨by decide, by decide⟩, _, _, rfl, rfl, ?_⟩
          exact ⟨_, rfl, rfl⟩
      · rintro σ' H' ⟨cell, rfl, rfl⟩
        refine ⟨fun σ' H' => σ' = [some (.ref p), some (.int m), none, some (.int k), some (.int ((ns.map V.int).length : Int)), some (.int cell), none] ∧ H' = upd H p (.dK (penK c (k + 1) l)), ?_, ?_⟩
        · have hpow : CPow 10 18 := ⟨by decide, by decide, by decide⟩
          refine ⟨_, rfl, _, rfl, _, _, rfl, rfl, _, rfl, ite2 (fun e2 => ?_) (fun e2 => ?_)⟩
          · refine ⟨_, rfl, cell, rfl, _, _, rfl, rfl, hpow, _, _, rfl, rfl, _, rfl, ite2 (fun e3 => ?_) (fun e3 => ?_)⟩
            · have hge := of_decide_eq_true e3
              refine ⟨_, rfl, cell, rfl, _, _, rfl, rfl, hpow, _, _, rfl, rfl, _, rfl, _, _, rfl, rfl, div200 hm hmb _, _, rfl, p, _, rfl, dp hp1 (pen_put_left c (k + 1) l _) (pen_small c _ l), ?_⟩
              refine ⟨_, rfl, cell, rfl, _, _, rfl, rfl, hpow, _, _, rfl, rfl, .inl ⟨_, rfl, _, rfl, _, _, rfl, rfl, hm, ?_⟩⟩
              refine fin _ (((if cell < 0 then -cell else cell) - 10 ^ (18 : Int).toNat) / m) (mod_bd _ m hm).1 (mod_bd _ m hm).2 (Int.ediv_nonneg ?_ (by omega)) _ ?_
              · show (0 : Int) ≤ (if cell < 0 then -cell else cell) - 10 ^ (18 : Int).toNat
                have : (10 : Int) ^ (18 : Int).toNat ≤ (if cell < 0 then -cell else cell) := hge
                omega
              · rw [upd_upd]
            · exact ⟨rfl, rfl⟩
          · exact iteF ⟨rfl, rfl⟩
        · rintro σ' H' ⟨rfl, rfl⟩
          -- mix
          refine ⟨_, rfl, .inl ⟨_, rfl, _, _, rfl, rfl, (by show (0 : Int) < 4294966769; decide), _, _, rfl, rfl, .inr ⟨by decide, by decide⟩, _, rfl, _, _, rfl, rfl, .inl ⟨by decide, by decide⟩, _, rfl, _, _, rfl, rfl, .inl ?_, _, _, rfl, rfl, _, rfl, _, _, rfl, rfl, .inl ⟨by decide, by decide⟩, _, _, rfl, rfl, _, _, rfl, rfl, .inl ⟨_, rfl, _, _, rfl, rfl, (by show (0 : Int) < 4294966813; decide), ?_⟩⟩⟩
          · constructor <;> omega
          -- mix again
          generalize hM : (cell % 4294966769 * 43313 + 31699 * k * k + 613 * k + 41) % 4294966813 = M
          have hMb : 0 ≤ M ∧ M < 4294966813 := hM ▸ mod_bd _ _ (by decide)
          refine ⟨_, rfl, _, rfl, _, _, rfl, rfl, .inl (by constructor <;> omega), _, rfl, _, _, rfl, rfl, .inl ⟨by decide, by decide⟩, _, _, rfl, rfl, _, rfl, _, _, rfl, rfl, .inl ⟨by decide, by decide⟩, _, _, rfl, rfl, .inl ⟨_, rfl, _, _, rfl, rfl, (by show (0 : Int) < 4294966787; decide), ?_⟩⟩
          generalize hM2 : (M * M + 40961 * M + 17 * k) % 4294966787 = M2
          have hMb2 : 0 ≤ M2 ∧ M2 < 4294966787 := hM2 ▸ mod_bd _ _ (by decide)
          refine ⟨_, rfl, _, rfl, _, _, rfl, rfl, _, _, rfl, rfl, .inl (by constructor <;> omega), .inl ⟨_, rfl, _, _, rfl, rfl, (by show (0 : Int) < 4294966661; decide), _, _, rfl, rfl, ⟨by decide, by decide⟩, .inl ⟨_, rfl, _, rfl, _, _, rfl, rfl, hm, ?_⟩⟩⟩
          exact fin _ l (mod_bd _ m hm).1 (mod_bd _ m hm).2 hl _ rfl
theorem scPick : FnScope ["_law_pen_here", "_law_items"] ["_law_pen_here", "_law_items"] (defScope sPick) := ⟨rfl, rfl, rfl, by decide +kernel, rfl, by decide +kernel, by decide +kernel⟩
theorem ok_pick {f : Addr} {fd : FuncData} (F : Fun K "_law_pick" "_law_pick" sPick f fd) (B : Bl mg) (D : Cl P w K mg base 1 "_law_draw" ["_law_pen_here", "_law_many"] spDraw) : FnOk P w K mg base CX0 2 f fd ["_law_pen_here", "_law_items"] (spPick K) := by
  refine F.ok scPick (fun vs H Q E h => ?_) (fun cdv A outer s H vs Q E hr h => ?_)
  · obtain ⟨p, a, xs, n, rfl, _⟩ := h
    rfl
  · obtain ⟨p, a, xs, n, rfl, hS, h0, h1, hP, hn, q⟩ := h
    refine ⟨_, pss_one (ps_ret (pe_ix ix_list (pv 1) (pe_cl D hr (by decide) (by rfl) (pa_cons (pv 0) (pa_cons (pe_callB call_len_seq (by rfl) B.len PySem.boot_len (pa_cons (pv 1) pa_nil)) pa_nil))) (fun _ _ => rfl))), ?_⟩
    refine ⟨_, rfl, _, rfl, _, rfl, a, xs, rfl, .inl hS, p, xs.length, n, rfl, by omega, ?_, hP, hn, fun r H' hr0 hr1 hP' hF => ?_⟩
    · have : xs.length < 2 ^ 200 := Nat.lt_of_le_of_lt h1 (by decide)
      simpa using this
    · have hj : r.toNat < xs.length := by omega
      refine ⟨a, xs, r, xs[r.toNat], rfl, rfl, hF.seq hP hS, ?_, q _ _ (List.getElem_mem hj) hP' hF⟩
      have := atI_nat (xs := xs) (j := r.toNat) (v := xs[r.toNat]) (List.getElem?_eq_getElem hj)
      rw [Int.toNat_of_nonneg hr0] at this
      exact this
theorem scPen : FnScope ["_law_script"] ["_law_script"] (defScope sPen) := ⟨rfl, rfl, rfl, by decide +kernel, rfl, by decide +kernel, by decide +kernel⟩
theorem cut63 (ns : List Int) : cutV (ns.map V.int) none (some 63) = (ns.take 63).map V.int := by
  unfold cutV
  rw [HT.sIx_none, show HT.sIx (ns.map V.int).length (ns.map V.int).length (some 63) = min 63 (ns.map V.int).length from HT.sIx_nat _ _ 63, List.drop_zero, Nat.sub_zero, List.map_take]
  rcases Nat.le_total 63 (ns.map V.int).length with h | h
  · rw [Nat.min_eq_left h]
  · rw [Nat.min_eq_right h, List.take_of_length_le (Nat.le_refl _), List.take_of_length_le h]
theorem ok_pen {f : Addr} {fd : FuncData} (F : Fun K "_law_pen" "_law_pen" sPen f fd) (B : Bl mg) : FnOk P w K mg base CX0 1 f fd ["_law_script"] (spPen K) := by
  refine F.ok scPen (fun vs H Q E h => ?_) (fun cdv A outer s H vs Q E hr h => ?_)
  · obtain ⟨a, ns, rfl, _⟩ := h
    rfl
  · obtain ⟨a, ns, rfl, hS, hlen, q⟩ := h
    refine ⟨_, pss_one (ps_ret (pe_disp (pps_cons pe_str (pe_callTy call_list_of (by rfl) B.list (by decide +kernel) (pa_cons (pe_slice sl_list (pv 0) po_none (po_some pe_int)) pa_nil)) (pps_cons pe_str pe_int (pps_cons pe_str pe_int pps_nil))) rfl rfl (by simp) (by decide))), ?_⟩
    intro p hp
    have s1 : Same H (upd H p (.dK [])) := fun b o e => by rw [upd_ne (ne_of_none e hp)]; exact e
    refine ⟨_, rfl, _, rfl, a, _, rfl, s1.seq hS, fun x hx => ?_⟩
    refine ⟨x, _, rfl, .inl (.inl (.inl upd_same)), fun c hc => ?_⟩
    have npx : p ≠ x := ne_of_none upd_same hx
    have npc : p ≠ c := by
      intro e
      subst e
      rw [upd_ne npx, upd_same] at hc
      cases hc
    have a1 : putK ([] : List (Key × V)) (.inr ("cells" : Str)) (.ref c) = [(.inr ("cells" : Str), .ref c)] := putK_new _ valV_nil
    have a2 : putK ([(.inr ("cells" : Str), .ref c)] : List (Key × V)) (.inr ("begun" : Str)) (.int 0) = [(.inr ("cells" : Str), .ref c), (.inr ("begun" : Str), .int 0)] := putK_new _ ((valV_neg (fun e => kBC e.symm)).trans valV_nil)
    have a3 : putK ([(.inr ("cells" : Str), .ref c), (.inr ("begun" : Str), .int 0)] : List (Key × V)) (.inr ("left" : Str)) (.int 0) = penK c 0 0 := putK_new _ ((valV_neg (fun e => kLC e.symm)).trans ((valV_neg (fun e => kLB e.symm)).trans valV_nil))
    have e3 : mergeK [] (penK c 0 0) = penK c 0 0 := by
      show putK (putK (putK ([] : List (Key × V)) (.inr ("cells" : Str)) (.ref c)) (.inr ("begun" : Str)) (.int 0)) (.inr ("left" : Str)) (.int 0) = penK c 0 0
      rw [a1, a2, a3]
    refine ⟨by rw [upd_ne npc, upd_ne npx, upd_same], penK c 0 0, rfl, by show 3 ≤ 15; decide, ?_⟩
    rw [e3]
    refine q p _ hp ⟨c, ns.take 63, 0, 0, upd_same, ?_, by rw [List.length_take]; omega, by omega, by omega, by omega⟩ fun b o e => ?_
    · rw [upd_ne npc.symm, upd_same, cut63]
    · have h1 := s1 b o e
      have nbx : b ≠ x := ne_of_none h1 hx
      have h2 : (upd (upd H p (.dK [])) x (.lst (cutV (ns.map V.int) none (some 63)))) b = some o := by rw [upd_ne nbx]; exact h1
      rw [upd_ne (ne_of_none e hp), upd_ne (ne_of_none h2 hc)]
      exact h2
end
end OR

namespace OR
open PySem PySem.Spec PyProof.Rows L2
section
variable {P : Program} {w : World} {K : PySem.W.Frag} {mg : Str → Option Value} {base : Heap}
theorem scWhole : FnScope ["_law_pen_here", "_law_size"] ["_law_pen_here"] (defScope sWhole) := ⟨rfl, rfl, rfl, by decide +kernel, rfl, by decide +kernel, by decide +kernel⟩
theorem ok_whole {f : Addr} {fd : FuncData} (F : Fun K "_law_whole" "_law_whole" sWhole f fd) (D : Cl P w K mg base 1 "_law_draw" ["_law_pen_here", "_law_many"] spDraw) (C : Cl P w K mg base 2 "_law_pick" ["_law_pen_here", "_law_items"] (spPick K)) :
    FnOk P w K mg base CX0 3 f fd ["_law_pen_here"] spWhole := by
  refine F.ok scWhole (fun vs H Q E h => ?_) (fun cdv A outer s H vs Q E hr h => ?_)
  · obtain ⟨p, n, rfl, _⟩ := h
    rfl
  · obtain ⟨p, n, rfl, hP, hn, q⟩ := h
    refine ⟨_, pss_cons (ps_set (i := 1) scWhole.nd rfl (.inl rfl) (pe_cl C hr (by decide) (by rfl) (pa_cons (pv 0) (pa_cons (pe_lst (pa_cons pe_int (pa_cons pe_int (pa_cons pe_int (pa_cons (pe_op op_pow pe_int pe_int) (pa_cons (pe_op op_pow pe_int pe_int) pa_nil)))))) pa_nil))))
      (pss_one (ps_ret (pe_op op_mul (pe_cl D hr (by decide) (by rfl) (pa_cons (pv 0) (pa_cons (pv 1) pa_nil))) (pe_cl C hr (by decide) (by rfl) (pa_cons (pv 0) (pa_cons (pe_lst (pa_cons pe_int (pa_cons pe_int (pa_cons (pe_un un_neg pe_int) pa_nil)))) pa_nil)))))), ?_⟩
    refine ⟨_, rfl, _, _, rfl, rfl, ⟨by decide, by decide, by decide⟩, _, _, rfl, rfl, ⟨by decide, by decide, by decide⟩, by show 5 ≤ sizeLine; decide, fun a ha => ?_⟩
    have P1 := hP.new (o := .lst [.int 3, .int 10, .int 100, .int (10 ^ (6 : Int).toNat), .int (10 ^ (30 : Int).toNat)]) ha
    refine ⟨p, a, _, n, rfl, .inl (.inl upd_same), by show 0 < 5; decide, by show 5 ≤ 1000; decide, P1, by omega, fun v H2 hv P2 F2 => ?_⟩
    obtain ⟨m, rfl, hm0, hm1⟩ : ∃ m : Int, v = .int m ∧ 0 < m ∧ m ≤ 10 ^ 30 := by
      simp only [List.mem_cons, List.not_mem_nil, or_false] at hv
      rcases hv with e | e | e | e | e <;> subst e <;> exact ⟨_, rfl, by decide, by decide⟩
    have hmb : m.natAbs < 2 ^ 200 := by
      have : m.natAbs ≤ 10 ^ 30 := by omega
      exact Nat.lt_of_le_of_lt this (by decide)
    refine ⟨_, rfl, _, rfl, p, m, n + 1, rfl, hm0, hmb, P2, by omega, fun r H3 hr0 hr1 P3 F3 => ?_⟩
    refine ⟨_, rfl, _, rfl, by show 3 ≤ sizeLine; decide, fun b hb => ?_⟩
    refine ⟨p, b, _, n + 2, rfl, .inl (.inl upd_same), by show 0 < 3; decide, by show 3 ≤ 1000; decide, P3.new hb, by omega, fun v H4 hv P4 F4 => ?_⟩
    obtain ⟨s, rfl, hs⟩ : ∃ s : Int, v = .int s ∧ (s = 1 ∨ s = -1) := by
      simp only [List.mem_cons, List.not_mem_nil, or_false] at hv
      rcases hv with e | e | e <;> subst e
      · exact ⟨_, rfl, .inl rfl⟩
      · exact ⟨_, rfl, .inl rfl⟩
      · exact ⟨_, rfl, .inr rfl⟩
    refine ⟨r, s, rfl, rfl, .inr (by constructor <;> omega), q _ _ ?_ ?_ P4 ((((Frm.new ha).trans F2).trans F3).trans ((Frm.new hb).trans F4))⟩
    · rcases hs with rfl | rfl <;> omega
    · rcases hs with rfl | rfl <;> omega
end
end OR

namespace OR
open PySem PySem.Spec PyProof.Rows L2
/-! ### own classes: double-underscore methods behind the signs -/
/-- a method of the class at C, called with its object and arguments by position -/
structure Md (P : Program) (w : World) (K : PySem.W.Frag) (mg : Str → Option Value) (base : Heap) (k : Nat) (C : Addr) (m : Str) (sp : Sp) : Prop where
  ex : ∃ f, FnR P w K mg base CX0 k f sp ∧ PySem.W.findIn K (.ref C) m = some (some (.ref f)) ∧ PySem.W.isFn K (.ref f) = true ∧ PySem.W.fnIn K f = true
theorem fnR_of {P : Program} {w : World} {K : PySem.W.Frag} {mg : Str → Option Value} {base : Heap} {k : Nat} {f : Addr} {fd : FuncData} {ps : List Str} {sp : Sp} (F : FnOk P w K mg base CX0 k f fd ps sp) (hb : Binds K fd ps []) : FnR P w K mg base CX0 k f sp :=
  (F.raw hb .nil).imp fun vs H Q E h => by rw [List.append_nil]; exact h
section
variable {X : Cx} {n : Nat} {C : Addr} {sp : Sp}
def rBinS (C : Addr) (sp : Sp) : R2 := fun x y H Q => ∃ a b dx dy fs gs, x = .ref a ∧ y = .ref b ∧ H a = some (.ins C dx fs) ∧ H b = some (.ins C dy gs) ∧ sp [x, y] H Q E0
theorem op_binS {op : Operator} (m : Md X.prog X.w X.K X.mg X.base n C (PySem.dunder op.info.2) sp) (sf : PySem.W.selfFirst X.K C = true) (hr : Room n X.A) : OpR X (binaryOp op) (rBinS C sp) := by
  intro pins s σ H x y v u Q I rx ry h
  obtain ⟨f, F, hs, hf, _⟩ := m.ex
  obtain ⟨a, b, dx, dy, fs, gs, rfl, rfl, ha, hb, q⟩ := h
  cases (show v = Value.ref a from rx)
  cases (show u = Value.ref b from ry)
  obtain ⟨mA, J, _⟩ := ins_get I.hok ha
  obtain ⟨mB, J', _⟩ := ins_get I.hok hb
  obtain ⟨od, J, _⟩ := J.look
  obtain ⟨od', J', _⟩ := J'.look
  obtain ⟨m, hF⟩ := I.fr
  refine PySem.W.binop_K hF I.ok.mod.kin J J'.type sf hs hf ?_
  refine wpAny_mono (wpAny_call (run_fnR (us := [.ref a, .ref b]) (vs := [.ref a, .ref b]) F hr pass0 I (.cons rfl (.cons rfl .nil)) q)) (fun w s' z => ?_) fun _ _ x => x
  obtain ⟨z', H', I', rz, qz⟩ := z
  exact SlX.cmpback rz ⟨z', H', I', rz, qz⟩
/-- what + and the like ask of the class for an int on the right -/
structure BinI (K : PySem.W.Frag) (C : Addr) (op : Operator) : Prop where
  rc : ∃ rc, PySem.W.findIn K (.ref C) (PySem.dunderR op.info.2) = some rc ∧ (rc = none ∨ ∃ g : Addr, rc = some (.ref g))
  fo : ∃ fo, PySem.W.findIn K (.type "int") (PySem.dunder op.info.2) = some fo
  ro : ∃ ro, PySem.W.findIn K (.type "int") (PySem.dunderR op.info.2) = some ro
  sub : PySem.W.subIn K (.type "int") (.ref C) = some false
def rBinI (C : Addr) (sp : Sp) : R2 := fun x y H Q => ∃ a dx fs i, x = .ref a ∧ y = .int i ∧ H a = some (.ins C dx fs) ∧ sp [x, y] H Q E0
theorem op_binI {op : Operator} (m : Md X.prog X.w X.K X.mg X.base n C (PySem.dunder op.info.2) sp) (b : BinI X.K C op) (sf : PySem.W.selfFirst X.K C = true) (hr : Room n X.A) : OpR X (binaryOp op) (rBinI C sp) := by
  intro pins s σ H x y v u Q I rx ry h
  obtain ⟨f, F, hs, hf, _⟩ := m.ex
  obtain ⟨a, dx, fs, i, rfl, rfl, ha, q⟩ := h
  cases (show v = Value.ref a from rx)
  obtain ⟨t, rfl⟩ := (show ∃ t, u = Value.int i t from ry)
  obtain ⟨mA, J, _⟩ := ins_get I.hok ha
  obtain ⟨od, J, _⟩ := J.look
  obtain ⟨m, hF⟩ := I.fr
  obtain ⟨rc, hrc, hp⟩ := b.rc
  obtain ⟨fo, h1⟩ := b.fo
  obtain ⟨ro, h2⟩ := b.ro
  refine PySem.W.ksp_binT (T := "int") hF I.ok.mod.kin J rfl sf hs hf hrc hp h1 h2 b.sub ?_
  refine wpAny_mono (wpAny_call (run_fnR (us := [.ref a, .int i t]) (vs := [.ref a, .int i]) F hr pass0 I (.cons rfl (.cons ⟨t, rfl⟩ .nil)) q)) (fun w s' z => ?_) fun _ _ x => x
  obtain ⟨z', H', I', rz, qz⟩ := z
  exact SlX.cmpback rz ⟨z', H', I', rz, qz⟩
def rNegO (C : Addr) (sp : Sp) : V → Hp → VK → Prop := fun x H Q => ∃ a dx fs, x = .ref a ∧ H a = some (.ins C dx fs) ∧ sp [x] H Q E0
theorem un_negO (m : Md X.prog X.w X.K X.mg X.base n C "__neg__" sp) (hr : Room n X.A) : UnR X (unaryOp .USub) (rNegO C sp) := by
  intro pins s σ H x v Q I rx h
  obtain ⟨f, F, hs, hf, _⟩ := m.ex
  obtain ⟨a, dx, fs, rfl, ha, q⟩ := h
  cases (show v = Value.ref a from rx)
  obtain ⟨mA, J, _⟩ := ins_get I.hok ha
  obtain ⟨od, J, _⟩ := J.look
  obtain ⟨m, hF⟩ := I.fr
  refine PySem.W.ksp_neg hF I.ok.mod.kin J hs hf ?_
  refine wpAny_mono (wpAny_call (run_fnR (us := [.ref a]) (vs := [.ref a]) F hr pass0 I (.cons rfl .nil) q)) (fun w s' z => ?_) fun _ _ x => x
  exact z
end
/-- a reading may ask for more -/
theorem pe_imp {X : Cx} {e : Expr} {t t' : TE} (h : PE X e t) (i : ∀ σ H Q, t' σ H Q → t σ H Q) : PE X e t' := ⟨fun pins s σ H Q I q => h.run pins s σ H Q I (i σ H Q q)⟩
structure FnAt (K : PySem.W.Frag) (x : Str) (st : Stmt) : Prop where
  ex : ∃ f fd, Fun K x x st f fd ∧ PySem.W.nsIn K mainGlobals x = some (some (.ref f))
theorem fnAt {K : PySem.W.Frag} {h : Heap} {x : Str} {st : Stmt} {f : Addr} {oc : Value} {od an : Option Addr} {osl : Array (Option Value)} {kV doc pm cdv ct : Value} (_X : K.In h)
    (a : PySem.W.nsIn K mainGlobals x = some (some (.ref f))) (l : K.lookup f = some ⟨oc, od, .func (PySem.W.fnOf x x (defArgs st) (defBody st) (defScope st) .none kV doc pm an cdv ct), osl⟩)
    (c : PySem.W.codeIn K cdv x = true) (k : PySem.W.keepIn K (.ref f) = true) : FnAt K x st := ⟨f, _, fun_mk l c k, a⟩
structure MtAt (K : PySem.W.Frag) (C : Addr) (m m' qual : Str) (st : Stmt) : Prop where
  ex : ∃ f fd, Fun K m qual st f fd ∧ PySem.W.findIn K (.ref C) m' = some (some (.ref f)) ∧ PySem.W.isFn K (.ref f) = true ∧ PySem.W.fnIn K f = true
theorem mtAt {K : PySem.W.Frag} {h : Heap} {C : Addr} {m m' qual : Str} {st : Stmt} {f : Addr} {oc : Value} {od an : Option Addr} {osl : Array (Option Value)} {kV doc pm cdv ct : Value} (_X : K.In h)
    (a : PySem.W.findIn K (.ref C) m' = some (some (.ref f))) (l : K.lookup f = some ⟨oc, od, .func (PySem.W.fnOf m qual (defArgs st) (defBody st) (defScope st) .none kV doc pm an cdv ct), osl⟩)
    (c : PySem.W.codeIn K cdv qual = true) (k : PySem.W.keepIn K (.ref f) = true) (i : PySem.W.isFn K (.ref f) = true) (n : PySem.W.fnIn K f = true) : MtAt K C m m' qual st := ⟨f, _, fun_mk l c k, a, i, n⟩
section
variable {P : Program} {w : World} {K : PySem.W.Frag} {mg : Str → Option Value} {base h : Heap}
theorem cl_of {x : Str} {st : Stmt} {k : Nat} {ps : List Str} {sp : Sp} (a : FnAt K x st) (X : K.In h) (G : h.Ns mainGlobals mg)
    (hb : ∀ (kV doc pm : Value) (an : Option Addr) (cdv ct : Value) (us : List Value), us.length = ps.length → bindArgs (PySem.W.fnOf x x (defArgs st) (defBody st) (defScope st) .none kV doc pm an cdv ct) ⟨us, []⟩ = pure (ps.zip us))
    (ok : ∀ f fd, Fun K x x st f fd → FnOk P w K mg base CX0 k f fd ps sp) : Cl P w K mg base k x ps sp := by
  obtain ⟨f, fd, F, e⟩ := a.ex
  exact ⟨f, fd, ok f fd F, PySem.W.mg_of X G e, F.kp, F.binds hb⟩
theorem md_of {C : Addr} {m m' qual : Str} {st : Stmt} {k : Nat} {ps : List Str} {sp : Sp} (a : MtAt K C m m' qual st)
    (hb : ∀ (kV doc pm : Value) (an : Option Addr) (cdv ct : Value) (us : List Value), us.length = ps.length → bindArgs (PySem.W.fnOf m qual (defArgs st) (defBody st) (defScope st) .none kV doc pm an cdv ct) ⟨us, []⟩ = pure (ps.zip us))
    (ok : ∀ f fd, Fun K m qual st f fd → FnOk P w K mg base CX0 k f fd ps sp) : Md P w K mg base k C m' sp := by
  obtain ⟨f, fd, F, e, i, n⟩ := a.ex
  exact ⟨f, fnR_of (ok f fd F) (F.binds hb), e, i, n⟩
end
end OR

namespace OR
open PySem PySem.Spec PyProof.Rows L2
/-! ### own exceptions held as values -/
/-- an exception object of the class cls at a, its dict at d -/
def ExD (cls : Value) (d : Option Addr) (a : Addr) : HO := .ext fun h => ∃ (oe : Obj) (vs : Array Value), h.get? a = some oe ∧ Zc cls d oe ∧ oe.data = .fields vs
theorem exD_ok {P : Program} {w : World} {H : Hp} {h : Heap} {a : Addr} {cls : Value} {d : Option Addr} {oe : Obj} {vs : Array Value} (e : h.get? a = some oe) (z : Zc cls d oe) (hd : oe.data = .fields vs) : ObjOk P w H h a (ExD cls d a) :=
  ⟨⟨oe, vs, e, z, hd⟩, ⟨oe, e⟩, fun _ _ ⟨o, v, q, r⟩ k => ⟨o, v, k o q, r⟩⟩
theorem exD_at {P : Program} {w : World} {H : Hp} {h : Heap} {a : Addr} {cls : Value} {d : Option Addr} (hok : HOk P w H h) (e : H a = some (ExD cls d a)) : ∃ (oe : Obj) (vs : Array Value), h.get? a = some oe ∧ Zc cls d oe ∧ oe.data = .fields vs := by
  obtain ⟨h1, _, _⟩ := hok a _ e
  exact h1
/-- what makes an exception gives it as a value -/
def tOfMk (t : L2.St → Hp → XK → Prop) : TE := fun σ H Q => t σ H fun cls d H' => ∀ a, H' a = none → Q (.ref a) (upd H' a (ExD cls d a))
theorem pe_of_mk {X : Cx} {e : Expr} {t : L2.St → Hp → XK → Prop} (h : PMk X e t) : PE X e (tOfMk t) := by
  refine ⟨fun pins s σ H Q I q => ?_⟩
  refine wpAny_mono (h pins s σ H _ I q) (fun u s1 hu => ?_) fun _ _ x => x
  obtain ⟨a, oe, vs, sI, H', cls, d, rfl, J, k, g0, g1, z, hd, h1, na, hos, bare, r, q⟩ := hu
  obtain ⟨hp, g, dr, tk, os⟩ := s1
  refine ⟨.ref a, upd H' a (ExD cls d a), ?_, rfl, q a na⟩
  exact J.call' (ch := []) hos (Un.laidN k g0 na) (J.hok.laidN k na (exD_ok g1 z hd)) bare (fun b z => absurd z (by simp))
/-- a field of such a value -/
def tExF (K : PySem.W.Frag) (n : Str) (te : TE) : TE := fun σ H Q => te σ H fun x H1 => ∃ (a C dd : Addr) (fs : List (Str × V)) (v : V), x = .ref a ∧ H1 a = some (ExD (.ref C) (some dd) a) ∧ H1 dd = some (.xd fs) ∧ XfC K C ∧ PySem.W.findIn K (.ref C) n = some none ∧ fs.lookup n = some v ∧ Q v H1
theorem pe_exf {X : Cx} {e : Expr} {te : TE} {pos : Pos} {n : Str} (he : PE X e te) (hb : attributeBase e n X.env (eval e X.env) = eval e X.env := by rfl) : PE X (.Attribute e n pos) (tExF X.K n te) := by
  refine ⟨fun pins s σ H Q I h => ?_⟩
  refine attr_of hb (thn (he.run pins s σ H _ I h) fun u s1 hh => ?_)
  obtain ⟨x, H1, I1, rx, a, C, dd, fs, v, ex, ha, hdd, T, hno, l, q⟩ := hh
  subst ex
  obtain rfl : u = Value.ref a := rx
  obtain ⟨oe, vs, ho1, hz, hd⟩ := exD_at I1.hok ha
  obtain ⟨mA, hns, hr⟩ := (I1.hok dd _ hdd : ObjOk X.prog X.w H1 s1.heap dd (.xd fs))
  obtain ⟨od, ho, hl⟩ := lookIn_ns hns
  obtain ⟨u, hu, ru⟩ := RelO.some_of (v := v) (o := mA n) (by rw [← l]; exact hr n)
  have J : PySem.W.InstAt s1.heap a oe C (some od) := ⟨ho1, hz.1, by unfold PySem.W.notCls; rw [hd] <;> rfl, by rw [hz.2]; exact ho⟩
  exact HandSPX.exc_get I1.kIn J T.ga T.gg T.exC (PySem.W.findObj_own T.hdC hno rfl (by rw [hl, hu])) (handed_of ru) ⟨v, H1, I1.tok _, ru, q⟩
/-- isinstance of such a value, for one class -/
def rIsV (K : PySem.W.Frag) : List V → Hp → VK → Prop := fun xs H Q => ∃ (a C : Addr) (d : Option Addr) (c : V) (cv : Value) (b : Bool), xs = [.ref a, c] ∧ H a = some (ExD (.ref C) d a) ∧ (∀ dd, d = some dd → ∃ fs, H dd = some (.xd fs)) ∧ ExcC K C ∧ (∀ u, RelV c u → u = cv) ∧ PySem.W.kitOne K (.ref C) cv = some b ∧ Q (.bl b) H
theorem call_isV {X : Cx} : CallR X (.builtin "isinstance") (rIsV X.K) := by
  intro pins s σ H xs us Q I r h
  obtain ⟨a, C, d, c, cv, b, rfl, ha, hdd, G, hcv, hk, q⟩ := h
  obtain ⟨u1, u2, rfl, r1, r2⟩ := r.two
  cases r1
  have e2 := hcv _ r2
  subst e2
  obtain ⟨oe, vs, ho1, hz, hdat⟩ := exD_at I.hok ha
  have hcl : (PySem.W.clsIn X.K C).isSome = true := by
    obtain ⟨cd, hc, _⟩ := PySem.W.any_some G.hd
    rw [hc]
    rfl
  cases d with
  | none =>
    have J : PySem.W.InstAt s.heap a oe C none := ⟨ho1, hz.1, by unfold PySem.W.notCls; rw [hdat] <;> rfl, by rw [hz.2]; trivial⟩
    exact PySem.W.kia_one (PySem.W.kitx_exc hcl G.hg G.hk G.hs G.ha G.hn G.ht G.hm) I.kIn J hk (fun z => nomatch z) fun tk => ⟨.bl b, H, I.kept (t' := tk) fun _ _ z => z, rfl, q⟩
  | some dd =>
    obtain ⟨fs, hfs⟩ := hdd dd rfl
    obtain ⟨mA, hns, _⟩ := I.hok dd _ hfs
    obtain ⟨od, ho, _⟩ := lookIn_ns hns
    have J : PySem.W.InstAt s.heap a oe C (some od) := ⟨ho1, hz.1, by unfold PySem.W.notCls; rw [hdat] <;> rfl, by rw [hz.2]; exact ho⟩
    exact PySem.W.kia_one (PySem.W.kitx_exc hcl G.hg G.hk G.hs G.ha G.hn G.ht G.hm) I.kIn J hk (fun z => nomatch z) fun tk => ⟨.bl b, H, I.kept (t' := tk) fun _ _ z => z, rfl, q⟩
end OR

set_option maxHeartbeats 2000000
namespace OR
open PySem PySem.Spec PyProof.Rows PySem.HandSPX
/-! ### an own exception made by names alone -/
section
variable {prog : Program} {w : World} {A : Around} {E : Value → Shared → Prop} {R : Result → Shared → Prop} {h : Heap} {g : Array GenState} {d : Drawn} {t : Nat} {os : OsState}
variable {nm q : Str} {C N : Addr} {bs bm bmB : List Value} {hdct : Bool} {sn : List Str} {sub : List Value} {ab : Bool} {col : Option Bool} {dd : Option Addr} {k0 k1 k2 k3 k5 : Option Value} {B newId initId : String}
theorem check_newK (F : ExcBaseFacts B newId initId bmB) (hT : ∀ X : String, bm.contains (.type X) = bmB.contains (.type X)) {kws : List (Str × Value)} {Q : Unit → Shared → Prop} (hC : h.get? C = some (excClassObj nm q C N bs bm hdct sn sub ab col dd k0 k1 k2 k3 k5 newId))
    (hq : Q () ⟨h, g, d, t, os⟩) : wpAny (model prog w) A (checkBuiltinCall newId ⟨[.ref C], kws⟩) Q E ⟨h, g, d, t, os⟩ := by
  have hcont : (Value.ref C :: bm).contains (.type B) = true := by rw [List.contains_cons, hT, F.hasB, Bool.or_true]
  have hstar := F.noStar
  simp only [checkBuiltinCall, F.newKind, F.newSplit, F.newRow]
  repeat (first | refine wpAny_loadPart_at hC ?_ | (refine wpAny_isSubtype_exc hC ?_; rw [hcont]) | refine wpAny_staticBase_exc hC ?_ | refine wpAny_madeBy_exc hC ?_ | simp only [bne_self_eq_false, Bool.false_eq_true, if_false] | wp_step)
  exact hq
theorem new_ownK (F : ExcBaseFacts B newId initId bmB) (hT : ∀ X : String, bm.contains (.type X) = bmB.contains (.type X)) {kws : List (Str × Value)}
    (hC : h.get? C = some (excClassObj nm q C N bs bm hdct sn sub ab col dd k0 k1 k2 k3 k5 newId))
    (hq : R (.ok (.ret (.ref (h.objs.size + 1)))) ⟨(h.push (PySem.W.kdv_tup [])).push (excO C h.objs.size), g, d, t, os⟩) :
    codeAny (model prog w) A (.builtin newId ⟨[.ref C], kws⟩) R ⟨h, g, d, t, os⟩ := by
  have hends := F.ends
  have hcB : (Value.ref C :: bm).contains (.type B) = true := by rw [List.contains_cons, hT, F.hasB, Bool.or_true]
  have hcA : (Value.ref C :: bm).contains (.type "AttributeError") = false := by rw [List.contains_cons, hT, F.noAttr]; rfl
  have hcN : (Value.ref C :: bm).contains (.type "NameError") = false := by rw [List.contains_cons, hT, F.noName]; rfl
  refine codeAny_builtinAt F.entry ?_
  unfold Builtin.«BaseException.__new__»
  refine PySem.wpAt_bind ?_
  show PySem.wpAt _ _ _ (stack >>= _) _ _ _
  refine PySem.wpAt_bind (PySem.wpAt_stack fun p below => PySem.wpAt_of_wpAny ?_)
  wp_walk
  refine PySem.wpAt_of_wpAny ?_
  rw [F.owner]
  repeat (first | with_reducible refine wpAny_madeHere_exc F.canon hC ?_ | with_reducible refine wpAny_loadPart_at hC ?_ | (with_reducible refine wpAny_isSubtype_exc hC ?_; first | rw [hcB] | rw [hcA] | rw [hcN]) | wp_step)
  show R _ _
  rw [Heap.size_push]
  exact hq
theorem type_callK (F : ExcBaseFacts B newId initId bmB) (hT : ∀ X : String, bm.contains (.type X) = bmB.contains (.type X)) {kws : List (Str × Value)} {fI : Addr} {Q : Fin → Shared → Prop}
    (hC : h.get? C = some (excClassObj nm q C N bs bm hdct sn sub ab col dd k0 k1 k2 k3 k5 newId))
    (hi : PySem.W.Looks (model prog w) h (typeLookup (.ref C) "__init__") (some (.ref fI))) (hb : ∀ self, PySem.W.Looks (model prog w) h (bindSpecial (.ref fI) self) (.ref fI, [self]))
    (hq : codeAny (model prog w) A (.call (.ref fI) ⟨[.ref (h.objs.size + 1)], kws⟩)
      (fun r s' => match r with | .ok (.ret v) => v = .none ∧ Q (.done (.ret (.ref (h.objs.size + 1)))) s' | .ok _ => False | .error e => E e s')
      ⟨(h.push (PySem.W.kdv_tup [])).push (excO C h.objs.size), g, d, t, os⟩) :
    wpAny (model prog w) A (Builtin.«type.__call__» ⟨[.ref C], kws⟩) Q E ⟨h, g, d, t, os⟩ := by
  repeat (first | with_reducible refine wpAny_loadPart_at hC ?_ | with_reducible refine wpAny_madeBy_exc hC ?_ | wp_step)
  refine codeAny_call_builtin_code (Code.quiet_builtin _ F.quiet) (check_newK F hT hC ?_)
  refine new_ownK F hT hC ?_
  show wpAny _ _ _ _ _ _
  have k : ∀ b o, h.get? b = some o → ((h.push (PySem.W.kdv_tup [])).push (excO C h.objs.size)).get? b = some o := fun b o e => Heap.get?_push_of_some _ (Heap.get?_push_of_some _ e)
  have hC₁ := k _ _ hC
  have hget : ((h.push (PySem.W.kdv_tup [])).push (excO C h.objs.size)).get? (h.objs.size + 1) = some (excO C h.objs.size) := by heap_get
  have hcC : (Value.ref C :: bm).contains (.ref C) = true := by simp
  have i1 := hi.keeps k
  have b1 := (hb (.ref (h.objs.size + 1))).keeps k
  unfold isInstance
  repeat (first | with_reducible refine wpAny_loadPart_at hget ?_ | (with_reducible refine wpAny_isSubtype_exc hC₁ ?_; rw [hcC]) | wp_step)
  show wpAny _ _ (typeLookup (.ref C) _) _ _ _
  refine i1.at ?_
  refine wpAny_holding (wpAny_bind (b1.at ?_))
  refine wpAny_bind (wpAny_call (codeAny_mono hq fun r s' z => ?_))
  rcases r with e | (v | _ | _ | _) <;> first | exact z | exact z.elim | skip
  obtain ⟨rfl, z⟩ := z
  first
    | exact wpAny_pure (wpAny_pure z)
    | (wp_walk; exact z)
theorem check_typecallK {M : Model} {kws : List (Str × Value)} {Q : Unit → Shared → Prop} (hC : h.get? C = some (excClassObj nm q C N bs bm hdct sn sub ab col dd k0 k1 k2 k3 k5 newId))
    (hq : Q () ⟨h, g, d, t, os⟩) : wpAny M A (checkBuiltinCall "type.__call__" ⟨[.ref C], kws⟩) Q E ⟨h, g, d, t, os⟩ := by
  have f3 := tc_sub
  have hT : (⟨h, g, d, t, os⟩ : Shared).TypeIs (.ref C) "type" := ⟨_, hC, rfl⟩
  simp only [checkBuiltinCall, tc_kind, tc_split]
  repeat (any_goals (first | assumption | with_reducible refine wpAny_loadPart_at hC ?_ | with_reducible refine wpAny_onRaise ?_ | with_reducible refine wpAny_map ?_ | wp_step))
theorem call_ownK (F : ExcBaseFacts B newId initId bmB) (hT : ∀ X : String, bm.contains (.type X) = bmB.contains (.type X)) {kws : List (Str × Value)} {fI : Addr}
    (hC : h.get? C = some (excClassObj nm q C N bs bm hdct sn sub ab col dd k0 k1 k2 k3 k5 newId))
    (hi : PySem.W.Looks (model prog w) h (typeLookup (.ref C) "__init__") (some (.ref fI))) (hb : ∀ self, PySem.W.Looks (model prog w) h (bindSpecial (.ref fI) self) (.ref fI, [self]))
    (hq : codeAny (model prog w) (A.under (.builtin "type.__call__" ⟨[.ref C], kws⟩)) (.call (.ref fI) ⟨[.ref (h.objs.size + 1)], kws⟩) (PySem.W.InitBack (h.objs.size + 1) R)
      ⟨(h.push (PySem.W.kdv_tup [])).push (excO C h.objs.size), g, d, t, os⟩) :
    codeAny (model prog w) A (.call (.ref C) ⟨[], kws⟩) R ⟨h, g, d, t, os⟩ := by
  have f1 := tc_lookup
  have f2 := tc_bind (.ref C)
  have hTy : (⟨h, g, d, t, os⟩ : Shared).TypeIs (.ref C) "type" := ⟨_, hC, rfl⟩
  refine codeAny_of_tree ?_
  show wpAny _ _ (callAny (.ref C) _) _ _ _
  repeat (any_goals (first | assumption | with_reducible refine wpAny_loadPart_at hC ?_ | wp_step))
  refine ⟨rfl, ?_⟩
  refine codeAny_call_builtin_at (Code.quiet_builtin _ (by decide +kernel)) entry_typeCall (check_typecallK hC (type_callK F hT hC hi hb ?_))
  refine codeAny_mono hq fun r s' z => ?_
  rcases r with e | (v | _ | _ | _) <;> exact z
end
end OR

namespace OR
open PySem PySem.Spec PyProof.Rows L2
section
variable {X : Cx} {p pos : Pos} {kws : List Keyword} {tk : TA}
theorem pmk_oexK {CX : CXT} {x : Str} {C fI : Addr} {k : Nat} {fd : FuncData} {ps ks : List Str} {sp : Sp} (T : OexC X.K C) (iC : PySem.W.findIn X.K (.ref C) "__init__" = some (some (.ref fI))) (tI : PySem.W.typeIn X.K (.ref fI) = some (.type "function"))
    (F1 : FnOk X.prog X.w X.K X.mg X.base CX k fI fd ps sp) (hr : Room (k + 1) X.A) (hb : ∀ (s : Shared) (self : Value) (us : List Value), X.K.In s.heap → us.length = ks.length → BindsTo s fd ⟨[self], ks.zip us⟩ (ps.zip (self :: us))) (hx : Passes CX X (fun _ _ _ => False)) (hg : Gl X x) (hm : X.mg x = some (.ref C)) (hkw : PK X kws tk) (hps : ps.length = ks.length + 1)
    (hall : (backToKw pos (keywordEach kws X.env)).all (·.1.isSome) = true := by rfl) (hks : (backToKw pos (keywordEach kws X.env)).filterMap (·.1) = ks := by rfl)
    (hdb : (x == ("__debug__" : Str)) = false := by decide) (hpl : ((backTo pos (starEach [] X.env)).any (·.1) || (backToKw pos (keywordEach kws X.env)).any (·.1.isNone)) = false := by rfl) :
    PMk X (.Call (.Name x p) [] kws pos) (tMkO C sp [] tk) := by
  intro pins s σ H Q I h
  obtain ⟨nm, q, N, bs, bm, sn, sub, ab, col, dd, k0, k1, k2, k3, k5, hC, hbm⟩ := T.cls
  refine wpAny_Call_Name_kw (ld_glob I hg hm ?_ hdb)
  refine PySem.W.callWith_KW0 (h₀ := X.base) I.ok.mod.kin T.kC hall (thn (hkw.run pos pins s σ H _ I h) fun us s1 ⟨vs, H1, I1, r1, hz, q1⟩ => ⟨I1.kIn, ?_⟩) hpl
  rw [hks]
  show wpAny _ _ (call (.ref C) [] (ks.zip us)) _ _ _
  obtain ⟨hp, g, dr, tk', os⟩ := s1
  have hn : H1 (hp.objs.size + 1) = none := I1.hok.fresh (Nat.le_succ _)
  have hq := q1 (hp.objs.size + 1) hn
  have kk : ∀ b o, hp.get? b = some o → ((hp.push (PySem.W.kdv_tup [])).push (PySem.HandSPX.excO C hp.objs.size)).get? b = some o := fun b o e => Heap.get?_push_of_some _ (Heap.get?_push_of_some _ e)
  have hget : ((hp.push (PySem.W.kdv_tup [])).push (PySem.HandSPX.excO C hp.objs.size)).get? (hp.objs.size + 1) = some (PySem.HandSPX.excO C hp.objs.size) := by heap_get
  have I2 : Inv X pins σ (upd H1 (hp.objs.size + 1) (exo (hp.objs.size + 1) C none)) ⟨(hp.push (PySem.W.kdv_tup [])).push (PySem.HandSPX.excO C hp.objs.size), g, dr, tk', os⟩ :=
    I1.laid (t' := tk') (a := hp.objs.size + 1) (o := exo (hp.objs.size + 1) C none) (h' := (hp.push (PySem.W.kdv_tup [])).push (PySem.HandSPX.excO C hp.objs.size)) kk (Nat.le_succ _) (exo_ok hget)
  have r2 : Vals (V.ref (hp.objs.size + 1) :: (vs ++ [])) (Value.ref (hp.objs.size + 1) :: us) := .cons rfl (by rw [List.append_nil]; exact r1)
  have hl : us.length = ks.length := by
    have e := r2.length
    rw [F1.len _ _ _ _ hq, hps] at e
    exact (Nat.succ.inj e).symm
  refine wpAny_call (call_ownK F.excBase_ValueError (fun Y => PySem.HandSPX.refsVE_contains Y bm hbm) (I1.kIn _ _ hC) (PySem.W.looks_findIn I1.kIn iC) (fun self => PySem.W.bind_fn I1.kIn self tI)
    (codeAny_mono (F1.run _ X.stack _ _ ⟨[Value.ref (hp.objs.size + 1)], ks.zip us⟩ (Value.ref (hp.objs.size + 1) :: us) _ _ (fun _ _ _ => False) (hr.make C [] (ks.zip us)) (I2.env0.make C [] (ks.zip us)) (hb _ _ us I2.kIn hl) r2 hq) fun r s' hq' => ?_))
  cases r with
  | error er => exact hx pins σ _ _ er s' I2 hq'
  | ok fl =>
    cases fl with
    | ret u =>
      obtain ⟨v, H2, os2, bare2, un2, hok2, rv, ev, d, fs, ea, ed, hd1, q2⟩ := hq'
      subst ev
      obtain ⟨h2, g2, d2, t2, os'⟩ := s'
      exact ⟨rv, mk_end (raises_own T.exC T.tyC) I1 (Nat.le_succ _) kk un2 hok2 os2 bare2 ea ed hd1 q2⟩
    | next => exact False.elim hq'
    | brk => exact False.elim hq'
    | cont => exact False.elim hq'
end
end OR

namespace OR
open PySem PySem.Spec PyProof.Rows L2
structure ErT (K : PySem.W.Frag) (mg : Str → Option Value) (x fl : Str) (CB CR fI : Addr) : Prop where
  gB : mg x = some (.ref CB)
  gR : mg "RangesError" = some (.ref CR)
  zV : mg "ValueError" = none
  ox : OexC K CB
  xf : XfC K CB
  xc : ExcC K CB
  noI : PySem.W.findIn K (.ref CB) fl = some none
  iC : PySem.W.findIn K (.ref CB) "__init__" = some (some (.ref fI))
  tI : PySem.W.typeIn K (.ref fI) = some (.type "function")
  self : PySem.W.exmOne K (.ref CB) (.ref CB) = some true
  kR : PySem.W.kitOne K (.ref CB) (.ref CR) = some true
  kV : PySem.W.kitOne K (.ref CB) (.type "ValueError") = some true
def spErI (CB : Addr) (fl : Str) : Sp := fun vs H Q _ => ∃ (a : Addr) (v : V), vs = [.ref a, v] ∧ H a = some (exo a CB none) ∧ ∀ dx, H dx = none → dx ≠ a → Q .non (upd (upd H dx (exd dx [(fl, v)])) a (exo a CB (some dx)))
/-- an error of the class at CB, with its field, is let out -/
def Raised (E : XK) (CB : Addr) (fl : Str) (v : V) (H : Hp) : Prop := ∀ (d : Addr) (H' : Hp), H d = none → H' d = some (.xd [(fl, v)]) → Same H H' → E (.ref CB) (some d) H'
theorem Raised.up {E : XK} {CB : Addr} {fl : Str} {v : V} {H H' : Hp} (h : Raised E CB fl v H) (s : Same H H') : Raised E CB fl v H' := fun d G nd hd s2 => h d G (s.free nd) hd (s.trans s2)
theorem raise_any {E : XK} {H : Hp} {CB : Addr} {fl : Str} {v : V} (q : Raised E CB fl v H) : [v].length ≤ 1000 ∧ ∀ a, H a = none → spErI CB fl (.ref a :: ([v] ++ [])) (upd H a (exo a CB none))
    (fun u H2 => u = .non ∧ ∃ (d : Addr) (fs : List (Str × V)), H2 a = some (exo a CB (some d)) ∧ H2 d = some (exd d fs) ∧ H d = none ∧ E (.ref CB) (some d) (upd (del H2 a) d (.xd fs))) (fun _ _ _ => False) := by
  refine ⟨by show 1 ≤ 1000; decide, fun a na => ⟨a, _, rfl, upd_same, fun d nd1 ne1 => ?_⟩⟩
  rw [upd_ne ne1] at nd1
  refine ⟨rfl, d, [(fl, v)], upd_same, by rw [upd_ne ne1]; exact upd_same, nd1, q d _ nd1 upd_same fun c o e => ?_⟩
  have nca : c ≠ a := ne_of_none e na
  have ncd : c ≠ d := ne_of_none e nd1
  rw [upd_ne ncd, del_ne nca, upd_ne nca, upd_ne ncd, upd_ne nca]
  exact e
structure ErT2 (K : PySem.W.Frag) (mg : Str → Option Value) (x f1 f2 : Str) (CB CR fI : Addr) : Prop where
  gB : mg x = some (.ref CB)
  gR : mg "RangesError" = some (.ref CR)
  zV : mg "ValueError" = none
  ox : OexC K CB
  xf : XfC K CB
  xc : ExcC K CB
  no1 : PySem.W.findIn K (.ref CB) f1 = some none
  no2 : PySem.W.findIn K (.ref CB) f2 = some none
  iC : PySem.W.findIn K (.ref CB) "__init__" = some (some (.ref fI))
  tI : PySem.W.typeIn K (.ref fI) = some (.type "function")
  self : PySem.W.exmOne K (.ref CB) (.ref CB) = some true
  kR : PySem.W.kitOne K (.ref CB) (.ref CR) = some true
  kV : PySem.W.kitOne K (.ref CB) (.type "ValueError") = some true
def spErI2 (CB : Addr) (f1 f2 : Str) : Sp := fun vs H Q _ => ∃ (a : Addr) (v u : V), vs = [.ref a, v, u] ∧ H a = some (exo a CB none) ∧ ∀ dx, H dx = none → dx ≠ a → Q .non (upd (upd (upd H dx (exd dx [(f1, v)])) a (exo a CB (some dx))) dx (exd dx [(f2, u), (f1, v)]))
def Raised2 (E : XK) (CB : Addr) (f1 f2 : Str) (v u : V) (H : Hp) : Prop := ∀ (d : Addr) (H' : Hp), H d = none → H' d = some (.xd [(f2, u), (f1, v)]) → Same H H' → E (.ref CB) (some d) H'
theorem Raised2.up {E : XK} {CB : Addr} {f1 f2 : Str} {v u : V} {H H' : Hp} (h : Raised2 E CB f1 f2 v u H) (s : Same H H') : Raised2 E CB f1 f2 v u H' := fun d G nd hd s2 => h d G (s.free nd) hd (s.trans s2)
theorem raise_any2 {E : XK} {H : Hp} {CB : Addr} {f1 f2 : Str} {v u : V} (q : Raised2 E CB f1 f2 v u H) : [v, u].length ≤ 1000 ∧ ∀ a, H a = none → spErI2 CB f1 f2 (.ref a :: ([v, u] ++ [])) (upd H a (exo a CB none))
    (fun r H2 => r = .non ∧ ∃ (d : Addr) (fs : List (Str × V)), H2 a = some (exo a CB (some d)) ∧ H2 d = some (exd d fs) ∧ H d = none ∧ E (.ref CB) (some d) (upd (del H2 a) d (.xd fs))) (fun _ _ _ => False) := by
  refine ⟨by show 2 ≤ 1000; decide, fun a na => ⟨a, _, _, rfl, upd_same, fun d nd1 ne1 => ?_⟩⟩
  rw [upd_ne ne1] at nd1
  refine ⟨rfl, d, [(f2, u), (f1, v)], by rw [upd_ne ne1.symm]; exact upd_same, upd_same, nd1, q d _ nd1 upd_same fun c o e => ?_⟩
  have nca : c ≠ a := ne_of_none e na
  have ncd : c ≠ d := ne_of_none e nd1
  rw [upd_ne ncd, del_ne nca, upd_ne ncd, upd_ne nca, upd_ne ncd, upd_ne nca]
  exact e
/-- a class of errors with one field, with two: its __init__, by places and by names -/
structure EvK (P : Program) (w : World) (K : PySem.W.Frag) (mg : Str → Option Value) (base : Heap) (x fl : Str) (CB CR : Addr) : Prop where
  ex : ∃ (fI : Addr) (fd : FuncData), ErT K mg x fl CB CR fI ∧ FnOk P w K mg base CX0 1 fI fd ["self", fl] (spErI CB fl) ∧ Binds K fd ["self", fl] [] ∧ ∀ (s : Shared) (self : Value) (us : List Value), K.In s.heap → us.length = ([fl] : List Str).length → BindsTo s fd ⟨[self], ([fl] : List Str).zip us⟩ ((["self", fl] : List Str).zip (self :: us))
structure EvK2 (P : Program) (w : World) (K : PySem.W.Frag) (mg : Str → Option Value) (base : Heap) (x f1 f2 : Str) (CB CR : Addr) : Prop where
  ex : ∃ (fI : Addr) (fd : FuncData), ErT2 K mg x f1 f2 CB CR fI ∧ FnOk P w K mg base CX0 1 fI fd ["self", f1, f2] (spErI2 CB f1 f2) ∧ Binds K fd ["self", f1, f2] [] ∧ ∀ (s : Shared) (self : Value) (us : List Value), K.In s.heap → us.length = ([f1, f2] : List Str).length → BindsTo s fd ⟨[self], ([f1, f2] : List Str).zip us⟩ ((["self", f1, f2] : List Str).zip (self :: us))
theorem same_lay {H : Hp} {q : Addr} {o : HO} (h : H q = none) : Same H (upd H q o) := fun b x e => by rw [upd_ne (ne_of_none e h)]; exact e
def Eq_ (Q : VK) : XK := fun cls od H' => ∀ e, H' e = none → Q (.ref e) (upd H' e (ExD cls od e))
theorem val_any {Q : VK} {H : Hp} {CB : Addr} {fl : Str} {v : V} (q : ∀ e d H', H e = none → H' e = some (ExD (.ref CB) (some d) e) → H' d = some (.xd [(fl, v)]) → Same H H' → Q (.ref e) H') : [v].length ≤ 1000 ∧ ∀ a, H a = none → spErI CB fl (.ref a :: ([v] ++ [])) (upd H a (exo a CB none))
    (fun u H2 => u = .non ∧ ∃ (d : Addr) (fs : List (Str × V)), H2 a = some (exo a CB (some d)) ∧ H2 d = some (exd d fs) ∧ H d = none ∧ Eq_ Q (.ref CB) (some d) (upd (del H2 a) d (.xd fs))) (fun _ _ _ => False) := raise_any (E := Eq_ Q) fun d H' nd hd s e ne => q e d _ (s.free ne) upd_same (by rw [upd_ne (ne_of_none hd ne)]; exact hd) (s.trans (same_lay ne))
theorem val_any2 {Q : VK} {H : Hp} {CB : Addr} {f1 f2 : Str} {v u : V} (q : ∀ e d H', H e = none → H' e = some (ExD (.ref CB) (some d) e) → H' d = some (.xd [(f2, u), (f1, v)]) → Same H H' → Q (.ref e) H') : [v, u].length ≤ 1000 ∧ ∀ a, H a = none → spErI2 CB f1 f2 (.ref a :: ([v, u] ++ [])) (upd H a (exo a CB none))
    (fun r H2 => r = .non ∧ ∃ (d : Addr) (fs : List (Str × V)), H2 a = some (exo a CB (some d)) ∧ H2 d = some (exd d fs) ∧ H d = none ∧ Eq_ Q (.ref CB) (some d) (upd (del H2 a) d (.xd fs))) (fun _ _ _ => False) := raise_any2 (E := Eq_ Q) fun d H' nd hd s e ne => q e d _ (s.free ne) upd_same (by rw [upd_ne (ne_of_none hd ne)]; exact hd) (s.trans (same_lay ne))
/-! C(..) by places, one field, two fields; C(..) by names -/
section
variable {X : Cx} {x fl f1 f2 : Str} {CB CR : Addr} {j : Nat} {e : Expr} {es : List Expr} {kws : List Keyword} {t : TA} {p pos : Pos}
theorem pe_er (M : EvK X.prog X.w X.K X.mg X.base x fl CB CR) (hr : Room j X.A) (hj : 2 ≤ j) (hg : Gl X x) (ha : PA X (e :: es) t) (hdb : (x == ("__debug__" : Str)) = false := by decide) (he : starEach (e :: es) X.env = (false, eval e X.env) :: starEach es X.env := by rfl) (hpl : (backTo pos (starEach es X.env)).any (·.1) = false := by rfl) :
    PE X (.Call (.Name x p) (e :: es) [] pos) (tOfMk (tMkO CB (spErI CB fl) [] t)) := by
  obtain ⟨fI, fd, T, F, hb, _⟩ := M.ex
  exact pe_of_mk (pmk_oex T.ox T.iC T.tI F (hr.mono hj) hb .nil pass0 hg T.gB ha hdb he hpl)
theorem pe_er2 (M : EvK2 X.prog X.w X.K X.mg X.base x f1 f2 CB CR) (hr : Room j X.A) (hj : 2 ≤ j) (hg : Gl X x) (ha : PA X (e :: es) t) (hdb : (x == ("__debug__" : Str)) = false := by decide) (he : starEach (e :: es) X.env = (false, eval e X.env) :: starEach es X.env := by rfl) (hpl : (backTo pos (starEach es X.env)).any (·.1) = false := by rfl) :
    PE X (.Call (.Name x p) (e :: es) [] pos) (tOfMk (tMkO CB (spErI2 CB f1 f2) [] t)) := by
  obtain ⟨fI, fd, T, F, hb, _⟩ := M.ex
  exact pe_of_mk (pmk_oex T.ox T.iC T.tI F (hr.mono hj) hb .nil pass0 hg T.gB ha hdb he hpl)
theorem pe_erK (M : EvK X.prog X.w X.K X.mg X.base x fl CB CR) (hr : Room j X.A) (hj : 2 ≤ j) (hg : Gl X x) (hkw : PK X kws t) (hall : (backToKw pos (keywordEach kws X.env)).all (·.1.isSome) = true := by rfl) (hks : (backToKw pos (keywordEach kws X.env)).filterMap (·.1) = [fl] := by rfl)
    (hdb : (x == ("__debug__" : Str)) = false := by decide) (hpl : ((backTo pos (starEach [] X.env)).any (·.1) || (backToKw pos (keywordEach kws X.env)).any (·.1.isNone)) = false := by rfl) :
    PE X (.Call (.Name x p) [] kws pos) (tOfMk (tMkO CB (spErI CB fl) [] t)) := by
  obtain ⟨fI, fd, T, F, _, hb⟩ := M.ex
  exact pe_of_mk (pmk_oexK T.ox T.iC T.tI F (hr.mono hj) hb pass0 hg T.gB hkw rfl hall hks hdb hpl)
theorem pe_erK2 (M : EvK2 X.prog X.w X.K X.mg X.base x f1 f2 CB CR) (hr : Room j X.A) (hj : 2 ≤ j) (hg : Gl X x) (hkw : PK X kws t) (hall : (backToKw pos (keywordEach kws X.env)).all (·.1.isSome) = true := by rfl) (hks : (backToKw pos (keywordEach kws X.env)).filterMap (·.1) = [f1, f2] := by rfl)
    (hdb : (x == ("__debug__" : Str)) = false := by decide) (hpl : ((backTo pos (starEach [] X.env)).any (·.1) || (backToKw pos (keywordEach kws X.env)).any (·.1.isNone)) = false := by rfl) :
    PE X (.Call (.Name x p) [] kws pos) (tOfMk (tMkO CB (spErI2 CB f1 f2) [] t)) := by
  obtain ⟨fI, fd, T, F, _, hb⟩ := M.ex
  exact pe_of_mk (pmk_oexK T.ox T.iC T.tI F (hr.mono hj) hb pass0 hg T.gB hkw rfl hall hks hdb hpl)
end
end OR

namespace OR
open PySem PySem.Spec PyProof.Rows L2
inductive All2 {α β : Type} (p : α → β → Prop) : List α → List β → Prop where
  | nil : All2 p [] []
  | cons {a : α} {b : β} {as : List α} {bs : List β} (h : p a b) (t : All2 p as bs) : All2 p (a :: as) (b :: bs)
/-! ### the values that are drawn, as data (a dict among them), and their texts -/
inductive Da (H : Hp) : V → PyData → Prop
  | non : Da H .non .none
  | bl (b : Bool) : Da H (.bl b) (.bool b)
  | int (i : Int) : i.natAbs ≤ 10 ^ 30 → Da H (.int i) (.int i)
  | str (x : Str) : x.length ≤ 1 → (∀ c ∈ TL.tl x, c < 1000) → Da H (.str x) (.str x)
  | tup0 {t : Addr} : H t = some (.tup []) → Da H (.ref t) (.tuple [])
  | tup2 {t : Addr} : H t = some (.tup [.int 1, .int 2]) → Da H (.ref t) (.tuple [.int 1, .int 2])
  | lst1 {t : Addr} : H t = some (.lst [.int 3]) → t ≠ sysModules → Da H (.ref t) (.list [.int 3])
  | dic {t : Addr} : H t = some (.dK []) → Da H (.ref t) (.dict [])
theorem Da.same {H H' : Hp} {v : V} {d : PyData} (h : Da H v d) (s : Same H H') : Da H' v d := by
  cases h with
  | non => exact .non
  | bl b => exact .bl b
  | int i h => exact .int i h
  | str x h k => exact .str x h k
  | tup0 h => exact .tup0 (s _ _ h)
  | tup2 h => exact .tup2 (s _ _ h)
  | lst1 h n => exact .lst1 (s _ _ h) n
  | dic h => exact .dic (s _ _ h)
section
variable {X : Cx} {pins : List (Addr × Obj)} {σ : L2.St} {H : Hp} {s : Shared}
theorem Da.reads (I : Inv X pins σ H s) {v : V} {d : PyData} {u : Value} (h : Da H v d) (r : RelV v u) : ∃ as, Reads s.heap u d as ∧ sysModules ∉ as := by
  cases h with
  | non => cases r; exact ⟨_, Reads.none, fun z => nomatch z⟩
  | bl b => cases r; exact ⟨_, Reads.bool b, fun z => nomatch z⟩
  | int i h => obtain ⟨t, rfl⟩ := r; exact ⟨_, Reads.int i t, fun z => nomatch z⟩
  | str x h => obtain ⟨t, rfl⟩ := r; exact ⟨_, Reads.str x t, fun z => nomatch z⟩
  | tup0 h =>
    cases r
    obtain ⟨its, rv, ⟨o, ho, hc, n, hd⟩, _⟩ := I.tuple (xs := []) (.inl (.inl h))
    cases rv
    exact ⟨_, Reads.tuple ho hc hd ReadsAll.nil, fun z => nomatch z⟩
  | tup2 h =>
    cases r
    obtain ⟨its, rv, ⟨o, ho, hc, n, hd⟩, _⟩ := I.tuple (xs := [.int 1, .int 2]) (.inl (.inl h))
    cases rv with | cons r1 rv => cases rv with | cons r2 rv =>
      cases rv
      obtain ⟨t1, rfl⟩ := r1
      obtain ⟨t2, rfl⟩ := r2
      exact ⟨_, Reads.tuple ho hc hd (.cons (.int 1 t1) (.cons (.int 2 t2) .nil)), fun z => nomatch z⟩
  | @lst1 a h hn =>
    cases r
    obtain ⟨its, rv, ⟨o, n, ho, hc, _, hd⟩, _⟩ := I.list (xs := [.int 3]) (.inl (.inl h))
    cases rv with | cons r1 rv =>
      cases rv
      obtain ⟨t1, rfl⟩ := r1
      exact ⟨_, Reads.list ho hc hd (.cons (.int 3 t1) .nil), fun hb => hn (List.mem_singleton.mp hb).symm⟩
  | @dic a h =>
    cases r
    obtain ⟨_, hnm, vs, hkv, o, es, ep, ho, hx, hd, _, hp, _⟩ := (I.hok _ _ h : ObjOk X.prog X.w H s.heap a (.dK []))
    cases hkv
    have e0 : es.toList = [] := by
      have := hp.length
      simpa using this
    refine ⟨_, Reads.dict (kvs := []) ho hx.1 hd (by rw [e0]; exact .nil) (by rw [e0]; exact .nil), fun hb => ?_⟩
    simp only [List.nil_append, List.append_nil, List.mem_singleton] at hb
    rw [← hb] at hnm
    simp at hnm
theorem Da.readsAll (I : Inv X pins σ H s) : ∀ {vs : List V} {ds : List PyData} {us : List Value}, All2 (Da H) vs ds → Vals vs us → ∃ as, ReadsAll s.heap us ds as ∧ sysModules ∉ as
  | _, _, _, .nil, r => by cases r; exact ⟨_, ReadsAll.nil, fun z => nomatch z⟩
  | _, _, _, .cons h t, r => by
    cases r with
    | cons r1 r2 =>
      obtain ⟨as, q1, n1⟩ := Da.reads I h r1
      obtain ⟨bs, q2, n2⟩ := Da.readsAll I t r2
      exact ⟨_, .cons q1 q2, fun hb => (List.mem_append.mp hb).elim n1 n2⟩
end
theorem call_reprV {X : Cx} (gd : X.A.guards = some []) (hu : X.A.units + 64 < cLine) : CallR X (.builtin "repr") (fun xs H Q => ∃ a vs ds, xs = [.ref a] ∧ H a = some (.lst vs) ∧ a ≠ sysModules ∧ All2 (Da H) vs ds ∧ (PyData.list ds).showable = true ∧ (PyData.list ds).depth ≤ 60 ∧ (PyData.list ds).shown.length ≤ sizeLine ∧ Q (.str (PyData.list ds).shown) H) := by
  intro pins s σ H xs us Q I r h
  obtain ⟨a, vs, ds, rfl, ha, hn, hd, h1, h3, h4, q⟩ := h
  obtain ⟨u, rfl, ru⟩ := r.one
  cases (show u = Value.ref a from ru)
  obtain ⟨its, rv, ⟨o, n, ho, hc, _, hdat⟩, _⟩ := I.list (xs := vs) (.inl (.inl ha))
  obtain ⟨as, ra, na⟩ := Da.readsAll I hd rv
  have rd := Reads.list ho hc hdat ra
  refine repr_of_reads' rd h1 (fun _ m => ?_) gd (by omega) (fun _ _ e => e) (fun h' t tk hk => ⟨.str (PyData.list ds).shown, H, I.kept (t' := tk) hk, ⟨t, rfl⟩, q⟩) h4
  rcases List.mem_cons.mp m with e | m
  · exact hn e.symm
  · exact na m
/-! ### new lists, away from the modules' dict -/
def tLstN (t : TA) : TE := fun σ H Q => t σ H fun xs H1 => xs.length ≤ sizeLine ∧ ∀ l, H1 l = none → l ≠ sysModules → Q (.ref l) (upd H1 l (.lst xs))
theorem big_ne {X : Cx} {pins : List (Addr × Obj)} {σ : L2.St} {H : Hp} {s : Shared} (I : Inv X pins σ H s) : s.heap.objs.size ≠ sysModules := by
  have := I.big
  exact (Nat.ne_of_lt this).symm
theorem pe_lstN {X : Cx} {es : List Expr} {t : TA} {pos : Pos} (h : PA X es t) : PE X (.List es pos) (tLstN t) := by
  refine ⟨fun pins s σ H Q I hq => ?_⟩
  refine wpAny_List_spliced (thn (h.run pos pins s σ H _ I hq) fun us s1 ⟨xs, H1, I1, r, z, q⟩ => ⟨by rw [← r.length]; exact z, ?_⟩)
  have hf : H1 s1.heap.objs.size = none := I1.hok.fresh (Nat.le_refl _)
  exact ⟨.ref s1.heap.objs.size, upd H1 s1.heap.objs.size (.lst xs), I1.laid (t' := s1.toks) (fun b u e => Heap.get?_push_of_some _ e) (Nat.le_refl _) ⟨z, us, 0, r, Heap.get?_push_size _ rfl⟩, rfl, q _ hf (big_ne I1)⟩
def rCatN : R2 := fun x y H Q => ∃ l b xs zs, x = .ref l ∧ y = .ref b ∧ H l = some (.lst xs) ∧ H b = some (.lst zs) ∧ xs.length + zs.length ≤ sizeLine ∧ ∀ p, H p = none → p ≠ sysModules → Q (.ref p) (upd H p (.lst (xs ++ zs)))
theorem op_catN {X : Cx} : OpR X (binaryOp .Add) rCatN := by
  intro pins s σ H x y v u Q I rx ry h
  obtain ⟨l, b, xs, zs, rfl, rfl, hH, hB, hz, q⟩ := h
  cases rx
  cases ry
  obtain ⟨z, its, n, r, hl, e⟩ := I.lstM hH
  obtain ⟨z2, its2, n2, r2, hl2, e2⟩ := I.lstM hB
  refine PySem.P.add_list e e2 ?_ (by rw [List.size_toArray, List.size_toArray]; omega)
  rw [show its.toArray ++ its2.toArray = (its ++ its2).toArray by simp]
  exact ⟨.ref _, _, I.lnew (t' := s.toks) (r.append r2) (by rw [List.length_append]; omega), rfl, q _ I.fresh (big_ne I)⟩
end OR

namespace OR
open PySem PySem.Spec PyProof.Rows L2
section
variable {P : Program} {w : World} {K : PySem.W.Frag} {mg : Str → Option Value} {base : Heap} {f CB CR fI : Addr} {fd : FuncData}
theorem scIBadStretch : FnScope ["self", "index"] ["self", "index"] (defScope sBadStretchInit) := ⟨rfl, rfl, rfl, by decide +kernel, rfl, by decide +kernel, by decide +kernel⟩
theorem ok_IBadStretch (F : Fun K "__init__" "BadStretch.__init__" sBadStretchInit f fd) (T : ErT K mg "BadStretch" "index" CB CR fI) : FnOk P w K mg base CX0 1 f fd ["self", "index"] (spErI CB "index") := by
  refine F.ok scIBadStretch (fun vs H Q E h => ?_) (fun cdv A outer s H vs Q E hr h => ?_)
  · obtain ⟨a, v, rfl, _⟩ := h
    rfl
  · obtain ⟨a, v, rfl, ha, q⟩ := h
    refine ⟨_, pss_one (ps_ost (pv 0) (pv 1)), ?_⟩
    exact ⟨_, rfl, _, rfl, a, CB, rfl, T.ox, T.noI, .inl ⟨ha, q⟩⟩
theorem scIBadText : FnScope ["self", "index"] ["self", "index"] (defScope sBadTextInit) := ⟨rfl, rfl, rfl, by decide +kernel, rfl, by decide +kernel, by decide +kernel⟩
theorem ok_IBadText (F : Fun K "__init__" "BadText.__init__" sBadTextInit f fd) (T : ErT K mg "BadText" "index" CB CR fI) : FnOk P w K mg base CX0 1 f fd ["self", "index"] (spErI CB "index") := by
  refine F.ok scIBadText (fun vs H Q E h => ?_) (fun cdv A outer s H vs Q E hr h => ?_)
  · obtain ⟨a, v, rfl, _⟩ := h
    rfl
  · obtain ⟨a, v, rfl, ha, q⟩ := h
    refine ⟨_, pss_one (ps_ost (pv 0) (pv 1)), ?_⟩
    exact ⟨_, rfl, _, rfl, a, CB, rfl, T.ox, T.noI, .inl ⟨ha, q⟩⟩
theorem scIBadWord : FnScope ["self", "word"] ["self", "word"] (defScope sBadWordInit) := ⟨rfl, rfl, rfl, by decide +kernel, rfl, by decide +kernel, by decide +kernel⟩
theorem ok_IBadWord (F : Fun K "__init__" "BadWord.__init__" sBadWordInit f fd) (T : ErT K mg "BadWord" "word" CB CR fI) : FnOk P w K mg base CX0 1 f fd ["self", "word"] (spErI CB "word") := by
  refine F.ok scIBadWord (fun vs H Q E h => ?_) (fun cdv A outer s H vs Q E hr h => ?_)
  · obtain ⟨a, v, rfl, _⟩ := h
    rfl
  · obtain ⟨a, v, rfl, ha, q⟩ := h
    refine ⟨_, pss_one (ps_ost (pv 0) (pv 1)), ?_⟩
    exact ⟨_, rfl, _, rfl, a, CB, rfl, T.ox, T.noI, .inl ⟨ha, q⟩⟩
theorem scISameFunction : FnScope ["self", "function"] ["self", "function"] (defScope sSameFunctionInit) := ⟨rfl, rfl, rfl, by decide +kernel, rfl, by decide +kernel, by decide +kernel⟩
theorem ok_ISameFunction (F : Fun K "__init__" "SameFunction.__init__" sSameFunctionInit f fd) (T : ErT K mg "SameFunction" "function" CB CR fI) : FnOk P w K mg base CX0 1 f fd ["self", "function"] (spErI CB "function") := by
  refine F.ok scISameFunction (fun vs H Q E h => ?_) (fun cdv A outer s H vs Q E hr h => ?_)
  · obtain ⟨a, v, rfl, _⟩ := h
    rfl
  · obtain ⟨a, v, rfl, ha, q⟩ := h
    refine ⟨_, pss_one (ps_ost (pv 0) (pv 1)), ?_⟩
    exact ⟨_, rfl, _, rfl, a, CB, rfl, T.ox, T.noI, .inl ⟨ha, q⟩⟩
theorem scIBadSign : FnScope ["self", "sign"] ["self", "sign"] (defScope sBadSignInit) := ⟨rfl, rfl, rfl, by decide +kernel, rfl, by decide +kernel, by decide +kernel⟩
theorem ok_IBadSign (F : Fun K "__init__" "BadSign.__init__" sBadSignInit f fd) (T : ErT K mg "BadSign" "sign" CB CR fI) : FnOk P w K mg base CX0 1 f fd ["self", "sign"] (spErI CB "sign") := by
  refine F.ok scIBadSign (fun vs H Q E h => ?_) (fun cdv A outer s H vs Q E hr h => ?_)
  · obtain ⟨a, v, rfl, _⟩ := h
    rfl
  · obtain ⟨a, v, rfl, ha, q⟩ := h
    refine ⟨_, pss_one (ps_ost (pv 0) (pv 1)), ?_⟩
    exact ⟨_, rfl, _, rfl, a, CB, rfl, T.ox, T.noI, .inl ⟨ha, q⟩⟩
theorem scIBadFactor : FnScope ["self", "factor"] ["self", "factor"] (defScope sBadFactorInit) := ⟨rfl, rfl, rfl, by decide +kernel, rfl, by decide +kernel, by decide +kernel⟩
theorem ok_IBadFactor (F : Fun K "__init__" "BadFactor.__init__" sBadFactorInit f fd) (T : ErT K mg "BadFactor" "factor" CB CR fI) : FnOk P w K mg base CX0 1 f fd ["self", "factor"] (spErI CB "factor") := by
  refine F.ok scIBadFactor (fun vs H Q E h => ?_) (fun cdv A outer s H vs Q E hr h => ?_)
  · obtain ⟨a, v, rfl, _⟩ := h
    rfl
  · obtain ⟨a, v, rfl, ha, q⟩ := h
    refine ⟨_, pss_one (ps_ost (pv 0) (pv 1)), ?_⟩
    exact ⟨_, rfl, _, rfl, a, CB, rfl, T.ox, T.noI, .inl ⟨ha, q⟩⟩
theorem scIBadFunctions : FnScope ["self", "count"] ["self", "count"] (defScope sBadFunctionsInit) := ⟨rfl, rfl, rfl, by decide +kernel, rfl, by decide +kernel, by decide +kernel⟩
theorem ok_IBadFunctions (F : Fun K "__init__" "BadFunctions.__init__" sBadFunctionsInit f fd) (T : ErT K mg "BadFunctions" "count" CB CR fI) : FnOk P w K mg base CX0 1 f fd ["self", "count"] (spErI CB "count") := by
  refine F.ok scIBadFunctions (fun vs H Q E h => ?_) (fun cdv A outer s H vs Q E hr h => ?_)
  · obtain ⟨a, v, rfl, _⟩ := h
    rfl
  · obtain ⟨a, v, rfl, ha, q⟩ := h
    refine ⟨_, pss_one (ps_ost (pv 0) (pv 1)), ?_⟩
    exact ⟨_, rfl, _, rfl, a, CB, rfl, T.ox, T.noI, .inl ⟨ha, q⟩⟩
theorem scITwice : FnScope ["self", "word"] ["self", "word"] (defScope sTwiceInit) := ⟨rfl, rfl, rfl, by decide +kernel, rfl, by decide +kernel, by decide +kernel⟩
theorem ok_ITwice (F : Fun K "__init__" "Twice.__init__" sTwiceInit f fd) (T : ErT K mg "Twice" "word" CB CR fI) : FnOk P w K mg base CX0 1 f fd ["self", "word"] (spErI CB "word") := by
  refine F.ok scITwice (fun vs H Q E h => ?_) (fun cdv A outer s H vs Q E hr h => ?_)
  · obtain ⟨a, v, rfl, _⟩ := h
    rfl
  · obtain ⟨a, v, rfl, ha, q⟩ := h
    refine ⟨_, pss_one (ps_ost (pv 0) (pv 1)), ?_⟩
    exact ⟨_, rfl, _, rfl, a, CB, rfl, T.ox, T.noI, .inl ⟨ha, q⟩⟩
theorem scITooMany : FnScope ["self", "count"] ["self", "count"] (defScope sTooManyInit) := ⟨rfl, rfl, rfl, by decide +kernel, rfl, by decide +kernel, by decide +kernel⟩
theorem ok_ITooMany (F : Fun K "__init__" "TooMany.__init__" sTooManyInit f fd) (T : ErT K mg "TooMany" "count" CB CR fI) : FnOk P w K mg base CX0 1 f fd ["self", "count"] (spErI CB "count") := by
  refine F.ok scITooMany (fun vs H Q E h => ?_) (fun cdv A outer s H vs Q E hr h => ?_)
  · obtain ⟨a, v, rfl, _⟩ := h
    rfl
  · obtain ⟨a, v, rfl, ha, q⟩ := h
    refine ⟨_, pss_one (ps_ost (pv 0) (pv 1)), ?_⟩
    exact ⟨_, rfl, _, rfl, a, CB, rfl, T.ox, T.noI, .inl ⟨ha, q⟩⟩
theorem scINoFunction : FnScope ["self", "function"] ["self", "function"] (defScope sNoFunctionInit) := ⟨rfl, rfl, rfl, by decide +kernel, rfl, by decide +kernel, by decide +kernel⟩
theorem ok_INoFunction (F : Fun K "__init__" "NoFunction.__init__" sNoFunctionInit f fd) (T : ErT K mg "NoFunction" "function" CB CR fI) : FnOk P w K mg base CX0 1 f fd ["self", "function"] (spErI CB "function") := by
  refine F.ok scINoFunction (fun vs H Q E h => ?_) (fun cdv A outer s H vs Q E hr h => ?_)
  · obtain ⟨a, v, rfl, _⟩ := h
    rfl
  · obtain ⟨a, v, rfl, ha, q⟩ := h
    refine ⟨_, pss_one (ps_ost (pv 0) (pv 1)), ?_⟩
    exact ⟨_, rfl, _, rfl, a, CB, rfl, T.ox, T.noI, .inl ⟨ha, q⟩⟩
theorem scINoPlace : FnScope ["self", "place"] ["self", "place"] (defScope sNoPlaceInit) := ⟨rfl, rfl, rfl, by decide +kernel, rfl, by decide +kernel, by decide +kernel⟩
theorem ok_INoPlace (F : Fun K "__init__" "NoPlace.__init__" sNoPlaceInit f fd) (T : ErT K mg "NoPlace" "place" CB CR fI) : FnOk P w K mg base CX0 1 f fd ["self", "place"] (spErI CB "place") := by
  refine F.ok scINoPlace (fun vs H Q E h => ?_) (fun cdv A outer s H vs Q E hr h => ?_)
  · obtain ⟨a, v, rfl, _⟩ := h
    rfl
  · obtain ⟨a, v, rfl, ha, q⟩ := h
    refine ⟨_, pss_one (ps_ost (pv 0) (pv 1)), ?_⟩
    exact ⟨_, rfl, _, rfl, a, CB, rfl, T.ox, T.noI, .inl ⟨ha, q⟩⟩
theorem scINoClause : FnScope ["self", "index"] ["self", "index"] (defScope sNoClauseInit) := ⟨rfl, rfl, rfl, by decide +kernel, rfl, by decide +kernel, by decide +kernel⟩
theorem ok_INoClause (F : Fun K "__init__" "NoClause.__init__" sNoClauseInit f fd) (T : ErT K mg "NoClause" "index" CB CR fI) : FnOk P w K mg base CX0 1 f fd ["self", "index"] (spErI CB "index") := by
  refine F.ok scINoClause (fun vs H Q E h => ?_) (fun cdv A outer s H vs Q E hr h => ?_)
  · obtain ⟨a, v, rfl, _⟩ := h
    rfl
  · obtain ⟨a, v, rfl, ha, q⟩ := h
    refine ⟨_, pss_one (ps_ost (pv 0) (pv 1)), ?_⟩
    exact ⟨_, rfl, _, rfl, a, CB, rfl, T.ox, T.noI, .inl ⟨ha, q⟩⟩
theorem scIBadName : FnScope ["self", "name"] ["self", "name"] (defScope sBadNameInit) := ⟨rfl, rfl, rfl, by decide +kernel, rfl, by decide +kernel, by decide +kernel⟩
theorem ok_IBadName (F : Fun K "__init__" "BadName.__init__" sBadNameInit f fd) (T : ErT K mg "BadName" "name" CB CR fI) : FnOk P w K mg base CX0 1 f fd ["self", "name"] (spErI CB "name") := by
  refine F.ok scIBadName (fun vs H Q E h => ?_) (fun cdv A outer s H vs Q E hr h => ?_)
  · obtain ⟨a, v, rfl, _⟩ := h
    rfl
  · obtain ⟨a, v, rfl, ha, q⟩ := h
    refine ⟨_, pss_one (ps_ost (pv 0) (pv 1)), ?_⟩
    exact ⟨_, rfl, _, rfl, a, CB, rfl, T.ox, T.noI, .inl ⟨ha, q⟩⟩
theorem scIUnknown : FnScope ["self", "name"] ["self", "name"] (defScope sUnknownInit) := ⟨rfl, rfl, rfl, by decide +kernel, rfl, by decide +kernel, by decide +kernel⟩
theorem ok_IUnknown (F : Fun K "__init__" "Unknown.__init__" sUnknownInit f fd) (T : ErT K mg "Unknown" "name" CB CR fI) : FnOk P w K mg base CX0 1 f fd ["self", "name"] (spErI CB "name") := by
  refine F.ok scIUnknown (fun vs H Q E h => ?_) (fun cdv A outer s H vs Q E hr h => ?_)
  · obtain ⟨a, v, rfl, _⟩ := h
    rfl
  · obtain ⟨a, v, rfl, ha, q⟩ := h
    refine ⟨_, pss_one (ps_ost (pv 0) (pv 1)), ?_⟩
    exact ⟨_, rfl, _, rfl, a, CB, rfl, T.ox, T.noI, .inl ⟨ha, q⟩⟩
theorem scIKnown : FnScope ["self", "name"] ["self", "name"] (defScope sKnownInit) := ⟨rfl, rfl, rfl, by decide +kernel, rfl, by decide +kernel, by decide +kernel⟩
theorem ok_IKnown (F : Fun K "__init__" "Known.__init__" sKnownInit f fd) (T : ErT K mg "Known" "name" CB CR fI) : FnOk P w K mg base CX0 1 f fd ["self", "name"] (spErI CB "name") := by
  refine F.ok scIKnown (fun vs H Q E h => ?_) (fun cdv A outer s H vs Q E hr h => ?_)
  · obtain ⟨a, v, rfl, _⟩ := h
    rfl
  · obtain ⟨a, v, rfl, ha, q⟩ := h
    refine ⟨_, pss_one (ps_ost (pv 0) (pv 1)), ?_⟩
    exact ⟨_, rfl, _, rfl, a, CB, rfl, T.ox, T.noI, .inl ⟨ha, q⟩⟩
theorem scIBadLine : FnScope ["self", "row", "index"] ["self", "row", "index"] (defScope sBadLineInit) := ⟨rfl, rfl, rfl, by decide +kernel, rfl, by decide +kernel, by decide +kernel⟩
theorem ok_IBadLine (F : Fun K "__init__" "BadLine.__init__" sBadLineInit f fd) (T : ErT2 K mg "BadLine" "row" "index" CB CR fI) : FnOk P w K mg base CX0 1 f fd ["self", "row", "index"] (spErI2 CB "row" "index") := by
  refine F.ok scIBadLine (fun vs H Q E h => ?_) (fun cdv A outer s H vs Q E hr h => ?_)
  · obtain ⟨a, v, u, rfl, _⟩ := h
    rfl
  · obtain ⟨a, v, u, rfl, ha, q⟩ := h
    refine ⟨_, pss_cons (ps_ost (pv 0) (pv 1)) (pss_one (ps_ost (pv 0) (pv 2))), ?_⟩
    exact ⟨_, rfl, _, rfl, a, CB, rfl, T.ox, T.no1, .inl ⟨ha, fun dx ndx nex => ⟨_, rfl, _, rfl, a, CB, rfl, T.ox, T.no2, .inr ⟨dx, [("row", v)], upd_same, by rw [upd_ne nex]; exact upd_same, by show 1 ≤ 900; decide, q dx ndx nex⟩⟩⟩⟩
theorem scIBadPieces : FnScope ["self", "function", "index"] ["self", "function", "index"] (defScope sBadPiecesInit) := ⟨rfl, rfl, rfl, by decide +kernel, rfl, by decide +kernel, by decide +kernel⟩
theorem ok_IBadPieces (F : Fun K "__init__" "BadPieces.__init__" sBadPiecesInit f fd) (T : ErT2 K mg "BadPieces" "function" "index" CB CR fI) : FnOk P w K mg base CX0 1 f fd ["self", "function", "index"] (spErI2 CB "function" "index") := by
  refine F.ok scIBadPieces (fun vs H Q E h => ?_) (fun cdv A outer s H vs Q E hr h => ?_)
  · obtain ⟨a, v, u, rfl, _⟩ := h
    rfl
  · obtain ⟨a, v, u, rfl, ha, q⟩ := h
    refine ⟨_, pss_cons (ps_ost (pv 0) (pv 1)) (pss_one (ps_ost (pv 0) (pv 2))), ?_⟩
    exact ⟨_, rfl, _, rfl, a, CB, rfl, T.ox, T.no1, .inl ⟨ha, fun dx ndx nex => ⟨_, rfl, _, rfl, a, CB, rfl, T.ox, T.no2, .inr ⟨dx, [("function", v)], upd_same, by rw [upd_ne nex]; exact upd_same, by show 1 ≤ 900; decide, q dx ndx nex⟩⟩⟩⟩
theorem scINoBound : FnScope ["self", "function", "place"] ["self", "function", "place"] (defScope sNoBoundInit) := ⟨rfl, rfl, rfl, by decide +kernel, rfl, by decide +kernel, by decide +kernel⟩
theorem ok_INoBound (F : Fun K "__init__" "NoBound.__init__" sNoBoundInit f fd) (T : ErT2 K mg "NoBound" "function" "place" CB CR fI) : FnOk P w K mg base CX0 1 f fd ["self", "function", "place"] (spErI2 CB "function" "place") := by
  refine F.ok scINoBound (fun vs H Q E h => ?_) (fun cdv A outer s H vs Q E hr h => ?_)
  · obtain ⟨a, v, u, rfl, _⟩ := h
    rfl
  · obtain ⟨a, v, u, rfl, ha, q⟩ := h
    refine ⟨_, pss_cons (ps_ost (pv 0) (pv 1)) (pss_one (ps_ost (pv 0) (pv 2))), ?_⟩
    exact ⟨_, rfl, _, rfl, a, CB, rfl, T.ox, T.no1, .inl ⟨ha, fun dx ndx nex => ⟨_, rfl, _, rfl, a, CB, rfl, T.ox, T.no2, .inr ⟨dx, [("function", v)], upd_same, by rw [upd_ne nex]; exact upd_same, by show 1 ≤ 900; decide, q dx ndx nex⟩⟩⟩⟩
theorem scISettled : FnScope ["self", "function", "place"] ["self", "function", "place"] (defScope sSettledInit) := ⟨rfl, rfl, rfl, by decide +kernel, rfl, by decide +kernel, by decide +kernel⟩
theorem ok_ISettled (F : Fun K "__init__" "Settled.__init__" sSettledInit f fd) (T : ErT2 K mg "Settled" "function" "place" CB CR fI) : FnOk P w K mg base CX0 1 f fd ["self", "function", "place"] (spErI2 CB "function" "place") := by
  refine F.ok scISettled (fun vs H Q E h => ?_) (fun cdv A outer s H vs Q E hr h => ?_)
  · obtain ⟨a, v, u, rfl, _⟩ := h
    rfl
  · obtain ⟨a, v, u, rfl, ha, q⟩ := h
    refine ⟨_, pss_cons (ps_ost (pv 0) (pv 1)) (pss_one (ps_ost (pv 0) (pv 2))), ?_⟩
    exact ⟨_, rfl, _, rfl, a, CB, rfl, T.ox, T.no1, .inl ⟨ha, fun dx ndx nex => ⟨_, rfl, _, rfl, a, CB, rfl, T.ox, T.no2, .inr ⟨dx, [("function", v)], upd_same, by rw [upd_ne nex]; exact upd_same, by show 1 ≤ 900; decide, q dx ndx nex⟩⟩⟩⟩
theorem scINotLet : FnScope ["self", "function", "place"] ["self", "function", "place"] (defScope sNotLetInit) := ⟨rfl, rfl, rfl, by decide +kernel, rfl, by decide +kernel, by decide +kernel⟩
theorem ok_INotLet (F : Fun K "__init__" "NotLet.__init__" sNotLetInit f fd) (T : ErT2 K mg "NotLet" "function" "place" CB CR fI) : FnOk P w K mg base CX0 1 f fd ["self", "function", "place"] (spErI2 CB "function" "place") := by
  refine F.ok scINotLet (fun vs H Q E h => ?_) (fun cdv A outer s H vs Q E hr h => ?_)
  · obtain ⟨a, v, u, rfl, _⟩ := h
    rfl
  · obtain ⟨a, v, u, rfl, ha, q⟩ := h
    refine ⟨_, pss_cons (ps_ost (pv 0) (pv 1)) (pss_one (ps_ost (pv 0) (pv 2))), ?_⟩
    exact ⟨_, rfl, _, rfl, a, CB, rfl, T.ox, T.no1, .inl ⟨ha, fun dx ndx nex => ⟨_, rfl, _, rfl, a, CB, rfl, T.ox, T.no2, .inr ⟨dx, [("function", v)], upd_same, by rw [upd_ne nex]; exact upd_same, by show 1 ≤ 900; decide, q dx ndx nex⟩⟩⟩⟩
end
end OR

namespace OR
open PySem PySem.Spec PyProof.Rows L2
/-! ### a field of an error just made; an error just made -/
section
variable {K : PySem.W.Frag} {σ : L2.St} {H : Hp} {Q : VK} {CB : Addr} {fl f1 f2 : Str} {i j : Nat} {v u : V}
def tEx_ (K : PySem.W.Frag) (n : Str) (Q : VK) : VK := fun x H1 => ∃ (a C dd : Addr) (fs : List (Str × V)) (v : V), x = .ref a ∧ H1 a = some (ExD (.ref C) (some dd) a) ∧ H1 dd = some (.xd fs) ∧ XfC K C ∧ PySem.W.findIn K (.ref C) n = some none ∧ fs.lookup n = some v ∧ Q v H1
theorem exF1 (hv : σ[i]? = some (some v)) (T : XfC K CB) (hno : PySem.W.findIn K (.ref CB) fl = some none) (q : ∀ H', Same H H' → Q v H') : tExF K fl (tOfMk (tMkO CB (spErI CB fl) [] (tCons (tVar i) tNil))) σ H Q := by
  refine ⟨v, hv, ?_⟩
  exact val_any (Q := tEx_ K fl Q) fun e d H' ne he hd s => ⟨e, CB, d, _, v, rfl, he, hd, T, hno, by simp [List.lookup], q H' s⟩
theorem exF2a (hv : σ[i]? = some (some v)) (hu : σ[j]? = some (some u)) (T : XfC K CB) (hno : PySem.W.findIn K (.ref CB) f1 = some none) (hn : (f1 == f2) = false) (q : ∀ H', Same H H' → Q v H') : tExF K f1 (tOfMk (tMkO CB (spErI2 CB f1 f2) [] (tCons (tVar i) (tCons (tVar j) tNil)))) σ H Q := by
  refine ⟨v, hv, u, hu, ?_⟩
  exact val_any2 (Q := tEx_ K f1 Q) fun e d H' ne he hd s => ⟨e, CB, d, _, v, rfl, he, hd, T, hno, by rw [List.lookup_cons, hn]; simp [List.lookup], q H' s⟩
theorem exF2b (hv : σ[i]? = some (some v)) (hu : σ[j]? = some (some u)) (T : XfC K CB) (hno : PySem.W.findIn K (.ref CB) f2 = some none) (q : ∀ H', Same H H' → Q u H') : tExF K f2 (tOfMk (tMkO CB (spErI2 CB f1 f2) [] (tCons (tVar i) (tCons (tVar j) tNil)))) σ H Q := by
  refine ⟨v, hv, u, hu, ?_⟩
  exact val_any2 (Q := tEx_ K f2 Q) fun e d H' ne he hd s => ⟨e, CB, d, _, u, rfl, he, hd, T, hno, by simp [List.lookup], q H' s⟩
/-- an error of the class CB that is held as a value -/
def IsE (CB : Addr) (H : Hp) (v : V) : Prop := ∃ e d, v = .ref e ∧ H e = some (ExD (.ref CB) d e) ∧ ∀ dd, d = some dd → ∃ fs, H dd = some (.xd fs)
theorem IsE.same {H H' : Hp} {v : V} (h : IsE CB H v) (s : Same H H') : IsE CB H' v := by
  obtain ⟨e, d, rfl, he, hd⟩ := h
  exact ⟨e, d, rfl, s _ _ he, fun dd z => (hd dd z).imp fun fs h => s _ _ h⟩
theorem exV1 (hv : σ[i]? = some (some v)) (q : ∀ z H', IsE CB H' z → Same H H' → Q z H') : tOfMk (tMkO CB (spErI CB fl) [] (tCons (tVar i) tNil)) σ H Q := by
  refine ⟨v, hv, ?_⟩
  exact val_any (Q := Q) fun e d H' ne he hd s => q _ H' ⟨e, some d, rfl, he, fun dd z => ⟨_, by cases z; exact hd⟩⟩ s
theorem exV2 (hv : σ[i]? = some (some v)) (hu : σ[j]? = some (some u)) (q : ∀ z H', IsE CB H' z → Same H H' → Q z H') : tOfMk (tMkO CB (spErI2 CB f1 f2) [] (tCons (tVar i) (tCons (tVar j) tNil))) σ H Q := by
  refine ⟨v, hv, u, hu, ?_⟩
  exact val_any2 (Q := Q) fun e d H' ne he hd s => q _ H' ⟨e, some d, rfl, he, fun dd z => ⟨_, by cases z; exact hd⟩⟩ s
end
end OR

namespace OR
open PySem PySem.Spec PyProof.Rows L2
/-- the classes of errors with fields, behind the top -/
structure Evs (P : Program) (w : World) (K : PySem.W.Frag) (mg : Str → Option Value) (base : Heap) (C : Nat → Addr) (CR : Addr) : Prop where
  eBadStretch : EvK P w K mg base "BadStretch" "index" (C 0) CR
  eBadText : EvK P w K mg base "BadText" "index" (C 1) CR
  eBadLine : EvK2 P w K mg base "BadLine" "row" "index" (C 2) CR
  eBadWord : EvK P w K mg base "BadWord" "word" (C 3) CR
  eSameFunction : EvK P w K mg base "SameFunction" "function" (C 4) CR
  eBadSign : EvK P w K mg base "BadSign" "sign" (C 5) CR
  eBadFactor : EvK P w K mg base "BadFactor" "factor" (C 6) CR
  eBadPieces : EvK2 P w K mg base "BadPieces" "function" "index" (C 7) CR
  eBadFunctions : EvK P w K mg base "BadFunctions" "count" (C 8) CR
  eTwice : EvK P w K mg base "Twice" "word" (C 9) CR
  eTooMany : EvK P w K mg base "TooMany" "count" (C 10) CR
  eNoFunction : EvK P w K mg base "NoFunction" "function" (C 11) CR
  eNoPlace : EvK P w K mg base "NoPlace" "place" (C 12) CR
  eNoClause : EvK P w K mg base "NoClause" "index" (C 13) CR
  eNoBound : EvK2 P w K mg base "NoBound" "function" "place" (C 14) CR
  eBadName : EvK P w K mg base "BadName" "name" (C 15) CR
  eUnknown : EvK P w K mg base "Unknown" "name" (C 16) CR
  eKnown : EvK P w K mg base "Known" "name" (C 17) CR
  eSettled : EvK2 P w K mg base "Settled" "function" "place" (C 18) CR
  eNotLet : EvK2 P w K mg base "NotLet" "function" "place" (C 19) CR
theorem EvK.xf {P : Program} {w : World} {K : PySem.W.Frag} {mg : Str → Option Value} {base : Heap} {x fl : Str} {CB CR : Addr} (M : EvK P w K mg base x fl CB CR) : XfC K CB ∧ PySem.W.findIn K (.ref CB) fl = some none := by
  obtain ⟨fI, fd, T, _⟩ := M.ex
  exact ⟨T.xf, T.noI⟩
theorem EvK2.xf {P : Program} {w : World} {K : PySem.W.Frag} {mg : Str → Option Value} {base : Heap} {x f1 f2 : Str} {CB CR : Addr} (M : EvK2 P w K mg base x f1 f2 CB CR) : XfC K CB ∧ PySem.W.findIn K (.ref CB) f1 = some none ∧ PySem.W.findIn K (.ref CB) f2 = some none := by
  obtain ⟨fI, fd, T, _⟩ := M.ex
  exact ⟨T.xf, T.no1, T.no2⟩
theorem n1 : (("row" : Str) == "index") = false := by decide +kernel
theorem n2 : (("function" : Str) == "index") = false := by decide +kernel
theorem n3 : (("function" : Str) == "place") = false := by decide +kernel
def patE (a b : V) : List V := [a, a, a, b, a, a, a, a, a, b, a, a, a, a, a, a, a, b, a, a, a, a, b, a, b]
def spBy : Sp := fun vs H Q _ => ∃ a b : V, vs = [a, b] ∧ ∀ l H', H' l = some (.lst (patE a b)) → l ≠ sysModules → Same H H' → Q (.ref l) H'
theorem op_catNK {X : Cx} : OpR X (binaryOp .Add) rCatN := op_catN
section
variable {P : Program} {w : World} {K : PySem.W.Frag} {mg : Str → Option Value} {base : Heap} {C : Nat → Addr} {CR : Addr}
theorem scBP : FnScope ["_law_a", "_law_b", "_law_found"] ["_law_a", "_law_b"] (defScope sByPosition) := ⟨rfl, rfl, rfl, by decide +kernel, rfl, by decide +kernel, by decide +kernel⟩
set_option maxHeartbeats 4000000 in
theorem ok_BP {f : Addr} {fd : FuncData} (F : Fun K "_law_by_position" "_law_by_position" sByPosition f fd) (M : Evs P w K mg base C CR) : FnOk P w K mg base CX0 3 f fd ["_law_a", "_law_b"] spBy := by
  refine F.ok scBP (fun vs H Q E h => ?_) (fun cdv A outer s H vs Q E hr h => ?_)
  · obtain ⟨a, b, rfl, _⟩ := h
    rfl
  · obtain ⟨a, b, rfl, R⟩ := h
    have nd := scBP.nd
    refine ⟨_, (pss_cons (ps_set (i := 2) nd rfl (.inl rfl) (pe_lstN (pa_cons (pe_exf (pe_er M.eBadStretch hr (by decide) (by rfl) (pa_cons (pv 0) pa_nil))) (pa_cons (pe_exf (pe_er M.eBadText hr (by decide) (by rfl) (pa_cons (pv 0) pa_nil))) (pa_cons (pe_exf (pe_er2 M.eBadLine hr (by decide) (by rfl) (pa_cons (pv 0) (pa_cons (pv 1) pa_nil)))) (pa_cons (pe_exf (pe_er2 M.eBadLine hr (by decide) (by rfl) (pa_cons (pv 0) (pa_cons (pv 1) pa_nil)))) (pa_cons (pe_exf (pe_er M.eBadWord hr (by decide) (by rfl) (pa_cons (pv 0) pa_nil))) pa_nil)))))))
      (pss_cons (ps_set (i := 2) nd rfl (.inl rfl) (pe_op op_catNK (pv 2) (pe_lstN (pa_cons (pe_exf (pe_er M.eSameFunction hr (by decide) (by rfl) (pa_cons (pv 0) pa_nil))) (pa_cons (pe_exf (pe_er M.eBadSign hr (by decide) (by rfl) (pa_cons (pv 0) pa_nil))) (pa_cons (pe_exf (pe_er M.eBadFactor hr (by decide) (by rfl) (pa_cons (pv 0) pa_nil))) (pa_cons (pe_exf (pe_er2 M.eBadPieces hr (by decide) (by rfl) (pa_cons (pv 0) (pa_cons (pv 1) pa_nil)))) pa_nil)))))))
      (pss_cons (ps_set (i := 2) nd rfl (.inl rfl) (pe_op op_catNK (pv 2) (pe_lstN (pa_cons (pe_exf (pe_er2 M.eBadPieces hr (by decide) (by rfl) (pa_cons (pv 0) (pa_cons (pv 1) pa_nil)))) (pa_cons (pe_exf (pe_er M.eBadFunctions hr (by decide) (by rfl) (pa_cons (pv 0) pa_nil))) (pa_cons (pe_exf (pe_er M.eTwice hr (by decide) (by rfl) (pa_cons (pv 0) pa_nil))) (pa_cons (pe_exf (pe_er M.eTooMany hr (by decide) (by rfl) (pa_cons (pv 0) pa_nil))) pa_nil)))))))
      (pss_cons (ps_set (i := 2) nd rfl (.inl rfl) (pe_op op_catNK (pv 2) (pe_lstN (pa_cons (pe_exf (pe_er M.eNoFunction hr (by decide) (by rfl) (pa_cons (pv 0) pa_nil))) pa_nil))))
      (pss_cons (ps_set (i := 2) nd rfl (.inl rfl) (pe_op op_catNK (pv 2) (pe_lstN (pa_cons (pe_exf (pe_er M.eNoPlace hr (by decide) (by rfl) (pa_cons (pv 0) pa_nil))) (pa_cons (pe_exf (pe_er M.eNoClause hr (by decide) (by rfl) (pa_cons (pv 0) pa_nil))) (pa_cons (pe_exf (pe_er2 M.eNoBound hr (by decide) (by rfl) (pa_cons (pv 0) (pa_cons (pv 1) pa_nil)))) (pa_cons (pe_exf (pe_er2 M.eNoBound hr (by decide) (by rfl) (pa_cons (pv 0) (pa_cons (pv 1) pa_nil)))) pa_nil)))))))
      (pss_cons (ps_set (i := 2) nd rfl (.inl rfl) (pe_op op_catNK (pv 2) (pe_lstN (pa_cons (pe_exf (pe_er M.eBadName hr (by decide) (by rfl) (pa_cons (pv 0) pa_nil))) pa_nil))))
      (pss_cons (ps_set (i := 2) nd rfl (.inl rfl) (pe_op op_catNK (pv 2) (pe_lstN (pa_cons (pe_exf (pe_er M.eUnknown hr (by decide) (by rfl) (pa_cons (pv 0) pa_nil))) (pa_cons (pe_exf (pe_er M.eKnown hr (by decide) (by rfl) (pa_cons (pv 0) pa_nil))) (pa_cons (pe_exf (pe_er2 M.eSettled hr (by decide) (by rfl) (pa_cons (pv 0) (pa_cons (pv 1) pa_nil)))) (pa_cons (pe_exf (pe_er2 M.eSettled hr (by decide) (by rfl) (pa_cons (pv 0) (pa_cons (pv 1) pa_nil)))) pa_nil)))))))
      (pss_cons (ps_set (i := 2) nd rfl (.inl rfl) (pe_op op_catNK (pv 2) (pe_lstN (pa_cons (pe_exf (pe_er2 M.eNotLet hr (by decide) (by rfl) (pa_cons (pv 0) (pa_cons (pv 1) pa_nil)))) pa_nil))))
      (pss_cons (ps_set (i := 2) nd rfl (.inl rfl) (pe_op op_catNK (pv 2) (pe_lstN (pa_cons (pe_exf (pe_er2 M.eNotLet hr (by decide) (by rfl) (pa_cons (pv 0) (pa_cons (pv 1) pa_nil)))) pa_nil))))
      (pss_one (ps_ret (pv 2)))))))))))), ?_⟩
    have s0 : Same H H := Same.refl _
    show tExF _ _ _ _ _ _
    refine exF1 (v := a) rfl M.eBadStretch.xf.1 M.eBadStretch.xf.2 fun H1 t1 => ?_
    have s1 := s0.trans t1
    show tExF _ _ _ _ _ _
    refine exF1 (v := a) rfl M.eBadText.xf.1 M.eBadText.xf.2 fun H2 t2 => ?_
    have s2 := s1.trans t2
    show tExF _ _ _ _ _ _
    refine exF2a (v := a) (u := b) rfl rfl M.eBadLine.xf.1 M.eBadLine.xf.2.1 n1 fun H3 t3 => ?_
    have s3 := s2.trans t3
    show tExF _ _ _ _ _ _
    refine exF2b (v := a) (u := b) rfl rfl M.eBadLine.xf.1 M.eBadLine.xf.2.2 fun H4 t4 => ?_
    have s4 := s3.trans t4
    show tExF _ _ _ _ _ _
    refine exF1 (v := a) rfl M.eBadWord.xf.1 M.eBadWord.xf.2 fun H5 t5 => ?_
    have s5 := s4.trans t5
    refine ⟨by show 5 ≤ sizeLine; decide, fun d5 nd5 ns5 => ?_⟩
    have r5 := same_lay (o := .lst [a, a, a, b, a]) nd5
    have e5 : (upd H5 d5 (.lst [a, a, a, b, a])) d5 = some (.lst [a, a, a, b, a]) := upd_same
    generalize upd H5 d5 (.lst [a, a, a, b, a]) = G5 at r5 e5
    have s5 := s5.trans r5
    have hl := e5
    refine ⟨_, rfl, ?_⟩
    show tExF _ _ _ _ _ _
    refine exF1 (v := a) rfl M.eSameFunction.xf.1 M.eSameFunction.xf.2 fun H6 t6 => ?_
    have s6 := s5.trans t6
    have hl := t6 _ _ hl
    show tExF _ _ _ _ _ _
    refine exF1 (v := a) rfl M.eBadSign.xf.1 M.eBadSign.xf.2 fun H7 t7 => ?_
    have s7 := s6.trans t7
    have hl := t7 _ _ hl
    show tExF _ _ _ _ _ _
    refine exF1 (v := a) rfl M.eBadFactor.xf.1 M.eBadFactor.xf.2 fun H8 t8 => ?_
    have s8 := s7.trans t8
    have hl := t8 _ _ hl
    show tExF _ _ _ _ _ _
    refine exF2a (v := a) (u := b) rfl rfl M.eBadPieces.xf.1 M.eBadPieces.xf.2.1 n2 fun H9 t9 => ?_
    have s9 := s8.trans t9
    have hl := t9 _ _ hl
    refine ⟨by show 4 ≤ sizeLine; decide, fun d9 nd9 ns9 => ?_⟩
    have r9 := same_lay (o := .lst [a, a, a, a]) nd9
    have e9 : (upd H9 d9 (.lst [a, a, a, a])) d9 = some (.lst [a, a, a, a]) := upd_same
    generalize upd H9 d9 (.lst [a, a, a, a]) = G9 at r9 e9
    have s9 := s9.trans r9
    have hl := r9 _ _ hl
    refine ⟨d5, d9, [a, a, a, b, a], [a, a, a, a], rfl, rfl, hl, e9, by show 9 ≤ sizeLine; decide, fun p9 np9 ns9 => ?_⟩
    have r9 := same_lay (o := .lst [a, a, a, b, a, a, a, a, a]) np9
    have hl : (upd G9 p9 (.lst [a, a, a, b, a, a, a, a, a])) p9 = some (.lst [a, a, a, b, a, a, a, a, a]) := upd_same
    replace hl : (upd G9 p9 (.lst ([a, a, a, b, a] ++ [a, a, a, a]))) p9 = some (.lst [a, a, a, b, a, a, a, a, a]) := hl
    replace r9 : Same G9 (upd G9 p9 (.lst ([a, a, a, b, a] ++ [a, a, a, a]))) := r9
    generalize upd G9 p9 (.lst ([a, a, a, b, a] ++ [a, a, a, a])) = H9 at r9 hl
    have s9 := s9.trans r9
    refine ⟨_, rfl, ?_⟩
    show tExF _ _ _ _ _ _
    refine exF2b (v := a) (u := b) rfl rfl M.eBadPieces.xf.1 M.eBadPieces.xf.2.2 fun H10 t10 => ?_
    have s10 := s9.trans t10
    have hl := t10 _ _ hl
    show tExF _ _ _ _ _ _
    refine exF1 (v := a) rfl M.eBadFunctions.xf.1 M.eBadFunctions.xf.2 fun H11 t11 => ?_
    have s11 := s10.trans t11
    have hl := t11 _ _ hl
    show tExF _ _ _ _ _ _
    refine exF1 (v := a) rfl M.eTwice.xf.1 M.eTwice.xf.2 fun H12 t12 => ?_
    have s12 := s11.trans t12
    have hl := t12 _ _ hl
    show tExF _ _ _ _ _ _
    refine exF1 (v := a) rfl M.eTooMany.xf.1 M.eTooMany.xf.2 fun H13 t13 => ?_
    have s13 := s12.trans t13
    have hl := t13 _ _ hl
    refine ⟨by show 4 ≤ sizeLine; decide, fun d13 nd13 ns13 => ?_⟩
    have r13 := same_lay (o := .lst [b, a, a, a]) nd13
    have e13 : (upd H13 d13 (.lst [b, a, a, a])) d13 = some (.lst [b, a, a, a]) := upd_same
    generalize upd H13 d13 (.lst [b, a, a, a]) = G13 at r13 e13
    have s13 := s13.trans r13
    have hl := r13 _ _ hl
    refine ⟨p9, d13, [a, a, a, b, a, a, a, a, a], [b, a, a, a], rfl, rfl, hl, e13, by show 13 ≤ sizeLine; decide, fun p13 np13 ns13 => ?_⟩
    have r13 := same_lay (o := .lst [a, a, a, b, a, a, a, a, a, b, a, a, a]) np13
    have hl : (upd G13 p13 (.lst [a, a, a, b, a, a, a, a, a, b, a, a, a])) p13 = some (.lst [a, a, a, b, a, a, a, a, a, b, a, a, a]) := upd_same
    replace hl : (upd G13 p13 (.lst ([a, a, a, b, a, a, a, a, a] ++ [b, a, a, a]))) p13 = some (.lst [a, a, a, b, a, a, a, a, a, b, a, a, a]) := hl
    replace r13 : Same G13 (upd G13 p13 (.lst ([a, a, a, b, a, a, a, a, a] ++ [b, a, a, a]))) := r13
    generalize upd G13 p13 (.lst ([a, a, a, b, a, a, a, a, a] ++ [b, a, a, a])) = H13 at r13 hl
    have s13 := s13.trans r13
    refine ⟨_, rfl, ?_⟩
    show tExF _ _ _ _ _ _
    refine exF1 (v := a) rfl M.eNoFunction.xf.1 M.eNoFunction.xf.2 fun H14 t14 => ?_
    have s14 := s13.trans t14
    have hl := t14 _ _ hl
    refine ⟨by show 1 ≤ sizeLine; decide, fun d14 nd14 ns14 => ?_⟩
    have r14 := same_lay (o := .lst [a]) nd14
    have e14 : (upd H14 d14 (.lst [a])) d14 = some (.lst [a]) := upd_same
    generalize upd H14 d14 (.lst [a]) = G14 at r14 e14
    have s14 := s14.trans r14
    have hl := r14 _ _ hl
    refine ⟨p13, d14, [a, a, a, b, a, a, a, a, a, b, a, a, a], [a], rfl, rfl, hl, e14, by show 14 ≤ sizeLine; decide, fun p14 np14 ns14 => ?_⟩
    have r14 := same_lay (o := .lst [a, a, a, b, a, a, a, a, a, b, a, a, a, a]) np14
    have hl : (upd G14 p14 (.lst [a, a, a, b, a, a, a, a, a, b, a, a, a, a])) p14 = some (.lst [a, a, a, b, a, a, a, a, a, b, a, a, a, a]) := upd_same
    replace hl : (upd G14 p14 (.lst ([a, a, a, b, a, a, a, a, a, b, a, a, a] ++ [a]))) p14 = some (.lst [a, a, a, b, a, a, a, a, a, b, a, a, a, a]) := hl
    replace r14 : Same G14 (upd G14 p14 (.lst ([a, a, a, b, a, a, a, a, a, b, a, a, a] ++ [a]))) := r14
    generalize upd G14 p14 (.lst ([a, a, a, b, a, a, a, a, a, b, a, a, a] ++ [a])) = H14 at r14 hl
    have s14 := s14.trans r14
    refine ⟨_, rfl, ?_⟩
    show tExF _ _ _ _ _ _
    refine exF1 (v := a) rfl M.eNoPlace.xf.1 M.eNoPlace.xf.2 fun H15 t15 => ?_
    have s15 := s14.trans t15
    have hl := t15 _ _ hl
    show tExF _ _ _ _ _ _
    refine exF1 (v := a) rfl M.eNoClause.xf.1 M.eNoClause.xf.2 fun H16 t16 => ?_
    have s16 := s15.trans t16
    have hl := t16 _ _ hl
    show tExF _ _ _ _ _ _
    refine exF2a (v := a) (u := b) rfl rfl M.eNoBound.xf.1 M.eNoBound.xf.2.1 n3 fun H17 t17 => ?_
    have s17 := s16.trans t17
    have hl := t17 _ _ hl
    show tExF _ _ _ _ _ _
    refine exF2b (v := a) (u := b) rfl rfl M.eNoBound.xf.1 M.eNoBound.xf.2.2 fun H18 t18 => ?_
    have s18 := s17.trans t18
    have hl := t18 _ _ hl
    refine ⟨by show 4 ≤ sizeLine; decide, fun d18 nd18 ns18 => ?_⟩
    have r18 := same_lay (o := .lst [a, a, a, b]) nd18
    have e18 : (upd H18 d18 (.lst [a, a, a, b])) d18 = some (.lst [a, a, a, b]) := upd_same
    generalize upd H18 d18 (.lst [a, a, a, b]) = G18 at r18 e18
    have s18 := s18.trans r18
    have hl := r18 _ _ hl
    refine ⟨p14, d18, [a, a, a, b, a, a, a, a, a, b, a, a, a, a], [a, a, a, b], rfl, rfl, hl, e18, by show 18 ≤ sizeLine; decide, fun p18 np18 ns18 => ?_⟩
    have r18 := same_lay (o := .lst [a, a, a, b, a, a, a, a, a, b, a, a, a, a, a, a, a, b]) np18
    have hl : (upd G18 p18 (.lst [a, a, a, b, a, a, a, a, a, b, a, a, a, a, a, a, a, b])) p18 = some (.lst [a, a, a, b, a, a, a, a, a, b, a, a, a, a, a, a, a, b]) := upd_same
    replace hl : (upd G18 p18 (.lst ([a, a, a, b, a, a, a, a, a, b, a, a, a, a] ++ [a, a, a, b]))) p18 = some (.lst [a, a, a, b, a, a, a, a, a, b, a, a, a, a, a, a, a, b]) := hl
    replace r18 : Same G18 (upd G18 p18 (.lst ([a, a, a, b, a, a, a, a, a, b, a, a, a, a] ++ [a, a, a, b]))) := r18
    generalize upd G18 p18 (.lst ([a, a, a, b, a, a, a, a, a, b, a, a, a, a] ++ [a, a, a, b])) = H18 at r18 hl
    have s18 := s18.trans r18
    refine ⟨_, rfl, ?_⟩
    show tExF _ _ _ _ _ _
    refine exF1 (v := a) rfl M.eBadName.xf.1 M.eBadName.xf.2 fun H19 t19 => ?_
    have s19 := s18.trans t19
    have hl := t19 _ _ hl
    refine ⟨by show 1 ≤ sizeLine; decide, fun d19 nd19 ns19 => ?_⟩
    have r19 := same_lay (o := .lst [a]) nd19
    have e19 : (upd H19 d19 (.lst [a])) d19 = some (.lst [a]) := upd_same
    generalize upd H19 d19 (.lst [a]) = G19 at r19 e19
    have s19 := s19.trans r19
    have hl := r19 _ _ hl
    refine ⟨p18, d19, [a, a, a, b, a, a, a, a, a, b, a, a, a, a, a, a, a, b], [a], rfl, rfl, hl, e19, by show 19 ≤ sizeLine; decide, fun p19 np19 ns19 => ?_⟩
    have r19 := same_lay (o := .lst [a, a, a, b, a, a, a, a, a, b, a, a, a, a, a, a, a, b, a]) np19
    have hl : (upd G19 p19 (.lst [a, a, a, b, a, a, a, a, a, b, a, a, a, a, a, a, a, b, a])) p19 = some (.lst [a, a, a, b, a, a, a, a, a, b, a, a, a, a, a, a, a, b, a]) := upd_same
    replace hl : (upd G19 p19 (.lst ([a, a, a, b, a, a, a, a, a, b, a, a, a, a, a, a, a, b] ++ [a]))) p19 = some (.lst [a, a, a, b, a, a, a, a, a, b, a, a, a, a, a, a, a, b, a]) := hl
    replace r19 : Same G19 (upd G19 p19 (.lst ([a, a, a, b, a, a, a, a, a, b, a, a, a, a, a, a, a, b] ++ [a]))) := r19
    generalize upd G19 p19 (.lst ([a, a, a, b, a, a, a, a, a, b, a, a, a, a, a, a, a, b] ++ [a])) = H19 at r19 hl
    have s19 := s19.trans r19
    refine ⟨_, rfl, ?_⟩
    show tExF _ _ _ _ _ _
    refine exF1 (v := a) rfl M.eUnknown.xf.1 M.eUnknown.xf.2 fun H20 t20 => ?_
    have s20 := s19.trans t20
    have hl := t20 _ _ hl
    show tExF _ _ _ _ _ _
    refine exF1 (v := a) rfl M.eKnown.xf.1 M.eKnown.xf.2 fun H21 t21 => ?_
    have s21 := s20.trans t21
    have hl := t21 _ _ hl
    show tExF _ _ _ _ _ _
    refine exF2a (v := a) (u := b) rfl rfl M.eSettled.xf.1 M.eSettled.xf.2.1 n3 fun H22 t22 => ?_
    have s22 := s21.trans t22
    have hl := t22 _ _ hl
    show tExF _ _ _ _ _ _
    refine exF2b (v := a) (u := b) rfl rfl M.eSettled.xf.1 M.eSettled.xf.2.2 fun H23 t23 => ?_
    have s23 := s22.trans t23
    have hl := t23 _ _ hl
    refine ⟨by show 4 ≤ sizeLine; decide, fun d23 nd23 ns23 => ?_⟩
    have r23 := same_lay (o := .lst [a, a, a, b]) nd23
    have e23 : (upd H23 d23 (.lst [a, a, a, b])) d23 = some (.lst [a, a, a, b]) := upd_same
    generalize upd H23 d23 (.lst [a, a, a, b]) = G23 at r23 e23
    have s23 := s23.trans r23
    have hl := r23 _ _ hl
    refine ⟨p19, d23, [a, a, a, b, a, a, a, a, a, b, a, a, a, a, a, a, a, b, a], [a, a, a, b], rfl, rfl, hl, e23, by show 23 ≤ sizeLine; decide, fun p23 np23 ns23 => ?_⟩
    have r23 := same_lay (o := .lst [a, a, a, b, a, a, a, a, a, b, a, a, a, a, a, a, a, b, a, a, a, a, b]) np23
    have hl : (upd G23 p23 (.lst [a, a, a, b, a, a, a, a, a, b, a, a, a, a, a, a, a, b, a, a, a, a, b])) p23 = some (.lst [a, a, a, b, a, a, a, a, a, b, a, a, a, a, a, a, a, b, a, a, a, a, b]) := upd_same
    replace hl : (upd G23 p23 (.lst ([a, a, a, b, a, a, a, a, a, b, a, a, a, a, a, a, a, b, a] ++ [a, a, a, b]))) p23 = some (.lst [a, a, a, b, a, a, a, a, a, b, a, a, a, a, a, a, a, b, a, a, a, a, b]) := hl
    replace r23 : Same G23 (upd G23 p23 (.lst ([a, a, a, b, a, a, a, a, a, b, a, a, a, a, a, a, a, b, a] ++ [a, a, a, b]))) := r23
    generalize upd G23 p23 (.lst ([a, a, a, b, a, a, a, a, a, b, a, a, a, a, a, a, a, b, a] ++ [a, a, a, b])) = H23 at r23 hl
    have s23 := s23.trans r23
    refine ⟨_, rfl, ?_⟩
    show tExF _ _ _ _ _ _
    refine exF2a (v := a) (u := b) rfl rfl M.eNotLet.xf.1 M.eNotLet.xf.2.1 n3 fun H24 t24 => ?_
    have s24 := s23.trans t24
    have hl := t24 _ _ hl
    refine ⟨by show 1 ≤ sizeLine; decide, fun d24 nd24 ns24 => ?_⟩
    have r24 := same_lay (o := .lst [a]) nd24
    have e24 : (upd H24 d24 (.lst [a])) d24 = some (.lst [a]) := upd_same
    generalize upd H24 d24 (.lst [a]) = G24 at r24 e24
    have s24 := s24.trans r24
    have hl := r24 _ _ hl
    refine ⟨p23, d24, [a, a, a, b, a, a, a, a, a, b, a, a, a, a, a, a, a, b, a, a, a, a, b], [a], rfl, rfl, hl, e24, by show 24 ≤ sizeLine; decide, fun p24 np24 ns24 => ?_⟩
    have r24 := same_lay (o := .lst [a, a, a, b, a, a, a, a, a, b, a, a, a, a, a, a, a, b, a, a, a, a, b, a]) np24
    have hl : (upd G24 p24 (.lst [a, a, a, b, a, a, a, a, a, b, a, a, a, a, a, a, a, b, a, a, a, a, b, a])) p24 = some (.lst [a, a, a, b, a, a, a, a, a, b, a, a, a, a, a, a, a, b, a, a, a, a, b, a]) := upd_same
    replace hl : (upd G24 p24 (.lst ([a, a, a, b, a, a, a, a, a, b, a, a, a, a, a, a, a, b, a, a, a, a, b] ++ [a]))) p24 = some (.lst [a, a, a, b, a, a, a, a, a, b, a, a, a, a, a, a, a, b, a, a, a, a, b, a]) := hl
    replace r24 : Same G24 (upd G24 p24 (.lst ([a, a, a, b, a, a, a, a, a, b, a, a, a, a, a, a, a, b, a, a, a, a, b] ++ [a]))) := r24
    generalize upd G24 p24 (.lst ([a, a, a, b, a, a, a, a, a, b, a, a, a, a, a, a, a, b, a, a, a, a, b] ++ [a])) = H24 at r24 hl
    have s24 := s24.trans r24
    refine ⟨_, rfl, ?_⟩
    show tExF _ _ _ _ _ _
    refine exF2b (v := a) (u := b) rfl rfl M.eNotLet.xf.1 M.eNotLet.xf.2.2 fun H25 t25 => ?_
    have s25 := s24.trans t25
    have hl := t25 _ _ hl
    refine ⟨by show 1 ≤ sizeLine; decide, fun d25 nd25 ns25 => ?_⟩
    have r25 := same_lay (o := .lst [b]) nd25
    have e25 : (upd H25 d25 (.lst [b])) d25 = some (.lst [b]) := upd_same
    generalize upd H25 d25 (.lst [b]) = G25 at r25 e25
    have s25 := s25.trans r25
    have hl := r25 _ _ hl
    refine ⟨p24, d25, [a, a, a, b, a, a, a, a, a, b, a, a, a, a, a, a, a, b, a, a, a, a, b, a], [b], rfl, rfl, hl, e25, by show 25 ≤ sizeLine; decide, fun p25 np25 ns25 => ?_⟩
    have r25 := same_lay (o := .lst [a, a, a, b, a, a, a, a, a, b, a, a, a, a, a, a, a, b, a, a, a, a, b, a, b]) np25
    have hl : (upd G25 p25 (.lst [a, a, a, b, a, a, a, a, a, b, a, a, a, a, a, a, a, b, a, a, a, a, b, a, b])) p25 = some (.lst [a, a, a, b, a, a, a, a, a, b, a, a, a, a, a, a, a, b, a, a, a, a, b, a, b]) := upd_same
    replace hl : (upd G25 p25 (.lst ([a, a, a, b, a, a, a, a, a, b, a, a, a, a, a, a, a, b, a, a, a, a, b, a] ++ [b]))) p25 = some (.lst [a, a, a, b, a, a, a, a, a, b, a, a, a, a, a, a, a, b, a, a, a, a, b, a, b]) := hl
    replace r25 : Same G25 (upd G25 p25 (.lst ([a, a, a, b, a, a, a, a, a, b, a, a, a, a, a, a, a, b, a, a, a, a, b, a] ++ [b]))) := r25
    generalize upd G25 p25 (.lst ([a, a, a, b, a, a, a, a, a, b, a, a, a, a, a, a, a, b, a, a, a, a, b, a] ++ [b])) = H25 at r25 hl
    have s25 := s25.trans r25
    exact ⟨_, rfl, R _ _ hl ns25 s25⟩
theorem scBN : FnScope ["_law_a", "_law_b", "_law_found"] ["_law_a", "_law_b"] (defScope sByName) := ⟨rfl, rfl, rfl, by decide +kernel, rfl, by decide +kernel, by decide +kernel⟩
set_option maxHeartbeats 4000000 in
theorem ok_BN {f : Addr} {fd : FuncData} (F : Fun K "_law_by_name" "_law_by_name" sByName f fd) (M : Evs P w K mg base C CR) : FnOk P w K mg base CX0 3 f fd ["_law_a", "_law_b"] spBy := by
  refine F.ok scBN (fun vs H Q E h => ?_) (fun cdv A outer s H vs Q E hr h => ?_)
  · obtain ⟨a, b, rfl, _⟩ := h
    rfl
  · obtain ⟨a, b, rfl, R⟩ := h
    have nd := scBN.nd
    refine ⟨_, (pss_cons (ps_set (i := 2) nd rfl (.inl rfl) (pe_lstN (pa_cons (pe_exf (pe_erK M.eBadStretch hr (by decide) (by rfl) (pk_cons (pv 0) pk_nil))) (pa_cons (pe_exf (pe_erK M.eBadText hr (by decide) (by rfl) (pk_cons (pv 0) pk_nil))) (pa_cons (pe_exf (pe_erK2 M.eBadLine hr (by decide) (by rfl) (pk_cons (pv 0) (pk_cons (pv 1) pk_nil)))) pa_nil)))))
      (pss_cons (ps_set (i := 2) nd rfl (.inl rfl) (pe_op op_catNK (pv 2) (pe_lstN (pa_cons (pe_exf (pe_erK2 M.eBadLine hr (by decide) (by rfl) (pk_cons (pv 0) (pk_cons (pv 1) pk_nil)))) (pa_cons (pe_exf (pe_erK M.eBadWord hr (by decide) (by rfl) (pk_cons (pv 0) pk_nil))) (pa_cons (pe_exf (pe_erK M.eSameFunction hr (by decide) (by rfl) (pk_cons (pv 0) pk_nil))) pa_nil))))))
      (pss_cons (ps_set (i := 2) nd rfl (.inl rfl) (pe_op op_catNK (pv 2) (pe_lstN (pa_cons (pe_exf (pe_erK M.eBadSign hr (by decide) (by rfl) (pk_cons (pv 0) pk_nil))) (pa_cons (pe_exf (pe_erK M.eBadFactor hr (by decide) (by rfl) (pk_cons (pv 0) pk_nil))) (pa_cons (pe_exf (pe_erK2 M.eBadPieces hr (by decide) (by rfl) (pk_cons (pv 0) (pk_cons (pv 1) pk_nil)))) pa_nil))))))
      (pss_cons (ps_set (i := 2) nd rfl (.inl rfl) (pe_op op_catNK (pv 2) (pe_lstN (pa_cons (pe_exf (pe_erK2 M.eBadPieces hr (by decide) (by rfl) (pk_cons (pv 0) (pk_cons (pv 1) pk_nil)))) (pa_cons (pe_exf (pe_erK M.eBadFunctions hr (by decide) (by rfl) (pk_cons (pv 0) pk_nil))) (pa_cons (pe_exf (pe_erK M.eTwice hr (by decide) (by rfl) (pk_cons (pv 0) pk_nil))) pa_nil))))))
      (pss_cons (ps_set (i := 2) nd rfl (.inl rfl) (pe_op op_catNK (pv 2) (pe_lstN (pa_cons (pe_exf (pe_erK M.eTooMany hr (by decide) (by rfl) (pk_cons (pv 0) pk_nil))) (pa_cons (pe_exf (pe_erK M.eNoFunction hr (by decide) (by rfl) (pk_cons (pv 0) pk_nil))) (pa_cons (pe_exf (pe_erK M.eNoPlace hr (by decide) (by rfl) (pk_cons (pv 0) pk_nil))) pa_nil))))))
      (pss_cons (ps_set (i := 2) nd rfl (.inl rfl) (pe_op op_catNK (pv 2) (pe_lstN (pa_cons (pe_exf (pe_erK M.eNoClause hr (by decide) (by rfl) (pk_cons (pv 0) pk_nil))) (pa_cons (pe_exf (pe_erK2 M.eNoBound hr (by decide) (by rfl) (pk_cons (pv 0) (pk_cons (pv 1) pk_nil)))) pa_nil)))))
      (pss_cons (ps_set (i := 2) nd rfl (.inl rfl) (pe_op op_catNK (pv 2) (pe_lstN (pa_cons (pe_exf (pe_erK2 M.eNoBound hr (by decide) (by rfl) (pk_cons (pv 0) (pk_cons (pv 1) pk_nil)))) pa_nil))))
      (pss_cons (ps_set (i := 2) nd rfl (.inl rfl) (pe_op op_catNK (pv 2) (pe_lstN (pa_cons (pe_exf (pe_erK M.eBadName hr (by decide) (by rfl) (pk_cons (pv 0) pk_nil))) (pa_cons (pe_exf (pe_erK M.eUnknown hr (by decide) (by rfl) (pk_cons (pv 0) pk_nil))) (pa_cons (pe_exf (pe_erK M.eKnown hr (by decide) (by rfl) (pk_cons (pv 0) pk_nil))) pa_nil))))))
      (pss_cons (ps_set (i := 2) nd rfl (.inl rfl) (pe_op op_catNK (pv 2) (pe_lstN (pa_cons (pe_exf (pe_erK2 M.eSettled hr (by decide) (by rfl) (pk_cons (pv 0) (pk_cons (pv 1) pk_nil)))) pa_nil))))
      (pss_cons (ps_set (i := 2) nd rfl (.inl rfl) (pe_op op_catNK (pv 2) (pe_lstN (pa_cons (pe_exf (pe_erK2 M.eSettled hr (by decide) (by rfl) (pk_cons (pv 0) (pk_cons (pv 1) pk_nil)))) (pa_cons (pe_exf (pe_erK2 M.eNotLet hr (by decide) (by rfl) (pk_cons (pv 0) (pk_cons (pv 1) pk_nil)))) pa_nil)))))
      (pss_cons (ps_set (i := 2) nd rfl (.inl rfl) (pe_op op_catNK (pv 2) (pe_lstN (pa_cons (pe_exf (pe_erK2 M.eNotLet hr (by decide) (by rfl) (pk_cons (pv 0) (pk_cons (pv 1) pk_nil)))) pa_nil))))
      (pss_one (ps_ret (pv 2)))))))))))))), ?_⟩
    have s0 : Same H H := Same.refl _
    show tExF _ _ _ _ _ _
    refine exF1 (v := a) rfl M.eBadStretch.xf.1 M.eBadStretch.xf.2 fun H1 t1 => ?_
    have s1 := s0.trans t1
    show tExF _ _ _ _ _ _
    refine exF1 (v := a) rfl M.eBadText.xf.1 M.eBadText.xf.2 fun H2 t2 => ?_
    have s2 := s1.trans t2
    show tExF _ _ _ _ _ _
    refine exF2a (v := a) (u := b) rfl rfl M.eBadLine.xf.1 M.eBadLine.xf.2.1 n1 fun H3 t3 => ?_
    have s3 := s2.trans t3
    refine ⟨by show 3 ≤ sizeLine; decide, fun d3 nd3 ns3 => ?_⟩
    have r3 := same_lay (o := .lst [a, a, a]) nd3
    have e3 : (upd H3 d3 (.lst [a, a, a])) d3 = some (.lst [a, a, a]) := upd_same
    generalize upd H3 d3 (.lst [a, a, a]) = G3 at r3 e3
    have s3 := s3.trans r3
    have hl := e3
    refine ⟨_, rfl, ?_⟩
    show tExF _ _ _ _ _ _
    refine exF2b (v := a) (u := b) rfl rfl M.eBadLine.xf.1 M.eBadLine.xf.2.2 fun H4 t4 => ?_
    have s4 := s3.trans t4
    have hl := t4 _ _ hl
    show tExF _ _ _ _ _ _
    refine exF1 (v := a) rfl M.eBadWord.xf.1 M.eBadWord.xf.2 fun H5 t5 => ?_
    have s5 := s4.trans t5
    have hl := t5 _ _ hl
    show tExF _ _ _ _ _ _
    refine exF1 (v := a) rfl M.eSameFunction.xf.1 M.eSameFunction.xf.2 fun H6 t6 => ?_
    have s6 := s5.trans t6
    have hl := t6 _ _ hl
    refine ⟨by show 3 ≤ sizeLine; decide, fun d6 nd6 ns6 => ?_⟩
    have r6 := same_lay (o := .lst [b, a, a]) nd6
    have e6 : (upd H6 d6 (.lst [b, a, a])) d6 = some (.lst [b, a, a]) := upd_same
    generalize upd H6 d6 (.lst [b, a, a]) = G6 at r6 e6
    have s6 := s6.trans r6
    have hl := r6 _ _ hl
    refine ⟨d3, d6, [a, a, a], [b, a, a], rfl, rfl, hl, e6, by show 6 ≤ sizeLine; decide, fun p6 np6 ns6 => ?_⟩
    have r6 := same_lay (o := .lst [a, a, a, b, a, a]) np6
    have hl : (upd G6 p6 (.lst [a, a, a, b, a, a])) p6 = some (.lst [a, a, a, b, a, a]) := upd_same
    replace hl : (upd G6 p6 (.lst ([a, a, a] ++ [b, a, a]))) p6 = some (.lst [a, a, a, b, a, a]) := hl
    replace r6 : Same G6 (upd G6 p6 (.lst ([a, a, a] ++ [b, a, a]))) := r6
    generalize upd G6 p6 (.lst ([a, a, a] ++ [b, a, a])) = H6 at r6 hl
    have s6 := s6.trans r6
    refine ⟨_, rfl, ?_⟩
    show tExF _ _ _ _ _ _
    refine exF1 (v := a) rfl M.eBadSign.xf.1 M.eBadSign.xf.2 fun H7 t7 => ?_
    have s7 := s6.trans t7
    have hl := t7 _ _ hl
    show tExF _ _ _ _ _ _
    refine exF1 (v := a) rfl M.eBadFactor.xf.1 M.eBadFactor.xf.2 fun H8 t8 => ?_
    have s8 := s7.trans t8
    have hl := t8 _ _ hl
    show tExF _ _ _ _ _ _
    refine exF2a (v := a) (u := b) rfl rfl M.eBadPieces.xf.1 M.eBadPieces.xf.2.1 n2 fun H9 t9 => ?_
    have s9 := s8.trans t9
    have hl := t9 _ _ hl
    refine ⟨by show 3 ≤ sizeLine; decide, fun d9 nd9 ns9 => ?_⟩
    have r9 := same_lay (o := .lst [a, a, a]) nd9
    have e9 : (upd H9 d9 (.lst [a, a, a])) d9 = some (.lst [a, a, a]) := upd_same
    generalize upd H9 d9 (.lst [a, a, a]) = G9 at r9 e9
    have s9 := s9.trans r9
    have hl := r9 _ _ hl
    refine ⟨p6, d9, [a, a, a, b, a, a], [a, a, a], rfl, rfl, hl, e9, by show 9 ≤ sizeLine; decide, fun p9 np9 ns9 => ?_⟩
    have r9 := same_lay (o := .lst [a, a, a, b, a, a, a, a, a]) np9
    have hl : (upd G9 p9 (.lst [a, a, a, b, a, a, a, a, a])) p9 = some (.lst [a, a, a, b, a, a, a, a, a]) := upd_same
    replace hl : (upd G9 p9 (.lst ([a, a, a, b, a, a] ++ [a, a, a]))) p9 = some (.lst [a, a, a, b, a, a, a, a, a]) := hl
    replace r9 : Same G9 (upd G9 p9 (.lst ([a, a, a, b, a, a] ++ [a, a, a]))) := r9
    generalize upd G9 p9 (.lst ([a, a, a, b, a, a] ++ [a, a, a])) = H9 at r9 hl
    have s9 := s9.trans r9
    refine ⟨_, rfl, ?_⟩
    show tExF _ _ _ _ _ _
    refine exF2b (v := a) (u := b) rfl rfl M.eBadPieces.xf.1 M.eBadPieces.xf.2.2 fun H10 t10 => ?_
    have s10 := s9.trans t10
    have hl := t10 _ _ hl
    show tExF _ _ _ _ _ _
    refine exF1 (v := a) rfl M.eBadFunctions.xf.1 M.eBadFunctions.xf.2 fun H11 t11 => ?_
    have s11 := s10.trans t11
    have hl := t11 _ _ hl
    show tExF _ _ _ _ _ _
    refine exF1 (v := a) rfl M.eTwice.xf.1 M.eTwice.xf.2 fun H12 t12 => ?_
    have s12 := s11.trans t12
    have hl := t12 _ _ hl
    refine ⟨by show 3 ≤ sizeLine; decide, fun d12 nd12 ns12 => ?_⟩
    have r12 := same_lay (o := .lst [b, a, a]) nd12
    have e12 : (upd H12 d12 (.lst [b, a, a])) d12 = some (.lst [b, a, a]) := upd_same
    generalize upd H12 d12 (.lst [b, a, a]) = G12 at r12 e12
    have s12 := s12.trans r12
    have hl := r12 _ _ hl
    refine ⟨p9, d12, [a, a, a, b, a, a, a, a, a], [b, a, a], rfl, rfl, hl, e12, by show 12 ≤ sizeLine; decide, fun p12 np12 ns12 => ?_⟩
    have r12 := same_lay (o := .lst [a, a, a, b, a, a, a, a, a, b, a, a]) np12
    have hl : (upd G12 p12 (.lst [a, a, a, b, a, a, a, a, a, b, a, a])) p12 = some (.lst [a, a, a, b, a, a, a, a, a, b, a, a]) := upd_same
    replace hl : (upd G12 p12 (.lst ([a, a, a, b, a, a, a, a, a] ++ [b, a, a]))) p12 = some (.lst [a, a, a, b, a, a, a, a, a, b, a, a]) := hl
    replace r12 : Same G12 (upd G12 p12 (.lst ([a, a, a, b, a, a, a, a, a] ++ [b, a, a]))) := r12
    generalize upd G12 p12 (.lst ([a, a, a, b, a, a, a, a, a] ++ [b, a, a])) = H12 at r12 hl
    have s12 := s12.trans r12
    refine ⟨_, rfl, ?_⟩
    show tExF _ _ _ _ _ _
    refine exF1 (v := a) rfl M.eTooMany.xf.1 M.eTooMany.xf.2 fun H13 t13 => ?_
    have s13 := s12.trans t13
    have hl := t13 _ _ hl
    show tExF _ _ _ _ _ _
    refine exF1 (v := a) rfl M.eNoFunction.xf.1 M.eNoFunction.xf.2 fun H14 t14 => ?_
    have s14 := s13.trans t14
    have hl := t14 _ _ hl
    show tExF _ _ _ _ _ _
    refine exF1 (v := a) rfl M.eNoPlace.xf.1 M.eNoPlace.xf.2 fun H15 t15 => ?_
    have s15 := s14.trans t15
    have hl := t15 _ _ hl
    refine ⟨by show 3 ≤ sizeLine; decide, fun d15 nd15 ns15 => ?_⟩
    have r15 := same_lay (o := .lst [a, a, a]) nd15
    have e15 : (upd H15 d15 (.lst [a, a, a])) d15 = some (.lst [a, a, a]) := upd_same
    generalize upd H15 d15 (.lst [a, a, a]) = G15 at r15 e15
    have s15 := s15.trans r15
    have hl := r15 _ _ hl
    refine ⟨p12, d15, [a, a, a, b, a, a, a, a, a, b, a, a], [a, a, a], rfl, rfl, hl, e15, by show 15 ≤ sizeLine; decide, fun p15 np15 ns15 => ?_⟩
    have r15 := same_lay (o := .lst [a, a, a, b, a, a, a, a, a, b, a, a, a, a, a]) np15
    have hl : (upd G15 p15 (.lst [a, a, a, b, a, a, a, a, a, b, a, a, a, a, a])) p15 = some (.lst [a, a, a, b, a, a, a, a, a, b, a, a, a, a, a]) := upd_same
    replace hl : (upd G15 p15 (.lst ([a, a, a, b, a, a, a, a, a, b, a, a] ++ [a, a, a]))) p15 = some (.lst [a, a, a, b, a, a, a, a, a, b, a, a, a, a, a]) := hl
    replace r15 : Same G15 (upd G15 p15 (.lst ([a, a, a, b, a, a, a, a, a, b, a, a] ++ [a, a, a]))) := r15
    generalize upd G15 p15 (.lst ([a, a, a, b, a, a, a, a, a, b, a, a] ++ [a, a, a])) = H15 at r15 hl
    have s15 := s15.trans r15
    refine ⟨_, rfl, ?_⟩
    show tExF _ _ _ _ _ _
    refine exF1 (v := a) rfl M.eNoClause.xf.1 M.eNoClause.xf.2 fun H16 t16 => ?_
    have s16 := s15.trans t16
    have hl := t16 _ _ hl
    show tExF _ _ _ _ _ _
    refine exF2a (v := a) (u := b) rfl rfl M.eNoBound.xf.1 M.eNoBound.xf.2.1 n3 fun H17 t17 => ?_
    have s17 := s16.trans t17
    have hl := t17 _ _ hl
    refine ⟨by show 2 ≤ sizeLine; decide, fun d17 nd17 ns17 => ?_⟩
    have r17 := same_lay (o := .lst [a, a]) nd17
    have e17 : (upd H17 d17 (.lst [a, a])) d17 = some (.lst [a, a]) := upd_same
    generalize upd H17 d17 (.lst [a, a]) = G17 at r17 e17
    have s17 := s17.trans r17
    have hl := r17 _ _ hl
    refine ⟨p15, d17, [a, a, a, b, a, a, a, a, a, b, a, a, a, a, a], [a, a], rfl, rfl, hl, e17, by show 17 ≤ sizeLine; decide, fun p17 np17 ns17 => ?_⟩
    have r17 := same_lay (o := .lst [a, a, a, b, a, a, a, a, a, b, a, a, a, a, a, a, a]) np17
    have hl : (upd G17 p17 (.lst [a, a, a, b, a, a, a, a, a, b, a, a, a, a, a, a, a])) p17 = some (.lst [a, a, a, b, a, a, a, a, a, b, a, a, a, a, a, a, a]) := upd_same
    replace hl : (upd G17 p17 (.lst ([a, a, a, b, a, a, a, a, a, b, a, a, a, a, a] ++ [a, a]))) p17 = some (.lst [a, a, a, b, a, a, a, a, a, b, a, a, a, a, a, a, a]) := hl
    replace r17 : Same G17 (upd G17 p17 (.lst ([a, a, a, b, a, a, a, a, a, b, a, a, a, a, a] ++ [a, a]))) := r17
    generalize upd G17 p17 (.lst ([a, a, a, b, a, a, a, a, a, b, a, a, a, a, a] ++ [a, a])) = H17 at r17 hl
    have s17 := s17.trans r17
    refine ⟨_, rfl, ?_⟩
    show tExF _ _ _ _ _ _
    refine exF2b (v := a) (u := b) rfl rfl M.eNoBound.xf.1 M.eNoBound.xf.2.2 fun H18 t18 => ?_
    have s18 := s17.trans t18
    have hl := t18 _ _ hl
    refine ⟨by show 1 ≤ sizeLine; decide, fun d18 nd18 ns18 => ?_⟩
    have r18 := same_lay (o := .lst [b]) nd18
    have e18 : (upd H18 d18 (.lst [b])) d18 = some (.lst [b]) := upd_same
    generalize upd H18 d18 (.lst [b]) = G18 at r18 e18
    have s18 := s18.trans r18
    have hl := r18 _ _ hl
    refine ⟨p17, d18, [a, a, a, b, a, a, a, a, a, b, a, a, a, a, a, a, a], [b], rfl, rfl, hl, e18, by show 18 ≤ sizeLine; decide, fun p18 np18 ns18 => ?_⟩
    have r18 := same_lay (o := .lst [a, a, a, b, a, a, a, a, a, b, a, a, a, a, a, a, a, b]) np18
    have hl : (upd G18 p18 (.lst [a, a, a, b, a, a, a, a, a, b, a, a, a, a, a, a, a, b])) p18 = some (.lst [a, a, a, b, a, a, a, a, a, b, a, a, a, a, a, a, a, b]) := upd_same
    replace hl : (upd G18 p18 (.lst ([a, a, a, b, a, a, a, a, a, b, a, a, a, a, a, a, a] ++ [b]))) p18 = some (.lst [a, a, a, b, a, a, a, a, a, b, a, a, a, a, a, a, a, b]) := hl
    replace r18 : Same G18 (upd G18 p18 (.lst ([a, a, a, b, a, a, a, a, a, b, a, a, a, a, a, a, a] ++ [b]))) := r18
    generalize upd G18 p18 (.lst ([a, a, a, b, a, a, a, a, a, b, a, a, a, a, a, a, a] ++ [b])) = H18 at r18 hl
    have s18 := s18.trans r18
    refine ⟨_, rfl, ?_⟩
    show tExF _ _ _ _ _ _
    refine exF1 (v := a) rfl M.eBadName.xf.1 M.eBadName.xf.2 fun H19 t19 => ?_
    have s19 := s18.trans t19
    have hl := t19 _ _ hl
    show tExF _ _ _ _ _ _
    refine exF1 (v := a) rfl M.eUnknown.xf.1 M.eUnknown.xf.2 fun H20 t20 => ?_
    have s20 := s19.trans t20
    have hl := t20 _ _ hl
    show tExF _ _ _ _ _ _
    refine exF1 (v := a) rfl M.eKnown.xf.1 M.eKnown.xf.2 fun H21 t21 => ?_
    have s21 := s20.trans t21
    have hl := t21 _ _ hl
    refine ⟨by show 3 ≤ sizeLine; decide, fun d21 nd21 ns21 => ?_⟩
    have r21 := same_lay (o := .lst [a, a, a]) nd21
    have e21 : (upd H21 d21 (.lst [a, a, a])) d21 = some (.lst [a, a, a]) := upd_same
    generalize upd H21 d21 (.lst [a, a, a]) = G21 at r21 e21
    have s21 := s21.trans r21
    have hl := r21 _ _ hl
    refine ⟨p18, d21, [a, a, a, b, a, a, a, a, a, b, a, a, a, a, a, a, a, b], [a, a, a], rfl, rfl, hl, e21, by show 21 ≤ sizeLine; decide, fun p21 np21 ns21 => ?_⟩
    have r21 := same_lay (o := .lst [a, a, a, b, a, a, a, a, a, b, a, a, a, a, a, a, a, b, a, a, a]) np21
    have hl : (upd G21 p21 (.lst [a, a, a, b, a, a, a, a, a, b, a, a, a, a, a, a, a, b, a, a, a])) p21 = some (.lst [a, a, a, b, a, a, a, a, a, b, a, a, a, a, a, a, a, b, a, a, a]) := upd_same
    replace hl : (upd G21 p21 (.lst ([a, a, a, b, a, a, a, a, a, b, a, a, a, a, a, a, a, b] ++ [a, a, a]))) p21 = some (.lst [a, a, a, b, a, a, a, a, a, b, a, a, a, a, a, a, a, b, a, a, a]) := hl
    replace r21 : Same G21 (upd G21 p21 (.lst ([a, a, a, b, a, a, a, a, a, b, a, a, a, a, a, a, a, b] ++ [a, a, a]))) := r21
    generalize upd G21 p21 (.lst ([a, a, a, b, a, a, a, a, a, b, a, a, a, a, a, a, a, b] ++ [a, a, a])) = H21 at r21 hl
    have s21 := s21.trans r21
    refine ⟨_, rfl, ?_⟩
    show tExF _ _ _ _ _ _
    refine exF2a (v := a) (u := b) rfl rfl M.eSettled.xf.1 M.eSettled.xf.2.1 n3 fun H22 t22 => ?_
    have s22 := s21.trans t22
    have hl := t22 _ _ hl
    refine ⟨by show 1 ≤ sizeLine; decide, fun d22 nd22 ns22 => ?_⟩
    have r22 := same_lay (o := .lst [a]) nd22
    have e22 : (upd H22 d22 (.lst [a])) d22 = some (.lst [a]) := upd_same
    generalize upd H22 d22 (.lst [a]) = G22 at r22 e22
    have s22 := s22.trans r22
    have hl := r22 _ _ hl
    refine ⟨p21, d22, [a, a, a, b, a, a, a, a, a, b, a, a, a, a, a, a, a, b, a, a, a], [a], rfl, rfl, hl, e22, by show 22 ≤ sizeLine; decide, fun p22 np22 ns22 => ?_⟩
    have r22 := same_lay (o := .lst [a, a, a, b, a, a, a, a, a, b, a, a, a, a, a, a, a, b, a, a, a, a]) np22
    have hl : (upd G22 p22 (.lst [a, a, a, b, a, a, a, a, a, b, a, a, a, a, a, a, a, b, a, a, a, a])) p22 = some (.lst [a, a, a, b, a, a, a, a, a, b, a, a, a, a, a, a, a, b, a, a, a, a]) := upd_same
    replace hl : (upd G22 p22 (.lst ([a, a, a, b, a, a, a, a, a, b, a, a, a, a, a, a, a, b, a, a, a] ++ [a]))) p22 = some (.lst [a, a, a, b, a, a, a, a, a, b, a, a, a, a, a, a, a, b, a, a, a, a]) := hl
    replace r22 : Same G22 (upd G22 p22 (.lst ([a, a, a, b, a, a, a, a, a, b, a, a, a, a, a, a, a, b, a, a, a] ++ [a]))) := r22
    generalize upd G22 p22 (.lst ([a, a, a, b, a, a, a, a, a, b, a, a, a, a, a, a, a, b, a, a, a] ++ [a])) = H22 at r22 hl
    have s22 := s22.trans r22
    refine ⟨_, rfl, ?_⟩
    show tExF _ _ _ _ _ _
    refine exF2b (v := a) (u := b) rfl rfl M.eSettled.xf.1 M.eSettled.xf.2.2 fun H23 t23 => ?_
    have s23 := s22.trans t23
    have hl := t23 _ _ hl
    show tExF _ _ _ _ _ _
    refine exF2a (v := a) (u := b) rfl rfl M.eNotLet.xf.1 M.eNotLet.xf.2.1 n3 fun H24 t24 => ?_
    have s24 := s23.trans t24
    have hl := t24 _ _ hl
    refine ⟨by show 2 ≤ sizeLine; decide, fun d24 nd24 ns24 => ?_⟩
    have r24 := same_lay (o := .lst [b, a]) nd24
    have e24 : (upd H24 d24 (.lst [b, a])) d24 = some (.lst [b, a]) := upd_same
    generalize upd H24 d24 (.lst [b, a]) = G24 at r24 e24
    have s24 := s24.trans r24
    have hl := r24 _ _ hl
    refine ⟨p22, d24, [a, a, a, b, a, a, a, a, a, b, a, a, a, a, a, a, a, b, a, a, a, a], [b, a], rfl, rfl, hl, e24, by show 24 ≤ sizeLine; decide, fun p24 np24 ns24 => ?_⟩
    have r24 := same_lay (o := .lst [a, a, a, b, a, a, a, a, a, b, a, a, a, a, a, a, a, b, a, a, a, a, b, a]) np24
    have hl : (upd G24 p24 (.lst [a, a, a, b, a, a, a, a, a, b, a, a, a, a, a, a, a, b, a, a, a, a, b, a])) p24 = some (.lst [a, a, a, b, a, a, a, a, a, b, a, a, a, a, a, a, a, b, a, a, a, a, b, a]) := upd_same
    replace hl : (upd G24 p24 (.lst ([a, a, a, b, a, a, a, a, a, b, a, a, a, a, a, a, a, b, a, a, a, a] ++ [b, a]))) p24 = some (.lst [a, a, a, b, a, a, a, a, a, b, a, a, a, a, a, a, a, b, a, a, a, a, b, a]) := hl
    replace r24 : Same G24 (upd G24 p24 (.lst ([a, a, a, b, a, a, a, a, a, b, a, a, a, a, a, a, a, b, a, a, a, a] ++ [b, a]))) := r24
    generalize upd G24 p24 (.lst ([a, a, a, b, a, a, a, a, a, b, a, a, a, a, a, a, a, b, a, a, a, a] ++ [b, a])) = H24 at r24 hl
    have s24 := s24.trans r24
    refine ⟨_, rfl, ?_⟩
    show tExF _ _ _ _ _ _
    refine exF2b (v := a) (u := b) rfl rfl M.eNotLet.xf.1 M.eNotLet.xf.2.2 fun H25 t25 => ?_
    have s25 := s24.trans t25
    have hl := t25 _ _ hl
    refine ⟨by show 1 ≤ sizeLine; decide, fun d25 nd25 ns25 => ?_⟩
    have r25 := same_lay (o := .lst [b]) nd25
    have e25 : (upd H25 d25 (.lst [b])) d25 = some (.lst [b]) := upd_same
    generalize upd H25 d25 (.lst [b]) = G25 at r25 e25
    have s25 := s25.trans r25
    have hl := r25 _ _ hl
    refine ⟨p24, d25, [a, a, a, b, a, a, a, a, a, b, a, a, a, a, a, a, a, b, a, a, a, a, b, a], [b], rfl, rfl, hl, e25, by show 25 ≤ sizeLine; decide, fun p25 np25 ns25 => ?_⟩
    have r25 := same_lay (o := .lst [a, a, a, b, a, a, a, a, a, b, a, a, a, a, a, a, a, b, a, a, a, a, b, a, b]) np25
    have hl : (upd G25 p25 (.lst [a, a, a, b, a, a, a, a, a, b, a, a, a, a, a, a, a, b, a, a, a, a, b, a, b])) p25 = some (.lst [a, a, a, b, a, a, a, a, a, b, a, a, a, a, a, a, a, b, a, a, a, a, b, a, b]) := upd_same
    replace hl : (upd G25 p25 (.lst ([a, a, a, b, a, a, a, a, a, b, a, a, a, a, a, a, a, b, a, a, a, a, b, a] ++ [b]))) p25 = some (.lst [a, a, a, b, a, a, a, a, a, b, a, a, a, a, a, a, a, b, a, a, a, a, b, a, b]) := hl
    replace r25 : Same G25 (upd G25 p25 (.lst ([a, a, a, b, a, a, a, a, a, b, a, a, a, a, a, a, a, b, a, a, a, a, b, a] ++ [b]))) := r25
    generalize upd G25 p25 (.lst ([a, a, a, b, a, a, a, a, a, b, a, a, a, a, a, a, a, b, a, a, a, a, b, a] ++ [b])) = H25 at r25 hl
    have s25 := s25.trans r25
    exact ⟨_, rfl, R _ _ hl ns25 s25⟩
end
end OR

namespace OR
open PySem PySem.Spec PyProof.Rows L2
theorem pmk_own0 {X : Cx} {C : Addr} {bmB : List Value} {B newId initId : String} {x : Str} {p pos : Pos} (F : ExcBaseFacts B newId initId bmB) (q : PySem.W.excIn X.K C bmB newId = true) (gC : X.mg x = some (.ref C)) (kC : PySem.W.keepIn X.K (.ref C) = true) (r : Raises X (.ref C)) (hg : Gl X x)
    (hdb : (x == ("__debug__" : Str)) = false := by decide) : PMk X (.Call (.Name x p) [] [] pos) (fun _ H Q => Q (.ref C) none H) := by
  intro pins s σ H Q I h
  refine wpAny_Call_Name_kw (ld_glob I hg gC ?_ hdb)
  refine PySem.W.callWith_K0 I.kIn kC ?_
  show wpAny _ _ (call (.ref C) []) _ _ _
  obtain ⟨bm, N, nm, qn, bs, hdct, sn, sub, ab, col, dd, k0, k1, k2, k3, k5, mN, hC, hN, hni, T⟩ := exc_obj I.kIn q
  refine wpAny_call_exc_subT F T hC hN hni (fun h' e hm => ?_) (Nat.zero_le _)
  exact mk_of I hm r h (I.hok.gone hm.new)
/-- an error without fields, as a value -/
structure Ev0 (K : PySem.W.Frag) (mg : Str → Option Value) (x : Str) (CB : Addr) : Prop where
  gB : mg x = some (.ref CB)
  ex : PySem.W.excIn K CB [.type "ValueError", .type "Exception", .type "BaseException", .type "object"] "ValueError.__new__" = true
  kC : PySem.W.keepIn K (.ref CB) = true
  exC : PySem.W.subIn K (.ref CB) (.type "BaseException") = some true
  tyC : PySem.W.typeIn K (.ref CB) = some (.type "type")
structure Ev0s (K : PySem.W.Frag) (mg : Str → Option Value) (C : Nat → Addr) : Prop where
  eOtherShape : Ev0 K mg "OtherShape" (C 20)
  eBadKind : Ev0 K mg "BadKind" (C 21)
  eImpossible : Ev0 K mg "Impossible" (C 22)
  eNoFact : Ev0 K mg "NoFact" (C 23)
  eUnfair : Ev0 K mg "Unfair" (C 24)
theorem pe_er0 {X : Cx} {x : Str} {CB : Addr} {p pos : Pos} (M : Ev0 X.K X.mg x CB) (hg : Gl X x) (hdb : (x == ("__debug__" : Str)) = false := by decide) : PE X (.Call (.Name x p) [] [] pos) (tOfMk fun _ H Q => Q (.ref CB) none H) :=
  pe_of_mk (pmk_own0 PySem.F.excBase_ValueError M.ex M.gB M.kC (raises_own M.exC M.tyC) hg hdb)
theorem exV0 {σ : L2.St} {H : Hp} {Q : VK} {CB : Addr} (q : ∀ z H', IsE CB H' z → Same H H' → Q z H') : tOfMk (fun _ H Q => Q (.ref CB) none H) σ H Q := fun a na => q _ _ ⟨a, none, rfl, upd_same, fun dd z => nomatch z⟩ (same_lay na)
@[irreducible] def tMkV (t : L2.St → Hp → XK → Prop) : TE := tOfMk t
theorem PE.mkV {X : Cx} {e : Expr} {t : L2.St → Hp → XK → Prop} (h : PE X e (tOfMk t)) : PE X e (tMkV t) := by
  unfold tMkV
  exact h
section
variable {σ : L2.St} {H : Hp} {Q : VK} {CB : Addr} {fl f1 f2 : Str} {i j : Nat} {v u : V}
theorem exW0 (q : ∀ z H', IsE CB H' z → Same H H' → Q z H') : tMkV (fun _ H Q => Q (.ref CB) none H) σ H Q := by
  unfold tMkV
  exact exV0 q
theorem exW1 (hv : σ[i]? = some (some v)) (q : ∀ z H', IsE CB H' z → Same H H' → Q z H') : tMkV (tMkO CB (spErI CB fl) [] (tCons (tVar i) tNil)) σ H Q := by
  unfold tMkV
  exact exV1 hv q
theorem exW2 (hv : σ[i]? = some (some v)) (hu : σ[j]? = some (some u)) (q : ∀ z H', IsE CB H' z → Same H H' → Q z H') : tMkV (tMkO CB (spErI2 CB f1 f2) [] (tCons (tVar i) (tCons (tVar j) tNil))) σ H Q := by
  unfold tMkV
  exact exV2 hv hu q
end
def MadeL (C : Nat → Addr) (H : Hp) (a n : Nat) (xs : List V) : Prop := All2 (fun v i => IsE (C i) H v) xs ((List.range n).drop a)
def spMade (C : Nat → Addr) : Sp := fun vs H Q _ => ∃ a b : V, vs = [a, b] ∧ ∀ l xs H', H' l = some (.lst xs) → All2 (fun v i => IsE (C i) H' v) xs (List.range 25) → Same H H' → Q (.ref l) H'
theorem All2.mpE {C : Nat → Addr} {H H' : Hp} (s : Same H H') : ∀ {xs : List V} {is : List Nat}, All2 (fun v i => IsE (C i) H v) xs is → All2 (fun v i => IsE (C i) H' v) xs is
  | _, _, .nil => .nil
  | _, _, .cons h t => .cons (h.same s) (All2.mpE s t)
theorem All2.app {α β : Type} {p : α → β → Prop} : ∀ {xs xs2 : List α} {ys ys2 : List β}, All2 p xs ys → All2 p xs2 ys2 → All2 p (xs ++ xs2) (ys ++ ys2)
  | _, _, _, _, .nil, k => k
  | _, _, _, _, .cons h t, k => .cons h (All2.app t k)
section
variable {P : Program} {w : World} {K : PySem.W.Frag} {mg : Str → Option Value} {base : Heap} {C : Nat → Addr} {CR : Addr}
theorem scMade : FnScope ["_law_a", "_law_b", "_law_found"] ["_law_a", "_law_b"] (defScope sMade) := ⟨rfl, rfl, rfl, by decide +kernel, rfl, by decide +kernel, by decide +kernel⟩
set_option maxHeartbeats 4000000 in
theorem ok_made {f : Addr} {fd : FuncData} (F : Fun K "_law_made" "_law_made" sMade f fd) (M : Evs P w K mg base C CR) (Z : Ev0s K mg C) : FnOk P w K mg base CX0 3 f fd ["_law_a", "_law_b"] (spMade C) := by
  refine F.ok scMade (fun vs H Q E h => ?_) (fun cdv A outer s H vs Q E hr h => ?_)
  · obtain ⟨a, b, rfl, _⟩ := h
    rfl
  · obtain ⟨a, b, rfl, R⟩ := h
    have nd := scMade.nd
    refine ⟨_, (pss_cons (ps_set (i := 2) nd rfl (.inl rfl) (pe_lst (pa_cons (PE.mkV (pe_er M.eBadStretch hr (by decide) (by rfl) (pa_cons (pv 0) pa_nil))) (pa_cons (PE.mkV (pe_er M.eBadText hr (by decide) (by rfl) (pa_cons (pv 0) pa_nil))) (pa_cons (PE.mkV (pe_er2 M.eBadLine hr (by decide) (by rfl) (pa_cons (pv 0) (pa_cons (pv 1) pa_nil)))) (pa_cons (PE.mkV (pe_er M.eBadWord hr (by decide) (by rfl) (pa_cons (pv 0) pa_nil))) (pa_cons (PE.mkV (pe_er M.eSameFunction hr (by decide) (by rfl) (pa_cons (pv 0) pa_nil))) (pa_cons (PE.mkV (pe_er M.eBadSign hr (by decide) (by rfl) (pa_cons (pv 0) pa_nil))) (pa_cons (PE.mkV (pe_er M.eBadFactor hr (by decide) (by rfl) (pa_cons (pv 0) pa_nil))) pa_nil)))))))))
      (pss_cons (ps_set (i := 2) nd rfl (.inl rfl) (pe_op op_cat (pv 2) (pe_lst (pa_cons (PE.mkV (pe_er2 M.eBadPieces hr (by decide) (by rfl) (pa_cons (pv 0) (pa_cons (pv 1) pa_nil)))) (pa_cons (PE.mkV (pe_er M.eBadFunctions hr (by decide) (by rfl) (pa_cons (pv 0) pa_nil))) (pa_cons (PE.mkV (pe_er M.eTwice hr (by decide) (by rfl) (pa_cons (pv 0) pa_nil))) (pa_cons (PE.mkV (pe_er M.eTooMany hr (by decide) (by rfl) (pa_cons (pv 0) pa_nil))) (pa_cons (PE.mkV (pe_er M.eNoFunction hr (by decide) (by rfl) (pa_cons (pv 0) pa_nil))) (pa_cons (PE.mkV (pe_er M.eNoPlace hr (by decide) (by rfl) (pa_cons (pv 0) pa_nil))) (pa_cons (PE.mkV (pe_er M.eNoClause hr (by decide) (by rfl) (pa_cons (pv 0) pa_nil))) pa_nil))))))))))
      (pss_cons (ps_set (i := 2) nd rfl (.inl rfl) (pe_op op_cat (pv 2) (pe_lst (pa_cons (PE.mkV (pe_er2 M.eNoBound hr (by decide) (by rfl) (pa_cons (pv 0) (pa_cons (pv 1) pa_nil)))) (pa_cons (PE.mkV (pe_er M.eBadName hr (by decide) (by rfl) (pa_cons (pv 0) pa_nil))) (pa_cons (PE.mkV (pe_er M.eUnknown hr (by decide) (by rfl) (pa_cons (pv 0) pa_nil))) (pa_cons (PE.mkV (pe_er M.eKnown hr (by decide) (by rfl) (pa_cons (pv 0) pa_nil))) (pa_cons (PE.mkV (pe_er2 M.eSettled hr (by decide) (by rfl) (pa_cons (pv 0) (pa_cons (pv 1) pa_nil)))) (pa_cons (PE.mkV (pe_er2 M.eNotLet hr (by decide) (by rfl) (pa_cons (pv 0) (pa_cons (pv 1) pa_nil)))) pa_nil)))))))))
      (pss_cons (ps_set (i := 2) nd rfl (.inl rfl) (pe_op op_cat (pv 2) (pe_lst (pa_cons (PE.mkV (pe_er0 Z.eOtherShape (by rfl))) (pa_cons (PE.mkV (pe_er0 Z.eBadKind (by rfl))) pa_nil)))))
      (pss_cons (ps_set (i := 2) nd rfl (.inl rfl) (pe_op op_cat (pv 2) (pe_lst (pa_cons (PE.mkV (pe_er0 Z.eImpossible (by rfl))) (pa_cons (PE.mkV (pe_er0 Z.eNoFact (by rfl))) (pa_cons (PE.mkV (pe_er0 Z.eUnfair (by rfl))) pa_nil))))))
      (pss_one (ps_ret (pv 2)))))))), ?_⟩
    have s0 : Same H H := Same.refl _
    show tMkV _ _ _ _
    refine exW1 (v := a) rfl fun z1 H1 i1 t1 => ?_
    have s0 := s0.trans t1
    show tMkV _ _ _ _
    refine exW1 (v := a) rfl fun z2 H2 i2 t2 => ?_
    have s0 := s0.trans t2
    have i1 := i1.same t2
    show tMkV _ _ _ _
    refine exW2 (v := a) (u := b) rfl rfl fun z3 H3 i3 t3 => ?_
    have s0 := s0.trans t3
    have i1 := i1.same t3
    have i2 := i2.same t3
    show tMkV _ _ _ _
    refine exW1 (v := a) rfl fun z4 H4 i4 t4 => ?_
    have s0 := s0.trans t4
    have i1 := i1.same t4
    have i2 := i2.same t4
    have i3 := i3.same t4
    show tMkV _ _ _ _
    refine exW1 (v := a) rfl fun z5 H5 i5 t5 => ?_
    have s0 := s0.trans t5
    have i1 := i1.same t5
    have i2 := i2.same t5
    have i3 := i3.same t5
    have i4 := i4.same t5
    show tMkV _ _ _ _
    refine exW1 (v := a) rfl fun z6 H6 i6 t6 => ?_
    have s0 := s0.trans t6
    have i1 := i1.same t6
    have i2 := i2.same t6
    have i3 := i3.same t6
    have i4 := i4.same t6
    have i5 := i5.same t6
    show tMkV _ _ _ _
    refine exW1 (v := a) rfl fun z7 H7 i7 t7 => ?_
    have s0 := s0.trans t7
    have i1 := i1.same t7
    have i2 := i2.same t7
    have i3 := i3.same t7
    have i4 := i4.same t7
    have i5 := i5.same t7
    have i6 := i6.same t7
    refine ⟨by show 7 ≤ sizeLine; decide, fun d7 nd7 => ?_⟩
    have r7 := same_lay (o := .lst [z1, z2, z3, z4, z5, z6, z7]) nd7
    have e7 : (upd H7 d7 (.lst [z1, z2, z3, z4, z5, z6, z7])) d7 = some (.lst [z1, z2, z3, z4, z5, z6, z7]) := upd_same
    generalize upd H7 d7 (.lst [z1, z2, z3, z4, z5, z6, z7]) = G7 at r7 e7
    have s0 := s0.trans r7
    have hl := e7
    have hA : All2 (fun v i => IsE (C i) G7 v) [z1, z2, z3, z4, z5, z6, z7] [0, 1, 2, 3, 4, 5, 6] := (.cons (i1.same r7) (.cons (i2.same r7) (.cons (i3.same r7) (.cons (i4.same r7) (.cons (i5.same r7) (.cons (i6.same r7) (.cons (i7.same r7) .nil)))))))
    refine ⟨_, rfl, ?_⟩
    show tMkV _ _ _ _
    refine exW2 (v := a) (u := b) rfl rfl fun z8 H8 i8 t8 => ?_
    have s0 := s0.trans t8
    have hl := t8 _ _ hl
    have hA := All2.mpE t8 hA
    show tMkV _ _ _ _
    refine exW1 (v := a) rfl fun z9 H9 i9 t9 => ?_
    have s0 := s0.trans t9
    have i8 := i8.same t9
    have hl := t9 _ _ hl
    have hA := All2.mpE t9 hA
    show tMkV _ _ _ _
    refine exW1 (v := a) rfl fun z10 H10 i10 t10 => ?_
    have s0 := s0.trans t10
    have i8 := i8.same t10
    have i9 := i9.same t10
    have hl := t10 _ _ hl
    have hA := All2.mpE t10 hA
    show tMkV _ _ _ _
    refine exW1 (v := a) rfl fun z11 H11 i11 t11 => ?_
    have s0 := s0.trans t11
    have i8 := i8.same t11
    have i9 := i9.same t11
    have i10 := i10.same t11
    have hl := t11 _ _ hl
    have hA := All2.mpE t11 hA
    show tMkV _ _ _ _
    refine exW1 (v := a) rfl fun z12 H12 i12 t12 => ?_
    have s0 := s0.trans t12
    have i8 := i8.same t12
    have i9 := i9.same t12
    have i10 := i10.same t12
    have i11 := i11.same t12
    have hl := t12 _ _ hl
    have hA := All2.mpE t12 hA
    show tMkV _ _ _ _
    refine exW1 (v := a) rfl fun z13 H13 i13 t13 => ?_
    have s0 := s0.trans t13
    have i8 := i8.same t13
    have i9 := i9.same t13
    have i10 := i10.same t13
    have i11 := i11.same t13
    have i12 := i12.same t13
    have hl := t13 _ _ hl
    have hA := All2.mpE t13 hA
    show tMkV _ _ _ _
    refine exW1 (v := a) rfl fun z14 H14 i14 t14 => ?_
    have s0 := s0.trans t14
    have i8 := i8.same t14
    have i9 := i9.same t14
    have i10 := i10.same t14
    have i11 := i11.same t14
    have i12 := i12.same t14
    have i13 := i13.same t14
    have hl := t14 _ _ hl
    have hA := All2.mpE t14 hA
    refine ⟨by show 7 ≤ sizeLine; decide, fun d14 nd14 => ?_⟩
    have r14 := same_lay (o := .lst [z8, z9, z10, z11, z12, z13, z14]) nd14
    have e14 : (upd H14 d14 (.lst [z8, z9, z10, z11, z12, z13, z14])) d14 = some (.lst [z8, z9, z10, z11, z12, z13, z14]) := upd_same
    generalize upd H14 d14 (.lst [z8, z9, z10, z11, z12, z13, z14]) = G14 at r14 e14
    have s0 := s0.trans r14
    have hl := r14 _ _ hl
    have hA := All2.app (All2.mpE r14 hA) (show All2 (fun v i => IsE (C i) G14 v) [z8, z9, z10, z11, z12, z13, z14] [7, 8, 9, 10, 11, 12, 13] from (.cons (i8.same r14) (.cons (i9.same r14) (.cons (i10.same r14) (.cons (i11.same r14) (.cons (i12.same r14) (.cons (i13.same r14) (.cons (i14.same r14) .nil))))))))
    refine ⟨d7, d14, _, [z8, z9, z10, z11, z12, z13, z14], rfl, rfl, hl, e14, by show 14 ≤ sizeLine; decide, fun p14 np14 => ?_⟩
    have r14 := same_lay (o := .lst ([z1, z2, z3, z4, z5, z6, z7] ++ [z8, z9, z10, z11, z12, z13, z14])) np14
    have hl : (upd G14 p14 (.lst ([z1, z2, z3, z4, z5, z6, z7] ++ [z8, z9, z10, z11, z12, z13, z14]))) p14 = some (.lst ([z1, z2, z3, z4, z5, z6, z7] ++ [z8, z9, z10, z11, z12, z13, z14])) := upd_same
    generalize upd G14 p14 (.lst ([z1, z2, z3, z4, z5, z6, z7] ++ [z8, z9, z10, z11, z12, z13, z14])) = H14 at r14 hl
    have s0 := s0.trans r14
    have hA := All2.mpE r14 hA
    refine ⟨_, rfl, ?_⟩
    show tMkV _ _ _ _
    refine exW2 (v := a) (u := b) rfl rfl fun z15 H15 i15 t15 => ?_
    have s0 := s0.trans t15
    have hl := t15 _ _ hl
    have hA := All2.mpE t15 hA
    show tMkV _ _ _ _
    refine exW1 (v := a) rfl fun z16 H16 i16 t16 => ?_
    have s0 := s0.trans t16
    have i15 := i15.same t16
    have hl := t16 _ _ hl
    have hA := All2.mpE t16 hA
    show tMkV _ _ _ _
    refine exW1 (v := a) rfl fun z17 H17 i17 t17 => ?_
    have s0 := s0.trans t17
    have i15 := i15.same t17
    have i16 := i16.same t17
    have hl := t17 _ _ hl
    have hA := All2.mpE t17 hA
    show tMkV _ _ _ _
    refine exW1 (v := a) rfl fun z18 H18 i18 t18 => ?_
    have s0 := s0.trans t18
    have i15 := i15.same t18
    have i16 := i16.same t18
    have i17 := i17.same t18
    have hl := t18 _ _ hl
    have hA := All2.mpE t18 hA
    show tMkV _ _ _ _
    refine exW2 (v := a) (u := b) rfl rfl fun z19 H19 i19 t19 => ?_
    have s0 := s0.trans t19
    have i15 := i15.same t19
    have i16 := i16.same t19
    have i17 := i17.same t19
    have i18 := i18.same t19
    have hl := t19 _ _ hl
    have hA := All2.mpE t19 hA
    show tMkV _ _ _ _
    refine exW2 (v := a) (u := b) rfl rfl fun z20 H20 i20 t20 => ?_
    have s0 := s0.trans t20
    have i15 := i15.same t20
    have i16 := i16.same t20
    have i17 := i17.same t20
    have i18 := i18.same t20
    have i19 := i19.same t20
    have hl := t20 _ _ hl
    have hA := All2.mpE t20 hA
    refine ⟨by show 6 ≤ sizeLine; decide, fun d20 nd20 => ?_⟩
    have r20 := same_lay (o := .lst [z15, z16, z17, z18, z19, z20]) nd20
    have e20 : (upd H20 d20 (.lst [z15, z16, z17, z18, z19, z20])) d20 = some (.lst [z15, z16, z17, z18, z19, z20]) := upd_same
    generalize upd H20 d20 (.lst [z15, z16, z17, z18, z19, z20]) = G20 at r20 e20
    have s0 := s0.trans r20
    have hl := r20 _ _ hl
    have hA := All2.app (All2.mpE r20 hA) (show All2 (fun v i => IsE (C i) G20 v) [z15, z16, z17, z18, z19, z20] [14, 15, 16, 17, 18, 19] from (.cons (i15.same r20) (.cons (i16.same r20) (.cons (i17.same r20) (.cons (i18.same r20) (.cons (i19.same r20) (.cons (i20.same r20) .nil)))))))
    refine ⟨p14, d20, _, [z15, z16, z17, z18, z19, z20], rfl, rfl, hl, e20, by show 20 ≤ sizeLine; decide, fun p20 np20 => ?_⟩
    have r20 := same_lay (o := .lst (([z1, z2, z3, z4, z5, z6, z7] ++ [z8, z9, z10, z11, z12, z13, z14]) ++ [z15, z16, z17, z18, z19, z20])) np20
    have hl : (upd G20 p20 (.lst (([z1, z2, z3, z4, z5, z6, z7] ++ [z8, z9, z10, z11, z12, z13, z14]) ++ [z15, z16, z17, z18, z19, z20]))) p20 = some (.lst (([z1, z2, z3, z4, z5, z6, z7] ++ [z8, z9, z10, z11, z12, z13, z14]) ++ [z15, z16, z17, z18, z19, z20])) := upd_same
    generalize upd G20 p20 (.lst (([z1, z2, z3, z4, z5, z6, z7] ++ [z8, z9, z10, z11, z12, z13, z14]) ++ [z15, z16, z17, z18, z19, z20])) = H20 at r20 hl
    have s0 := s0.trans r20
    have hA := All2.mpE r20 hA
    refine ⟨_, rfl, ?_⟩
    show tMkV _ _ _ _
    refine exW0 fun z21 H21 i21 t21 => ?_
    have s0 := s0.trans t21
    have hl := t21 _ _ hl
    have hA := All2.mpE t21 hA
    show tMkV _ _ _ _
    refine exW0 fun z22 H22 i22 t22 => ?_
    have s0 := s0.trans t22
    have i21 := i21.same t22
    have hl := t22 _ _ hl
    have hA := All2.mpE t22 hA
    refine ⟨by show 2 ≤ sizeLine; decide, fun d22 nd22 => ?_⟩
    have r22 := same_lay (o := .lst [z21, z22]) nd22
    have e22 : (upd H22 d22 (.lst [z21, z22])) d22 = some (.lst [z21, z22]) := upd_same
    generalize upd H22 d22 (.lst [z21, z22]) = G22 at r22 e22
    have s0 := s0.trans r22
    have hl := r22 _ _ hl
    have hA := All2.app (All2.mpE r22 hA) (show All2 (fun v i => IsE (C i) G22 v) [z21, z22] [20, 21] from (.cons (i21.same r22) (.cons (i22.same r22) .nil)))
    refine ⟨p20, d22, _, [z21, z22], rfl, rfl, hl, e22, by show 22 ≤ sizeLine; decide, fun p22 np22 => ?_⟩
    have r22 := same_lay (o := .lst ((([z1, z2, z3, z4, z5, z6, z7] ++ [z8, z9, z10, z11, z12, z13, z14]) ++ [z15, z16, z17, z18, z19, z20]) ++ [z21, z22])) np22
    have hl : (upd G22 p22 (.lst ((([z1, z2, z3, z4, z5, z6, z7] ++ [z8, z9, z10, z11, z12, z13, z14]) ++ [z15, z16, z17, z18, z19, z20]) ++ [z21, z22]))) p22 = some (.lst ((([z1, z2, z3, z4, z5, z6, z7] ++ [z8, z9, z10, z11, z12, z13, z14]) ++ [z15, z16, z17, z18, z19, z20]) ++ [z21, z22])) := upd_same
    generalize upd G22 p22 (.lst ((([z1, z2, z3, z4, z5, z6, z7] ++ [z8, z9, z10, z11, z12, z13, z14]) ++ [z15, z16, z17, z18, z19, z20]) ++ [z21, z22])) = H22 at r22 hl
    have s0 := s0.trans r22
    have hA := All2.mpE r22 hA
    refine ⟨_, rfl, ?_⟩
    show tMkV _ _ _ _
    refine exW0 fun z23 H23 i23 t23 => ?_
    have s0 := s0.trans t23
    have hl := t23 _ _ hl
    have hA := All2.mpE t23 hA
    show tMkV _ _ _ _
    refine exW0 fun z24 H24 i24 t24 => ?_
    have s0 := s0.trans t24
    have i23 := i23.same t24
    have hl := t24 _ _ hl
    have hA := All2.mpE t24 hA
    show tMkV _ _ _ _
    refine exW0 fun z25 H25 i25 t25 => ?_
    have s0 := s0.trans t25
    have i23 := i23.same t25
    have i24 := i24.same t25
    have hl := t25 _ _ hl
    have hA := All2.mpE t25 hA
    refine ⟨by show 3 ≤ sizeLine; decide, fun d25 nd25 => ?_⟩
    have r25 := same_lay (o := .lst [z23, z24, z25]) nd25
    have e25 : (upd H25 d25 (.lst [z23, z24, z25])) d25 = some (.lst [z23, z24, z25]) := upd_same
    generalize upd H25 d25 (.lst [z23, z24, z25]) = G25 at r25 e25
    have s0 := s0.trans r25
    have hl := r25 _ _ hl
    have hA := All2.app (All2.mpE r25 hA) (show All2 (fun v i => IsE (C i) G25 v) [z23, z24, z25] [22, 23, 24] from (.cons (i23.same r25) (.cons (i24.same r25) (.cons (i25.same r25) .nil))))
    refine ⟨p22, d25, _, [z23, z24, z25], rfl, rfl, hl, e25, by show 25 ≤ sizeLine; decide, fun p25 np25 => ?_⟩
    have r25 := same_lay (o := .lst (((([z1, z2, z3, z4, z5, z6, z7] ++ [z8, z9, z10, z11, z12, z13, z14]) ++ [z15, z16, z17, z18, z19, z20]) ++ [z21, z22]) ++ [z23, z24, z25])) np25
    have hl : (upd G25 p25 (.lst (((([z1, z2, z3, z4, z5, z6, z7] ++ [z8, z9, z10, z11, z12, z13, z14]) ++ [z15, z16, z17, z18, z19, z20]) ++ [z21, z22]) ++ [z23, z24, z25]))) p25 = some (.lst (((([z1, z2, z3, z4, z5, z6, z7] ++ [z8, z9, z10, z11, z12, z13, z14]) ++ [z15, z16, z17, z18, z19, z20]) ++ [z21, z22]) ++ [z23, z24, z25])) := upd_same
    generalize upd G25 p25 (.lst (((([z1, z2, z3, z4, z5, z6, z7] ++ [z8, z9, z10, z11, z12, z13, z14]) ++ [z15, z16, z17, z18, z19, z20]) ++ [z21, z22]) ++ [z23, z24, z25])) = H25 at r25 hl
    have s0 := s0.trans r25
    have hA := All2.mpE r25 hA
    exact ⟨_, rfl, R _ _ _ hl hA s0⟩
end
end OR

namespace OR
open PySem PySem.Spec PyProof.Rows L2
theorem frmS {p : Addr} {H H' : Hp} (s : Same H H') : Frm p H H' := ⟨fun b o e _ => s b o e, fun c ⟨k, l, e⟩ => ⟨k, l, s _ _ e⟩⟩
theorem Pen.same' {H H' : Hp} {p : Addr} {n : Nat} (P : Pen H p n) (s : Same H H') : Pen H' p n := by
  obtain ⟨c, ns, k, l, h1, h2, h⟩ := P
  exact ⟨c, ns, k, l, s _ _ h1, s _ _ h2, h⟩
theorem Da.frm {H H' : Hp} {v : V} {d : PyData} {p : Addr} {n : Nat} (h : Da H v d) (F : Frm p H H') (P : Pen H p n) : Da H' v d := by
  obtain ⟨c, ns, k, l, hp, _⟩ := P
  have ne : ∀ {t : Addr} {o : HO}, H t = some o → o ≠ .dK (penK c k l) → t ≠ p := fun e h => ne_of e hp h
  cases h with
  | non => exact .non
  | bl b => exact .bl b
  | int i h => exact .int i h
  | str x h k => exact .str x h k
  | tup0 h => exact .tup0 (F _ _ h (ne h (by intro z; cases z)))
  | tup2 h => exact .tup2 (F _ _ h (ne h (by intro z; cases z)))
  | lst1 h m => exact .lst1 (F _ _ h (ne h (by intro z; cases z))) m
  | dic h => exact .dic (F _ _ h (ne h (by intro z; cases z)))
def spAny : Sp := fun vs H Q _ => ∃ (p : Addr) (n : Nat), vs = [.ref p] ∧ Pen H p n ∧ n ≤ 700000 ∧ ∀ v d H', Da H' v d → Pen H' p (n + 10) → Frm p H H' → Q v H'
section
variable {P : Program} {w : World} {K : PySem.W.Frag} {mg : Str → Option Value} {base : Heap}
theorem scAny : FnScope ["_law_pen_here"] ["_law_pen_here"] (defScope sAny) := ⟨rfl, rfl, rfl, by decide +kernel, rfl, by decide +kernel, by decide +kernel⟩
theorem ok_any {f : Addr} {fd : FuncData} (F : Fun K "_law_any" "_law_any" sAny f fd) (PI : Cl P w K mg base 2 "_law_pick" ["_law_pen_here", "_law_items"] (spPick K)) (WH : Cl P w K mg base 3 "_law_whole" ["_law_pen_here"] spWhole) : FnOk P w K mg base CX0 4 f fd ["_law_pen_here"] spAny := by
  refine F.ok scAny (fun vs H Q E h => ?_) (fun cdv A outer s H vs Q E hr h => ?_)
  · obtain ⟨p, n, rfl, _⟩ := h
    rfl
  · obtain ⟨p, n, rfl, hP, hn, R⟩ := h
    have nd := scAny.nd
    refine ⟨_, pss_one (ps_ret (pe_cl PI hr (by decide) (by rfl) (pa_cons (pv 0) (pa_cons (pe_lst (pa_cons pe_non (pa_cons pe_bl (pa_cons pe_int (pa_cons pe_int (pa_cons (pe_un un_neg pe_int) (pa_cons (pe_op op_pow pe_int pe_int) (pa_cons pe_str (pa_cons pe_str (pa_cons (pe_tup pa_nil) (pa_cons (pe_tup (pa_cons pe_int (pa_cons pe_int pa_nil))) (pa_cons (pe_lstN (pa_cons pe_int pa_nil)) (pa_cons pe_dnewK (pa_cons (pe_cl WH hr (by decide) (by rfl) (pa_cons (pv 0) pa_nil)) pa_nil)))))))))))))) pa_nil)))), ?_⟩
    have hpow : CPow 10 30 := ⟨by decide, by decide, by decide⟩
    refine ⟨_, rfl, 1, rfl, _, _, rfl, rfl, hpow, by show 0 ≤ sizeLine; decide, fun t0 nt0 => ?_⟩
    have s1 := same_lay (o := .tup []) nt0
    have e0 : (upd H t0 (.tup [])) t0 = some (.tup []) := upd_same
    generalize upd H t0 (.tup []) = H1 at s1 e0
    refine ⟨by show 2 ≤ sizeLine; decide, fun t1 nt1 => ?_⟩
    have s2 := same_lay (o := .tup [.int 1, .int 2]) nt1
    have e1 : (upd H1 t1 (.tup [.int 1, .int 2])) t1 = some (.tup [.int 1, .int 2]) := upd_same
    generalize upd H1 t1 (.tup [.int 1, .int 2]) = H2 at s2 e1
    refine ⟨by show 1 ≤ sizeLine; decide, fun t2 nt2 ns2 => ?_⟩
    have s3 := same_lay (o := .lst [.int 3]) nt2
    have e2 : (upd H2 t2 (.lst [.int 3])) t2 = some (.lst [.int 3]) := upd_same
    generalize upd H2 t2 (.lst [.int 3]) = H3 at s3 e2
    refine fun t3 nt3 => ?_
    have s4 := same_lay (o := .dK []) nt3
    have e3 : (upd H3 t3 (.dK [])) t3 = some (.dK []) := upd_same
    generalize upd H3 t3 (.dK []) = H4 at s4 e3
    have s14 := (s1.trans s2).trans (s3.trans s4)
    have P4 := hP.same' s14
    refine ⟨_, rfl, p, n, rfl, P4, by omega, fun b H5 b0 b1 P5 F5 => ⟨by show 13 ≤ sizeLine; decide, fun l nl => ?_⟩⟩
    have a0 : Da H4 (.ref t0) (.tuple []) := .tup0 ((s2.trans (s3.trans s4)) _ _ e0)
    have a1 : Da H4 (.ref t1) (.tuple [.int 1, .int 2]) := .tup2 ((s3.trans s4) _ _ e1)
    have a2 : Da H4 (.ref t2) (.list [.int 3]) := .lst1 (s4 _ _ e2) ns2
    have a3 : Da H4 (.ref t3) (.dict []) := .dic e3
    refine ⟨p, l, _, _, rfl, .inl (.inl upd_same), by show 0 < 13; decide, by show 13 ≤ 1000; decide, P5.new nl, by omega, fun v H6 hv P6 F6 => ?_⟩
    have F46 := (F5.trans (Frm.new nl)).trans F6
    have FT := (frmS (p := p) s14).trans F46
    have fin : ∀ v d, Da H4 v d → Q v H6 := fun v d h => R v d H6 (h.frm F46 P4) (P6.mono (by omega)) FT
    simp only [List.mem_cons, List.not_mem_nil, or_false] at hv
    rcases hv with e | e | e | e | e | e | e | e | e | e | e | e | e <;> subst e
    · exact fin _ _ .non
    · exact fin _ _ (.bl _)
    · exact fin _ _ (.int _ (by decide))
    · exact fin _ _ (.int _ (by decide))
    · exact fin _ _ (.int _ (by decide))
    · exact fin _ _ (.int _ (by decide))
    · exact fin _ _ (.str _ (by decide) (by intro c hc; revert c; decide))
    · exact fin _ _ (.str _ (by decide) (by intro c hc; revert c; decide))
    · exact fin _ _ a0
    · exact fin _ _ a1
    · exact fin _ _ a2
    · exact fin _ _ a3
    · exact fin _ _ (.int _ (by omega))
end
end OR

namespace OR
open PySem PySem.Spec PyProof.Rows L2
theorem da_ok {H : Hp} {v : V} {d : PyData} (h : Da H v d) : d.showable = true ∧ d.depth ≤ 1 ∧ d.leavesShort 40 = true ∧ d.weight ≤ 400 := by
  cases h with
  | non => exact ⟨rfl, by decide, rfl, by decide⟩
  | bl b => exact ⟨rfl, by show 0 ≤ 1; decide, rfl, by unfold PyData.weight; omega⟩
  | int i h =>
    have l2 : i.natAbs.log2 < 104 := PySem.Flt.log2_lt_of (by decide) (Nat.lt_of_le_of_lt h (by decide))
    refine ⟨decide_eq_true (Nat.lt_of_lt_of_le l2 (by decide)), by show 0 ≤ 1; decide, decide_eq_true ?_, ?_⟩
    · have e := int_text_length_le10 (k := 32) (by decide) (Nat.lt_of_le_of_lt h (by decide))
      show (Str.ofString (toString i)).length ≤ 40
      rw [PySem.ofString_length]
      omega
    · unfold PyData.weight
      split <;> omega
  | str x h k =>
    refine ⟨rfl, by show 0 ≤ 1; decide, ?_, ?_⟩
    · unfold PyData.leavesShort
      rw [List.all_eq_true]
      intro c hc
      exact decide_eq_true (Nat.lt_trans (k c hc) (by decide))
    · show x.length ≤ 400
      omega
  | tup0 _ => exact ⟨rfl, by decide, rfl, by decide⟩
  | tup2 _ => exact ⟨by decide, by decide, by decide +kernel, by decide⟩
  | lst1 _ _ => exact ⟨by decide, by decide, by decide +kernel, by decide⟩
  | dic _ => exact ⟨rfl, by decide, rfl, by decide⟩
theorem shownAll_ok : ∀ {ds : List PyData} {n : Nat}, ds.length ≤ n → (∀ d ∈ ds, d.showable = true ∧ d.depth ≤ 1 ∧ d.leavesShort 40 = true ∧ d.weight ≤ 400) → PyData.showableAll ds = true ∧ PyData.depthAll ds ≤ 1 ∧ PyData.leavesShortAll 40 ds = true ∧ PyData.weightAll ds ≤ 401 * n
  | [], n, _, _ => ⟨rfl, by show 0 ≤ 1; decide, rfl, Nat.zero_le _⟩
  | d :: ds, 0, h, _ => by simp at h
  | d :: ds, n + 1, h, k => by
    obtain ⟨a, b, c, e⟩ := k d List.mem_cons_self
    obtain ⟨a2, b2, c2, e2⟩ := shownAll_ok (n := n) (by simpa using h) fun x hx => k x (List.mem_cons_of_mem _ hx)
    refine ⟨?_, ?_, ?_, ?_⟩
    · show (d.showable && PyData.showableAll ds) = true
      rw [a, a2]; rfl
    · show max d.depth (PyData.depthAll ds) ≤ 1
      omega
    · show (d.leavesShort 40 && PyData.leavesShortAll 40 ds) = true
      rw [c, c2]; rfl
    · show d.weight + 1 + PyData.weightAll ds ≤ _
      omega
/-- the text of a list of at most 25 drawn values -/
theorem list_ok {ds : List PyData} (h : ds.length ≤ 25) (k : ∀ d ∈ ds, d.showable = true ∧ d.depth ≤ 1 ∧ d.leavesShort 40 = true ∧ d.weight ≤ 400) : (PyData.list ds).showable = true ∧ (PyData.list ds).depth ≤ 60 ∧ (PyData.list ds).shown.length ≤ sizeLine := by
  obtain ⟨a, b, c, e⟩ := shownAll_ok h k
  refine ⟨a, by show PyData.depthAll ds + 1 ≤ 60; omega, ?_⟩
  have := PyData.shown_le 40 (by decide) (PyData.list ds) c
  have w : (PyData.list ds).weight ≤ 401 * 25 := e
  exact Nat.le_trans (show _ ≤ 1000000 by omega) (by decide)
def patD (a b : PyData) : List PyData := [a, a, a, b, a, a, a, a, a, b, a, a, a, a, a, a, a, b, a, a, a, a, b, a, b]
theorem pat_da {H : Hp} {a b : V} {da db : PyData} (ha : Da H a da) (hb : Da H b db) : All2 (Da H) (patE a b) (patD da db) :=
  .cons ha (.cons ha (.cons ha (.cons hb (.cons ha (.cons ha (.cons ha (.cons ha (.cons ha (.cons hb (.cons ha (.cons ha (.cons ha (.cons ha (.cons ha (.cons ha (.cons ha (.cons hb (.cons ha (.cons ha (.cons ha (.cons ha (.cons hb (.cons ha (.cons hb .nil))))))))))))))))))))))))
theorem pat_ok {H : Hp} {a b : V} {da db : PyData} (ha : Da H a da) (hb : Da H b db) : (PyData.list (patD da db)).showable = true ∧ (PyData.list (patD da db)).depth ≤ 60 ∧ (PyData.list (patD da db)).shown.length ≤ sizeLine := list_ok (by show 25 ≤ 25; decide) fun d hd => by
  have : d = da ∨ d = db := by
    unfold patD at hd
    simp only [List.mem_cons, List.not_mem_nil, or_false] at hd
    rcases hd with e | e | e | e | e | e | e | e | e | e | e | e | e | e | e | e | e | e | e | e | e | e | e | e | e <;> simp [e]
  rcases this with rfl | rfl
  · exact da_ok ha
  · exact da_ok hb
end OR

namespace OR
open PySem PySem.Spec PyProof.Rows L2
/-- the nine classes that are asked for -/
def dk : Nat → Nat
  | 0 => 0 | 1 => 1 | 2 => 11 | 3 => 12 | 4 => 20 | 5 => 22 | 6 => 10 | 7 => 18 | _ => 19
structure KiT (K : PySem.W.Frag) (mg : Str → Option Value) (C : Nat → Addr) (CR : Addr) : Prop where
  xc : ∀ i, i < 25 → ExcC K (C i)
  kit : ∀ i, i < 25 → ∀ k, k < 9 → PySem.W.kitOne K (.ref (C i)) (.ref (C (dk k))) = some (decide (i = dk k))
  kR : ∀ i, i < 25 → PySem.W.kitOne K (.ref (C i)) (.ref CR) = some true
  kV : ∀ i, i < 25 → PySem.W.kitOne K (.ref (C i)) (.type "ValueError") = some true
  gR : mg "RangesError" = some (.ref CR)
  gV : mg "ValueError" = none
  g0 : mg "BadStretch" = some (.ref (C 0))
  g1 : mg "BadText" = some (.ref (C 1))
  g2 : mg "NoFunction" = some (.ref (C 11))
  g3 : mg "NoPlace" = some (.ref (C 12))
  g4 : mg "OtherShape" = some (.ref (C 20))
  g5 : mg "Impossible" = some (.ref (C 22))
  g6 : mg "TooMany" = some (.ref (C 10))
  g7 : mg "Settled" = some (.ref (C 18))
  g8 : mg "NotLet" = some (.ref (C 19))
theorem same_upd {H H' : Hp} {b : Addr} {u : HO} (s : Same H H') (h : H b = none) : Same H (upd H' b u) := fun c v e => by rw [upd_ne (ne_of_none e h)]; exact s c v e
theorem iteA {p q : Prop} {b : Bool} (h : b = true) (x : p) : if b = true then p else q := by rw [if_pos h]; exact x
theorem iteB {p q : Prop} {b : Bool} (h : b = false) (x : q) : if b = true then p else q := by rw [h, if_neg Bool.false_ne_true]; exact x
def kb (i : Nat) : List Bool := [decide (i = 0), decide (i = 1), decide (i = 11), decide (i = 12), decide (i = 20), decide (i = 22), decide (i = 10), decide (i = 18), decide (i = 19)]
def kd (i : Nat) : List Int := ((List.range 9).filter fun k => decide (i = dk k)).map fun k : Nat => (k : Int)
def spKinds (C : Nat → Addr) : Sp := fun vs H Q _ => ∃ (v : V) (i : Nat), vs = [v] ∧ i < 25 ∧ IsE (C i) H v ∧ ∀ l H', H l = none → H' l = some (.lst ((kd i).map V.int)) → Same H H' → Q (.ref l) H'
@[irreducible] def rIsW (K : PySem.W.Frag) : List V → Hp → VK → Prop := rIsV K
theorem isV {K : PySem.W.Frag} {H : Hp} {v : V} {CB D : Addr} {b : Bool} {Q : VK} (h : IsE CB H v) (x : ExcC K CB) (k : PySem.W.kitOne K (.ref CB) (.ref D) = some b) (q : Q (.bl b) H) : rIsW K [v, .ref D] H Q := by
  unfold rIsW
  obtain ⟨e, d, rfl, he, hd⟩ := h
  exact ⟨e, CB, d, .ref D, .ref D, b, rfl, he, hd, x, (fun _ h => h), k, q⟩
theorem kd_step (i n : Nat) (h : n < 9) : ((List.range (n + 1)).filter fun k => decide (i = dk k)).map (fun k : Nat => (k : Int)) = (((List.range n).filter fun k => decide (i = dk k)).map fun k : Nat => (k : Int)) ++ (if decide (i = dk n) = true then [(n : Int)] else []) := by
  rw [List.range_succ, List.filter_append, List.map_append]
  congr 1
  by_cases c : i = dk n
  · rw [if_pos (by simpa using c), List.filter_cons_of_pos (by simpa using c)]; rfl
  · rw [if_neg (by simpa using c), List.filter_cons_of_neg (by simpa using c)]; rfl
section
variable {P : Program} {w : World} {K : PySem.W.Frag} {mg : Str → Option Value} {base : Heap} {C : Nat → Addr} {CR : Addr}
theorem ix_listK {X : Cx} (K : PySem.W.Frag) (hK : X.K = K) : IxR X (rIxL K) := by subst hK; exact ix_list
theorem call_isVK {X : Cx} (K : PySem.W.Frag) (hK : X.K = K) : CallR X (.builtin "isinstance") (rIsW K) := by
  subst hK
  unfold rIsW
  exact call_isV
theorem bt_isiV : bootBuiltins ("isinstance" : Str) = some (.builtin "isinstance") := by decide +kernel
theorem scKinds : FnScope ["_law_error", "_law_found", "_law_k"] ["_law_error"] (defScope sKinds) := ⟨rfl, rfl, rfl, by decide +kernel, rfl, by decide +kernel, by decide +kernel⟩
set_option maxHeartbeats 2000000 in
theorem ok_kinds {f : Addr} {fd : FuncData} (F : Fun K "_law_kinds" "_law_kinds" sKinds f fd) (zI : mg "isinstance" = none) (zR : mg "range" = none) (zL : mg "len" = none) (T : KiT K mg C CR) : FnOk P w K mg base CX0 1 f fd ["_law_error"] (spKinds C) := by
  refine F.ok scKinds (fun vs H Q E h => ?_) (fun cdv A outer s H vs Q E hr h => ?_)
  · obtain ⟨v, i, rfl, _⟩ := h
    rfl
  · obtain ⟨v, i, rfl, hi, hv, R⟩ := h
    have nd := scKinds.nd
    refine ⟨_, pss_cons (ps_set (i := 1) nd rfl (.inr rfl) (pe_lst (pa_cons (pe_callB (call_isVK K rfl) (by rfl) zI bt_isiV (pa_cons (pv 0) (pa_cons (pe_glob (v := .ref (C 0)) (by rfl) T.g0 rfl) pa_nil))) (pa_cons (pe_callB (call_isVK K rfl) (by rfl) zI bt_isiV (pa_cons (pv 0) (pa_cons (pe_glob (v := .ref (C 1)) (by rfl) T.g1 rfl) pa_nil))) (pa_cons (pe_callB (call_isVK K rfl) (by rfl) zI bt_isiV (pa_cons (pv 0) (pa_cons (pe_glob (v := .ref (C 11)) (by rfl) T.g2 rfl) pa_nil))) pa_nil)))))
      (pss_cons (ps_set (i := 1) nd rfl (.inr rfl) (pe_op op_cat (pv 1) (pe_lst (pa_cons (pe_callB (call_isVK K rfl) (by rfl) zI bt_isiV (pa_cons (pv 0) (pa_cons (pe_glob (v := .ref (C 12)) (by rfl) T.g3 rfl) pa_nil))) (pa_cons (pe_callB (call_isVK K rfl) (by rfl) zI bt_isiV (pa_cons (pv 0) (pa_cons (pe_glob (v := .ref (C 20)) (by rfl) T.g4 rfl) pa_nil))) (pa_cons (pe_callB (call_isVK K rfl) (by rfl) zI bt_isiV (pa_cons (pv 0) (pa_cons (pe_glob (v := .ref (C 22)) (by rfl) T.g5 rfl) pa_nil))) pa_nil))))))
      (pss_cons (ps_set (i := 1) nd rfl (.inr rfl) (pe_op op_cat (pv 1) (pe_lst (pa_cons (pe_callB (call_isVK K rfl) (by rfl) zI bt_isiV (pa_cons (pv 0) (pa_cons (pe_glob (v := .ref (C 10)) (by rfl) T.g6 rfl) pa_nil))) (pa_cons (pe_callB (call_isVK K rfl) (by rfl) zI bt_isiV (pa_cons (pv 0) (pa_cons (pe_glob (v := .ref (C 18)) (by rfl) T.g7 rfl) pa_nil))) (pa_cons (pe_callB (call_isVK K rfl) (by rfl) zI bt_isiV (pa_cons (pv 0) (pa_cons (pe_glob (v := .ref (C 19)) (by rfl) T.g8 rfl) pa_nil))) pa_nil))))))
      (pss_one (ps_ret (pe_lc (own := [("_law_k", 2)]) (g := (gName 2)) rfl nd (pi_range1 (by rfl) zR (pa_cons (pe_callB call_len_seq (by rfl) zL PySem.boot_len (pa_cons (pv 1) pa_nil)) pa_nil)) (blkOk_by (N := ["_law_error", "_law_found", "_law_k"]) (sc := defScope sKinds) (by decide +kernel)) (fun _ _ _ _ _ => pg_name (i := 2) nd rfl (.inl rfl)) (fun _ _ _ _ _ => pts_one (pt_val (pe_ix (ix_listK K rfl) (pv 1) (pv 2) (fun _ _ => rfl)))) (fun _ _ _ _ _ => (pv 2))))))), ?_⟩
    have xc := T.xc i hi
    refine ⟨_, rfl, isV hv xc (T.kit i hi 0 (by decide)) ⟨_, rfl, isV hv xc (T.kit i hi 1 (by decide)) ⟨_, rfl, isV hv xc (T.kit i hi 2 (by decide)) ⟨by show 3 ≤ sizeLine; decide, fun l1 nl1 => ?_⟩⟩⟩⟩
    have s1 := same_lay (o := .lst [.bl (decide (i = dk 0)), .bl (decide (i = dk 1)), .bl (decide (i = dk 2))]) nl1
    have hl1 : (upd H l1 (.lst [.bl (decide (i = dk 0)), .bl (decide (i = dk 1)), .bl (decide (i = dk 2))])) l1 = some (.lst [.bl (decide (i = dk 0)), .bl (decide (i = dk 1)), .bl (decide (i = dk 2))]) := upd_same
    generalize upd H l1 (.lst [.bl (decide (i = dk 0)), .bl (decide (i = dk 1)), .bl (decide (i = dk 2))]) = H1 at s1 hl1
    have hv1 := hv.same s1
    refine ⟨_, rfl, _, rfl, isV hv1 xc (T.kit i hi 3 (by decide)) ⟨_, rfl, isV hv1 xc (T.kit i hi 4 (by decide)) ⟨_, rfl, isV hv1 xc (T.kit i hi 5 (by decide)) ⟨by show 3 ≤ sizeLine; decide, fun l2 nl2 => ?_⟩⟩⟩⟩
    have s2 := same_lay (o := .lst [.bl (decide (i = dk 3)), .bl (decide (i = dk 4)), .bl (decide (i = dk 5))]) nl2
    have hl2 : (upd H1 l2 (.lst [.bl (decide (i = dk 3)), .bl (decide (i = dk 4)), .bl (decide (i = dk 5))])) l2 = some (.lst [.bl (decide (i = dk 3)), .bl (decide (i = dk 4)), .bl (decide (i = dk 5))]) := upd_same
    generalize upd H1 l2 (.lst [.bl (decide (i = dk 3)), .bl (decide (i = dk 4)), .bl (decide (i = dk 5))]) = H2 at s2 hl2
    refine ⟨l1, l2, _, _, rfl, rfl, s2 _ _ hl1, hl2, by show 6 ≤ sizeLine; decide, fun l3 nl3 => ?_⟩
    have s3 := same_lay (o := .lst ([.bl (decide (i = dk 0)), .bl (decide (i = dk 1)), .bl (decide (i = dk 2))] ++ [.bl (decide (i = dk 3)), .bl (decide (i = dk 4)), .bl (decide (i = dk 5))])) nl3
    have hl3 : (upd H2 l3 (.lst ([.bl (decide (i = dk 0)), .bl (decide (i = dk 1)), .bl (decide (i = dk 2))] ++ [.bl (decide (i = dk 3)), .bl (decide (i = dk 4)), .bl (decide (i = dk 5))]))) l3 = some (.lst ([.bl (decide (i = dk 0)), .bl (decide (i = dk 1)), .bl (decide (i = dk 2))] ++ [.bl (decide (i = dk 3)), .bl (decide (i = dk 4)), .bl (decide (i = dk 5))])) := upd_same
    generalize upd H2 l3 (.lst ([.bl (decide (i = dk 0)), .bl (decide (i = dk 1)), .bl (decide (i = dk 2))] ++ [.bl (decide (i = dk 3)), .bl (decide (i = dk 4)), .bl (decide (i = dk 5))])) = H3 at s3 hl3
    have s13 := (s1.trans s2).trans s3
    have hv3 := hv.same s13
    refine ⟨_, rfl, _, rfl, isV hv3 xc (T.kit i hi 6 (by decide)) ⟨_, rfl, isV hv3 xc (T.kit i hi 7 (by decide)) ⟨_, rfl, isV hv3 xc (T.kit i hi 8 (by decide)) ⟨by show 3 ≤ sizeLine; decide, fun l4 nl4 => ?_⟩⟩⟩⟩
    have s4 := same_lay (o := .lst [.bl (decide (i = dk 6)), .bl (decide (i = dk 7)), .bl (decide (i = dk 8))]) nl4
    have hl4 : (upd H3 l4 (.lst [.bl (decide (i = dk 6)), .bl (decide (i = dk 7)), .bl (decide (i = dk 8))])) l4 = some (.lst [.bl (decide (i = dk 6)), .bl (decide (i = dk 7)), .bl (decide (i = dk 8))]) := upd_same
    generalize upd H3 l4 (.lst [.bl (decide (i = dk 6)), .bl (decide (i = dk 7)), .bl (decide (i = dk 8))]) = H4 at s4 hl4
    refine ⟨l3, l4, _, _, rfl, rfl, s4 _ _ hl3, hl4, by show 9 ≤ sizeLine; decide, fun l5 nl5 => ?_⟩
    have s5 := same_lay (o := .lst (([.bl (decide (i = dk 0)), .bl (decide (i = dk 1)), .bl (decide (i = dk 2))] ++ [.bl (decide (i = dk 3)), .bl (decide (i = dk 4)), .bl (decide (i = dk 5))]) ++ [.bl (decide (i = dk 6)), .bl (decide (i = dk 7)), .bl (decide (i = dk 8))])) nl5
    have hl5 : (upd H4 l5 (.lst (([.bl (decide (i = dk 0)), .bl (decide (i = dk 1)), .bl (decide (i = dk 2))] ++ [.bl (decide (i = dk 3)), .bl (decide (i = dk 4)), .bl (decide (i = dk 5))]) ++ [.bl (decide (i = dk 6)), .bl (decide (i = dk 7)), .bl (decide (i = dk 8))]))) l5 = some (.lst ((List.range 9).map fun k => V.bl (decide (i = dk k)))) := upd_same
    generalize upd H4 l5 (.lst (([.bl (decide (i = dk 0)), .bl (decide (i = dk 1)), .bl (decide (i = dk 2))] ++ [.bl (decide (i = dk 3)), .bl (decide (i = dk 4)), .bl (decide (i = dk 5))]) ++ [.bl (decide (i = dk 6)), .bl (decide (i = dk 7)), .bl (decide (i = dk 8))])) = H5 at s5 hl5
    have s15 := s13.trans (s4.trans s5)
    refine ⟨_, rfl, l5, _, rfl, .inl (.inl (.inl hl5)), 9, rfl, by omega, by omega, fun D1 hD1 => lc_range (lo := 0) (n := 9) (fun k G => G D1 = some (.lst ((((List.range k).filter fun k => decide (i = dk k)).map fun k : Nat => (k : Int)).map V.int)) ∧ Same H5 G) ⟨upd_same, same_lay hD1⟩ ?_ ?_⟩
    · rintro k G hk ⟨hU, sG⟩
      refine ⟨rfl, _, rfl, _, rfl, l5, _, (k : Nat), _, rfl, by simp, .inl (.inl (sG _ _ hl5)), atI_nat (j := k) (by rw [List.getElem?_map, List.getElem?_range (by omega)]; rfl), _, rfl, ?_⟩
      have st := kd_step i k hk
      by_cases c : i = dk k
      · rw [if_pos (decide_eq_true c)] at st
        refine iteA (decide_eq_true c) ⟨_, rfl, _, hU, ?_, ?_, same_upd sG hD1⟩
        · rw [List.length_map, List.length_map]
          have h1 := List.length_filter_le (fun k => decide (i = dk k)) (List.range k)
          rw [List.length_range] at h1
          exact Nat.lt_of_le_of_lt (show _ ≤ 1000 by omega) (by decide)
        · rw [upd_same, st, List.map_append, Int.zero_add]; rfl
      · rw [if_neg (by simpa using c)] at st
        refine iteB (decide_eq_false c) ⟨?_, sG⟩
        rw [st, List.append_nil]; exact hU
    · rintro G ⟨hU, sG⟩
      exact R D1 G (s15.free hD1) hU (s15.trans sG)
end
end OR

namespace OR
open PySem PySem.Spec PyProof.Rows L2
open TL (tl numL)
def spLaw (K : PySem.W.Frag) : Sp := fun vs H Q _ => ∃ (a : Addr) (ns : List Int), vs = [.ref a] ∧ SqL K H a (ns.map V.int) ∧ ns.length ≤ 63 ∧ ∀ H', Q (.bl true) H'
structure FnG (P : Program) (w : World) (K : PySem.W.Frag) (mg : Str → Option Value) (base : Heap) (k : Nat) (f : Addr) (fd : FuncData) (ps : List Str) (sp : Sp) : Prop where
  len : ∀ vs H Q E, sp vs H Q E → vs.length = ps.length
  go : ∀ (A : Around) (outer : List Env) (s : Shared) (H : Hp) (args : Args) (us : List Value) (vs : List V) (Q : VK) (E : XK), A.guards = some [] → Room k A → Env0 P w K mg base A outer s H → BindsTo s fd args (ps.zip us) → Vals vs us → sp vs H Q E →
    codeAny (model P w) A (.call (.ref f) args) (CR CX0 outer P w H s Q E) s
section
variable {P : Program} {w : World} {K : PySem.W.Frag} {mg : Str → Option Value} {base : Heap}
theorem okG {x qual : Str} {st : Stmt} {f : Addr} {fd : FuncData} {N ps : List Str} {k : Nat} {sp : Sp} (F : Fun K x qual st f fd) (S : FnScope N ps (defScope st)) (len : ∀ vs H Q E, sp vs H Q E → vs.length = ps.length)
    (body : ∀ (cdv : Value) (A : Around) (outer : List Env) (s : Shared) (H : Hp) (vs : List V) (Q : VK) (E : XK), (A.deeper (envOfC qual (defScope st) s.heap.objs.size f cdv)).guards = some [] → Room k (A.deeper (envOfC qual (defScope st) s.heap.objs.size f cdv)) → sp vs H Q E →
      ∃ t, PSs (cxOf CX0 P w K mg base N qual (defScope st) f cdv A outer s H E).nox (defBody st) t ∧ t { nx := fun _ H' => Q .non H', rt := Q } (start N vs) H) : FnG P w K mg base (k + 1) f fd ps sp := by
  obtain ⟨oc, od, kV, doc, pm, an, cdv, ct, osl, rfl, lk, hcd⟩ := F.ex
  refine ⟨len, fun A outer s H args us vs Q E hg hr e0 hb r hsp => ?_⟩
  obtain ⟨t, ht, hq⟩ := body cdv A outer s H vs Q E hg (hr.deeper _) hsp
  have keep : ∀ b o, base.get? b = some o → s.heap.get? b = some o := fun b o e => (e0.bs b o e).1
  have hk : ∀ y ∈ ps.zip us, (defScope st).names.lookup y.1 = some .local ∨ ((defScope st).names.lookup y.1 = some .cell ∧ ((cellsFrom (s.heap.objs.size + 1) (defScope st).names []).lookup y.1).isSome = true) := fun ⟨n, v⟩ hy =>
    (S.par n (List.of_mem_zip hy).1).imp id fun q => ⟨q, PySem.W.cellsFrom_some _ _ _ (.inl q)⟩
  refine codeAny_call_function hr.depth (e0.mod.kin.keeps keep _ _ lk) rfl S.co S.gen rfl (PySem.W.codeRec_of (e0.mod.kin.keeps keep) hcd) (hb _ _ _ _ (wpAny_newFunctionEnv_cells S.kind hk fun env he s1 x => ?_))
  subst he
  refine ⟨(e0.mod.nolimit.keeps keep).keeps x.toInCall.keep, codeAny_func (wpAny_mono (ht.nox.run [] s1 (start N vs) H _ (inv_start S hr.hd e0 (len _ _ _ _ hsp) r x) hq) (fun fl s' hs => ?_) fun e s' hs => hs)⟩
  have fin : ∀ {σ' : L2.St} {H' : Hp} {v : V} {u : Value}, Inv (cxOf CX0 P w K mg base N qual (defScope st) f cdv A outer s H E) [] σ' H' s' → RelV v u → Q v H' → CE outer P w H s Q u s' := fun J rv q => ⟨_, _, J.os, J.bare, J.base, J.hok, rv, q⟩
  cases fl with
  | ret u => obtain ⟨v, σ', H', J, rv, q⟩ := hs; exact fin J rv q
  | next => obtain ⟨σ', H', J, q⟩ := hs; exact fin (v := V.non) (u := Value.none) J rfl q
  | brk => obtain ⟨_, _, _, q⟩ := hs; exact q.elim
  | cont => obtain ⟨_, _, _, q⟩ := hs; exact q.elim
end
section
variable {P : Program} {w : World} {K : PySem.W.Frag} {mg mb : Str → Option Value}
/-- the heap without what is tracked is a base; the call from it -/
theorem from_base {k : Nat} {fa a : Addr} {fd : FuncData} {x : Str} {sp : Sp} {s₁ : Shared} {us : List Value} {H : Hp}
    (KX : K.In s₁.heap) (hns : s₁.heap.Ns mainGlobals mg) (hb : s₁.heap.Ns builtinsNs mb) (hbb : ∀ x : Str, x ≠ "__name__" → mb x = bootBuiltins x) (hlim : s₁.heap.NoLimit) (hg : s₁.gens = #[])
    (ha : s₁.heap.get? a = some { cls := .type "list", data := .seq us.toArray }) (hr : Room k callerA)
    (F : ∀ base : Heap, K.In base → base.Ns mainGlobals mg → FnG P w K mg base k fa fd [x] sp) (hbind : ∀ (s : Shared) (u : Value), BindsTo s fd ⟨[u], []⟩ [(x, u)])
    (hsp : sp [.ref a] H (fun v _ => v = .bl true) fun _ _ _ => False) (hO : Only H) (hok : HOk P w H s₁.heap) (only : ∀ b, H b ≠ none → b = a) (out : H a ≠ none → K.lookup a = none) :
    codeAny (model P w) callerA (.call (.ref fa) ⟨[.ref a], []⟩) (fun r s' => r = .ok (.ret (.bool true)) ∧ OldK s₁.heap s'.heap ∧ s'.os = s₁.os ∧ AllBare s'.gens) s₁ := by
  have free : ∀ {b : Addr}, b ≠ a → H b = none := fun {b} n => Classical.byContradiction fun c => n (only b c)
  have dicts : ∀ {b : Addr} {m : Str → Option Value}, s₁.heap.Ns b m → (hidT s₁.heap H).Ns b m := fun {b m} ⟨o, es, ep, e, d, r⟩ => by
    refine ⟨o, es, ep, hidT_get e (free fun z => ?_), d, r⟩
    subst z
    rw [ha] at e
    cases e
    cases (show Data.seq us.toArray _ = Data.dict es ep from d)
  have hK : K.In (hidT s₁.heap H) := fun b o e => hidT_get (KX b o e) (Classical.byContradiction fun c => by
    cases only b c
    rw [out c] at e
    cases e)
  obtain ⟨mc, l1, l2⟩ := hlim
  have e0 : Env0 P w K mg (hidT s₁.heap H) callerA [] s₁ H := ⟨rfl, ⟨hK, dicts hns, ⟨mb, dicts hb, hbb⟩, ⟨mc, dicts l1, l2⟩⟩, fun b o e => of_hidT e, Nat.le_of_eq (hidT_size _ _), trivial, (fun b hb => by cases hb), hok, .of_eq hg⟩
  refine codeAny_mono ((F _ hK (dicts hns)).go callerA [] s₁ H ⟨[.ref a], []⟩ [.ref a] [.ref a] _ _ rfl hr e0 (hbind s₁ (.ref a)) (.cons rfl .nil) hsp) fun r s' h => ?_
  rcases r with e | fl
  · exact (show False from h).elim
  cases fl with
  | next => exact h.elim
  | brk => exact h.elim
  | cont => exact h.elim
  | ret u =>
    obtain ⟨v, H', os, bare, un, hok', rv, q⟩ := h
    cases (show v = .bl true from q)
    cases (show u = Value.bool true from rv)
    refine ⟨rfl, OldK.of_keep fun b o e => ?_, os, bare⟩
    rcases hO b with z | ⟨ob, xs, z⟩
    · exact un.keep b o e z (fun z => by cases z) (by simp)
    · obtain ⟨e1, _⟩ := hok b _ z
      obtain ⟨e2, _⟩ := hok' b _ (un.frzs b ob _ z)
      rw [e] at e1
      cases e1
      exact e2
theorem law_g {k : Nat} {fa a : Addr} {fd : FuncData} {x : Str} {sp : Sp} {s₁ : Shared} {us : List Value} {ns : List Int}
    (KX : K.In s₁.heap) (hns : s₁.heap.Ns mainGlobals mg) (hb : s₁.heap.Ns builtinsNs mb) (hbb : ∀ x : Str, x ≠ "__name__" → mb x = bootBuiltins x) (hlim : s₁.heap.NoLimit) (hg : s₁.gens = #[])
    (ha : s₁.heap.get? a = some { cls := .type "list", data := .seq us.toArray }) (hi : IntsAre us ns) (hl : ns.length ≤ sizeLine) (hr : Room k callerA)
    (F : ∀ base : Heap, K.In base → base.Ns mainGlobals mg → FnG P w K mg base k fa fd [x] sp) (hbind : ∀ (s : Shared) (u : Value), BindsTo s fd ⟨[u], []⟩ [(x, u)])
    (hsp : ∀ H : Hp, Only H → SqL K H a (ns.map V.int) → sp [.ref a] H (fun v _ => v = .bl true) fun _ _ _ => False) :
    codeAny (model P w) callerA (.call (.ref fa) ⟨[.ref a], []⟩) (fun r s' => r = .ok (.ret (.bool true)) ∧ OldK s₁.heap s'.heap ∧ s'.os = s₁.os ∧ AllBare s'.gens) s₁ := by
  have rv := vals_ints hi
  have ln : us.length ≤ sizeLine := by rw [hi.length]; exact hl
  by_cases hk : K.lookup a = none
  · -- the script is tracked, frozen
    generalize eH : (fun b => if b = a then some (.frz { cls := .type "list", data := .seq us.toArray } (.lst (ns.map V.int))) else none : Hp) = H
    have at_a : H a = some (.frz { cls := .type "list", data := .seq us.toArray } (.lst (ns.map V.int))) := by rw [← eH]; exact if_pos rfl
    have off : ∀ {b}, b ≠ a → H b = none := fun {b} n => by rw [← eH]; exact if_neg n
    have hO : Only H := fun b => if h : b = a then .inr ⟨_, _, h ▸ at_a⟩ else .inl (off h)
    refine from_base KX hns hb hbb hlim hg ha hr F hbind (hsp H hO (.inl (.inr ⟨_, at_a⟩))) hO (fun b u z => ?_) (fun b c => Classical.byContradiction fun n => c (off n)) fun _ => hk
    by_cases h : b = a
    · subst h
      rw [at_a] at z
      cases z
      exact ⟨ha, by rw [List.length_map]; exact hl, us, _, rv, ha⟩
    · rw [off h] at z
      cases z
  · -- the script is an object of the module
    obtain ⟨o, ho⟩ := Option.ne_none_iff_exists'.mp hk
    have e := KX a o ho
    rw [ha] at e
    cases e
    have hO : Only (fun _ => none) := fun _ => .inl rfl
    exact from_base KX hns hb hbb hlim hg ha hr F hbind (hsp _ hO (.inr ⟨_, us.toArray, _, ho, rfl, rfl, rfl, by rw [List.size_toArray]; exact ln, by simpa using rv⟩)) hO (fun b u z => by cases (show (none : Option HO) = some u from z)) (fun b c => absurd rfl c) fun c => absurd rfl c
end
theorem walk_g {l : PySem.W.OpenLaw} {n k : Nat} {q : Program} {loose : List Str} {XP : (Str → Option Value) → Heap → Prop} {YP : World → Heap → Prop} {d : DefRec} {K : Params → PySem.W.Frag} {sp : World → Sp} {x : Str}
    (hn : l.most = some n) (hn2 : n ≤ sizeLine) (hdf : d.params.defaults = []) (hr : Room k callerA) (hY : ∀ (w : World) (h : Heap), YP w h → (K w.params).In h)
    (F : ∀ (w : World) (mg : Str → Option Value) (fa : Addr) (h : Heap), (K w.params).In h → h.Ns mainGlobals mg → XP mg h → mg d.name = some (.ref fa) →
      ∃ fd : FuncData, (∀ (s : Shared) (u : Value), BindsTo s fd ⟨[u], []⟩ [(x, u)]) ∧ ∀ base : Heap, (K w.params).In base → base.Ns mainGlobals mg → FnG l.prog w (K w.params) mg base k fa fd [x] (sp w))
    (hsp : ∀ (w : World) (H : Hp) (a : Addr) (ns : List Int), ns.length ≤ n → Only H → SqL (K w.params) H a (ns.map V.int) → sp w [.ref a] H (fun v _ => v = .bl true) fun _ _ _ => False) : PySem.W.WalkO q loose XP YP l.row.toRowW d [] (fun f vs => PySem.call f vs) := by
  refine Att.attach_call hn hdf fun w s₀ s₁ mg mb fa o pm cd doc a vs ns G Y ho hd hcd hmg hobj hints hlen hg => ?_
  have KX := hY w _ Y
  obtain ⟨fd, hb, hF⟩ := F w mg fa _ KX G.T.g G.X hmg
  exact law_g KX G.T.g G.T.b G.T.builtins G.T.nolimit hg hobj hints (Nat.le_trans hlen hn2) hr hF hb fun H hO hS => hsp w H a ns hlen hO hS
theorem FnG.mono {P : Program} {w : World} {K : PySem.W.Frag} {mg : Str → Option Value} {base : Heap} {j k : Nat} {f : Addr} {fd : FuncData} {ps : List Str} {sp : Sp} (F : FnG P w K mg base j f fd ps sp) (h : j ≤ k) : FnG P w K mg base k f fd ps sp :=
  ⟨F.len, fun A outer s H args us vs Q E hg hr => F.go A outer s H args us vs Q E hg (hr.mono h)⟩
end OR

namespace OR
open PySem PySem.Spec PyProof.Rows L2
theorem op_neDK {X : Cx} (K : PySem.W.Frag) (hK : X.K = K) (hu : X.A.units + 64 < cLine) : OpR X (compareOp .NotEq) (rNeD K) := by subst hK; exact op_neD hu
theorem cr_sortedIK {X : Cx} (K : PySem.W.Frag) (hK : X.K = K) : CallR X (.builtin "sorted") (rSortedI K) := by subst hK; exact cr_sortedI
def rLenK (K : PySem.W.Frag) : List V → Hp → VK → Prop := fun xs H Q => ∃ p ys, xs = [V.ref p] ∧ (SqL K H p ys ∨ SqT K H p ys) ∧ Q (V.int (ys.length : Int)) H
theorem call_lenK {X : Cx} (K : PySem.W.Frag) (hK : X.K = K) : CallR X (.builtin "len") (rLenK K) := by subst hK; exact call_len_seq
theorem bt_int : bootBuiltins ("int" : Str) = some (.type "int") := by decide +kernel
theorem bt_reprV : bootBuiltins ("repr" : Str) = some (.builtin "repr") := by decide +kernel
theorem bt_sorted : bootBuiltins ("sorted" : Str) = some (.builtin "sorted") := by decide +kernel
theorem bt_VE : bootBuiltins ("ValueError" : Str) = some (.type "ValueError") := by decide +kernel
theorem isVT {K : PySem.W.Frag} {H : Hp} {v : V} {CB : Addr} {b : Bool} {Q : VK} (h : IsE CB H v) (x : ExcC K CB) (k : PySem.W.kitOne K (.ref CB) (.type "ValueError") = some b) (q : Q (.bl b) H) : rIsW K [v, .ty "ValueError"] H Q := by
  unfold rIsW
  obtain ⟨e, d, rfl, he, hd⟩ := h
  exact ⟨e, CB, d, .ty "ValueError", .type "ValueError", b, rfl, he, hd, x, (fun _ h => h), k, q⟩
def IsL (H : Hp) (v : V) (ns : List Int) : Prop := ∃ l, v = .ref l ∧ H l = some (.lst (ns.map V.int))
theorem IsL.same {H H' : Hp} {v : V} {ns : List Int} (h : IsL H v ns) (s : Same H H') : IsL H' v ns := by
  obtain ⟨l, e, h⟩ := h
  exact ⟨l, e, s _ _ h⟩
def IsN (D : Addr) (H : Hp) (v : V) (ns : List Int) : Prop := ∃ l, v = .ref l ∧ H l = some (.lst (ns.map V.int)) ∧ l ≠ D
theorem small1000 {n : Nat} (h : n ≤ 1000) : n < sizeLine := Nat.lt_of_le_of_lt h (by decide)
theorem yesT {σ : L2.St} {H : Hp} {A B : Hp → Prop} (h : A H) : tYes σ H (fun b H3 => if b = true then A H3 else B H3) := by
  show if true = true then A H else B H
  rw [if_pos rfl]
  exact h
theorem All2.len {α β : Type} {p : α → β → Prop} : ∀ {xs : List α} {ys : List β}, All2 p xs ys → xs.length = ys.length
  | _, _, .nil => rfl
  | _, _, .cons _ t => by rw [List.length_cons, List.length_cons, t.len]
theorem All2.get {α β : Type} {p : α → β → Prop} : ∀ {xs : List α} {ys : List β} {i : Nat} {x : α}, All2 p xs ys → xs[i]? = some x → ∃ y, ys[i]? = some y ∧ p x y
  | _, _, i, _, .nil, e => by simp at e
  | _, _, 0, _, .cons h _, e => by simp at e; subst e; exact ⟨_, rfl, h⟩
  | _, _, i + 1, _, .cons _ t, e => by simpa using t.get (i := i) (by simpa using e)
theorem All2.mono {α β : Type} {p q : α → β → Prop} (m : ∀ a b, p a b → q a b) : ∀ {xs : List α} {ys : List β}, All2 p xs ys → All2 q xs ys
  | _, _, .nil => .nil
  | _, _, .cons h t => .cons (m _ _ h) (t.mono m)
theorem take_snocA {α : Type} {xs : List α} {k : Nat} {x : α} (h : xs[k]? = some x) : xs.take (k + 1) = xs.take k ++ [x] := by
  rw [List.take_add_one, h]; rfl
/-- the kinds that were found, one behind the other -/
def kf : List Nat → List Int
  | [] => []
  | i :: r => if (kd i).isEmpty then kf r else (kd i).head! :: kf r
theorem kf_app (xs ys : List Nat) : kf (xs ++ ys) = kf xs ++ kf ys := by
  induction xs with
  | nil => rfl
  | cons i r ih =>
    show (if (kd i).isEmpty then kf (r ++ ys) else (kd i).head! :: kf (r ++ ys)) = (if (kd i).isEmpty then kf r else (kd i).head! :: kf r) ++ kf ys
    split
    · exact ih
    · rw [ih]; rfl
theorem kd_cases : ∀ i < 25, (kd i = [] ∨ ∃ j : Int, kd i = [j] ∧ 0 ≤ j ∧ j < 9) := by
  intro i hi
  have : ∀ i : Fin 25, (kd i.1 = [] ∨ (kd i.1 = [(kd i.1).headD 0] ∧ 0 ≤ (kd i.1).headD 0 ∧ (kd i.1).headD 0 < 9)) := by decide +kernel
  rcases this ⟨i, hi⟩ with h | h
  · exact .inl h
  · exact .inr ⟨_, h⟩
theorem kf_all : kf (List.range 25) = [0, 1, 6, 2, 3, 7, 8, 4, 5] := by decide +kernel
theorem perm_up {ys : List Int} (h : ys.Perm (kf (List.range 25))) (p : ys.Pairwise (· ≤ ·)) : ys = [0, 1, 2, 3, 4, 5, 6, 7, 8] := by
  have e : ([0, 1, 2, 3, 4, 5, 6, 7, 8] : List Int).Perm (kf (List.range 25)) := by rw [kf_all]; decide +kernel
  exact List.Perm.eq_of_pairwise (fun a b _ _ h1 h2 => Int.le_antisymm h1 h2) p (by decide +kernel) (h.trans e.symm)
theorem dp_ints {K : PySem.W.Frag} {H : Hp} : ∀ {ns : List Int}, DpAll K H (ns.map V.int) (ns.map PyData.int)
  | [] => .nil
  | n :: r => .cons (.int n) dp_ints
theorem dp_list {K : PySem.W.Frag} {H : Hp} {l : Addr} {ns : List Int} (h : H l = some (.lst (ns.map V.int))) : Dp K H (.ref l) (.list (ns.map PyData.int)) := .lst (.inl (.inl h)) dp_ints
section
variable {P : Program} {w : World} {K : PySem.W.Frag} {mg : Str → Option Value} {base : Heap} {C : Nat → Addr} {CR : Addr}
theorem scLaw : FnScope ["_law_script", "_law_pen_here", "_law_a", "_law_b", "_law_due", "_law_made_here", "_law_kinds_here", "_law_error", "_law_part"] ["_law_script"] (defScope sLaw) := ⟨rfl, rfl, rfl, by decide +kernel, rfl, by decide +kernel, by decide +kernel⟩
set_option maxHeartbeats 8000000 in
theorem ok_law {f : Addr} {fd : FuncData} (F : Fun K "law" "law" sLaw f fd) (zL : mg "len" = none) (zI : mg "isinstance" = none) (zR : mg "repr" = none) (zS : mg "sorted" = none) (zRg : mg "range" = none) (zLi : mg "list" = none) (zN : mg "int" = none) (T : KiT K mg C CR)
    (N : Cl P w K mg base 1 "_law_pen" ["_law_script"] (spPen K)) (AN : Cl P w K mg base 4 "_law_any" ["_law_pen_here"] spAny) (BP : Cl P w K mg base 3 "_law_by_position" ["_law_a", "_law_b"] spBy) (BN : Cl P w K mg base 3 "_law_by_name" ["_law_a", "_law_b"] spBy)
    (MA : Cl P w K mg base 3 "_law_made" ["_law_a", "_law_b"] (spMade C)) (KI : Cl P w K mg base 1 "_law_kinds" ["_law_error"] (spKinds C)) :
    FnG P w K mg base 5 f fd ["_law_script"] (spLaw K) := by
  refine okG F scLaw (fun vs H Q E h => ?_) (fun cdv A outer s H vs Q E gd hr h => ?_)
  · obtain ⟨a, ns, rfl, _⟩ := h
    rfl
  · obtain ⟨sc, ns, rfl, hS, hlen, q⟩ := h
    have nd := scLaw.nd
    have hu64 : (A.deeper (envOfC "law" (defScope sLaw) s.heap.objs.size f cdv)).units + 64 < cLine := hr.units
    refine ⟨_, pss_cons (ps_set (i := 1) nd rfl (.inl rfl) (pe_cl N hr (by decide) (by rfl) (pa_cons (pv 0) pa_nil)))
      (pss_cons (ps_par (i := 2) (j := 3) rfl nd rfl rfl (by decide) rfl rfl (pa_cons (pe_cl AN hr (by decide) (by rfl) (pa_cons (pv 1) pa_nil)) (pa_cons (pe_cl AN hr (by decide) (by rfl) (pa_cons (pv 1) pa_nil)) pa_nil)) rfl)
      (pss_cons (ps_set (i := 4) nd rfl (.inl rfl) (pe_lstN (pa_cons (pv 2) (pa_cons (pv 2) (pa_cons (pv 2) (pa_cons (pv 3) (pa_cons (pv 2) (pa_cons (pv 2) (pa_cons (pv 2) (pa_cons (pv 2) (pa_cons (pv 2) (pa_cons (pv 3) (pa_cons (pv 2) (pa_cons (pv 2) pa_nil))))))))))))))
      (pss_cons (ps_set (i := 4) nd rfl (.inl rfl) (pe_op op_catNK (pv 4) (pe_lstN (pa_cons (pv 2) (pa_cons (pv 2) (pa_cons (pv 2) (pa_cons (pv 2) (pa_cons (pv 2) (pa_cons (pv 3) (pa_cons (pv 2) (pa_cons (pv 2) (pa_cons (pv 2) (pa_cons (pv 2) (pa_cons (pv 3) (pa_cons (pv 2) (pa_cons (pv 3) pa_nil))))))))))))))))
      (pss_cons (ps_if (PW.pt (pw_or (pt_cmpR op_ne (pe_callB (call_reprV gd hu64) (by rfl) zR bt_reprV (pa_cons (pe_cl BP hr (by decide) (by rfl) (pa_cons (pv 2) (pa_cons (pv 3) pa_nil))) pa_nil)) (pe_callB (call_reprV gd hu64) (by rfl) zR bt_reprV (pa_cons (pv 4) pa_nil)) (nomark _)) (pw_or1 (pt_cmpR op_ne (pe_callB (call_reprV gd hu64) (by rfl) zR bt_reprV (pa_cons (pe_cl BN hr (by decide) (by rfl) (pa_cons (pv 2) (pa_cons (pv 3) pa_nil))) pa_nil)) (pe_callB (call_reprV gd hu64) (by rfl) zR bt_reprV (pa_cons (pv 4) pa_nil)) (nomark _)))))
          (pss_one (ps_ret pe_bl))
          pss_nil)
      (pss_cons (ps_set (i := 5) nd rfl (.inl rfl) (pe_cl MA hr (by decide) (by rfl) (pa_cons (pv 2) (pa_cons (pv 3) pa_nil))))
      (pss_cons (ps_if (pt_cmpR (op_neDK K rfl hu64) (pe_lc (own := [("_law_error", 7)]) (g := (gName 7)) rfl nd (pi_list (pv 5)) (blkOk_by (N := ["_law_script", "_law_pen_here", "_law_a", "_law_b", "_law_due", "_law_made_here", "_law_kinds_here", "_law_error", "_law_part"]) (sc := defScope sLaw) (by decide +kernel)) (fun _ _ _ _ _ => pg_name (i := 7) nd rfl (.inl rfl)) (fun _ _ _ _ _ => pts_one (PW.pt (pw_or (pt_not (pt_val (pe_callB (call_isVK K rfl) (by rfl) zI bt_isiV (pa_cons (pv 7) (pa_cons (pe_glob (v := .ref CR) (by rfl) T.gR rfl) pa_nil))))) (pw_or1 (pt_not (pt_val (pe_callB (call_isVK K rfl) (by rfl) zI bt_isiV (pa_cons (pv 7) (pa_cons (pe_bltn (v := .ty "ValueError") (by rfl) T.gV bt_VE rfl) pa_nil))))))))) (fun _ _ _ _ _ => (pv 7))) (pe_lst pa_nil) (nomark _))
          (pss_one (ps_ret pe_bl))
          pss_nil)
      (pss_cons (ps_setLc (i := 6) (own := [("_law_error", 7)]) (g := (gName 7)) (tt := tYes) rfl nd rfl rfl (sw_true rfl rfl rfl (by decide +kernel)) (pi_list (pv 5)) (blkOk_by (N := ["_law_script", "_law_pen_here", "_law_a", "_law_b", "_law_due", "_law_made_here", "_law_kinds_here", "_law_error", "_law_part"]) (sc := defScope sLaw) (by decide +kernel)) (fun _ _ _ _ _ => pg_name (i := 7) nd rfl (.inl rfl)) (fun _ _ _ _ _ => pts_nil) (fun _ _ _ _ _ => (pe_cl KI hr (by decide) (by rfl) (pa_cons (pv 7) pa_nil))))
      (pss_cons (ps_if (pt_cmpR (op_neDK K rfl hu64) (pe_lc (own := [("_law_part", 8)]) (g := (gName 8)) rfl nd (pi_list (pv 6)) (blkOk_by (N := ["_law_script", "_law_pen_here", "_law_a", "_law_b", "_law_due", "_law_made_here", "_law_kinds_here", "_law_error", "_law_part"]) (sc := defScope sLaw) (by decide +kernel)) (fun _ _ _ _ _ => pg_name (i := 8) nd rfl (.inl rfl)) (fun _ _ _ _ _ => pts_one (pt_cmpR op_gt (pe_callB (call_lenK K rfl) (by rfl) zL PySem.boot_len (pa_cons (pv 8) pa_nil)) pe_int (nomark _))) (fun _ _ _ _ _ => (pv 8))) (pe_lst pa_nil) (nomark _))
          (pss_one (ps_ret pe_bl))
          pss_nil)
      (pss_cons (ps_if (pt_cmpR (op_neDK K rfl hu64) (pe_callB (cr_sortedIK K rfl) (by rfl) zS bt_sorted (pa_cons (pe_lc (own := [("_law_part", 8)]) (g := (gName 8)) rfl nd (pi_list (pv 6)) (blkOk_by (N := ["_law_script", "_law_pen_here", "_law_a", "_law_b", "_law_due", "_law_made_here", "_law_kinds_here", "_law_error", "_law_part"]) (sc := defScope sLaw) (by decide +kernel)) (fun _ _ _ _ _ => pg_name (i := 8) nd rfl (.inl rfl)) (fun _ _ _ _ _ => pts_one (pt_cmpR (op_neDK K rfl hu64) (pv 8) (pe_lst pa_nil) (nomark _))) (fun _ _ _ _ _ => (pe_callTy call_int1 (by rfl) zN bt_int (pa_cons (pe_ix (ix_listK K rfl) (pv 8) pe_int (fun _ _ => rfl)) pa_nil)))) pa_nil)) (pe_listRg rfl (by rfl) zLi (prg_1 (by rfl) zRg pe_int)) (nomark _))
          (pss_one (ps_ret pe_bl))
          pss_nil)
      (pss_one (ps_ret (pe_cmpR op_eq (pe_callB (call_lenK K rfl) (by rfl) zL PySem.boot_len (pa_cons (pv 5) pa_nil)) pe_int (by rfl))))))))))))), ?_⟩
    refine ⟨_, rfl, sc, ns, rfl, hS, hlen, fun p H1 np P0 S0 => ?_⟩
    refine ⟨_, rfl, p, _, rfl, P0, by decide, fun a da H2 ha P2 F2 => ⟨_, rfl, p, _, rfl, P2, by decide, fun b db H3 hb P3 F3 => ⟨_, _, rfl, ?_⟩⟩⟩
    have ha := ha.frm F3 P2
    clear F2 F3 P0 P2 P3 S0 hS np
    -- what is due
    refine ⟨_, rfl, _, rfl, _, rfl, _, rfl, _, rfl, _, rfl, _, rfl, _, rfl, _, rfl, _, rfl, _, rfl, _, rfl, by show 12 ≤ sizeLine; decide, fun l1 nl1 _ => ?_⟩
    have s1 := same_lay (o := .lst [a, a, a, b, a, a, a, a, a, b, a, a]) nl1
    have e1 : (upd H3 l1 (.lst [a, a, a, b, a, a, a, a, a, b, a, a])) l1 = some (.lst [a, a, a, b, a, a, a, a, a, b, a, a]) := upd_same
    generalize upd H3 l1 (.lst [a, a, a, b, a, a, a, a, a, b, a, a]) = H4 at s1 e1
    refine ⟨_, rfl, _, rfl, _, rfl, _, rfl, _, rfl, _, rfl, _, rfl, _, rfl, _, rfl, _, rfl, _, rfl, _, rfl, _, rfl, _, rfl, by show 13 ≤ sizeLine; decide, fun l2 nl2 _ => ?_⟩
    have s2 := same_lay (o := .lst [a, a, a, a, a, b, a, a, a, a, b, a, b]) nl2
    have e2 : (upd H4 l2 (.lst [a, a, a, a, a, b, a, a, a, a, b, a, b])) l2 = some (.lst [a, a, a, a, a, b, a, a, a, a, b, a, b]) := upd_same
    generalize upd H4 l2 (.lst [a, a, a, a, a, b, a, a, a, a, b, a, b]) = H5 at s2 e2
    refine ⟨l1, l2, _, _, rfl, rfl, s2 _ _ e1, e2, by show 25 ≤ sizeLine; decide, fun l3 nl3 n3 => ?_⟩
    have s3 := same_lay (o := .lst (patE a b)) nl3
    have e3 : (upd H5 l3 (.lst (patE a b))) l3 = some (.lst (patE a b)) := upd_same
    have ee : [a, a, a, b, a, a, a, a, a, b, a, a] ++ [a, a, a, a, a, b, a, a, a, a, b, a, b] = patE a b := rfl
    rw [ee]
    generalize upd H5 l3 (.lst (patE a b)) = H6 at s3 e3
    have s36 := (s1.trans s2).trans s3
    have ha := ha.same s36
    have hb := hb.same s36
    clear s1 s2 s3 s36 e1 e2 nl1 nl2 nl3
    -- the texts
    refine ⟨_, rfl, _, rfl, a, b, rfl, fun lq G hq nq sq => ?_⟩
    have ok := pat_ok (ha.same sq) (hb.same sq)
    refine ⟨lq, patE a b, patD da db, rfl, hq, nq, pat_da (ha.same sq) (hb.same sq), ok.1, ok.2.1, ok.2.2, _, rfl, l3, patE a b, patD da db, rfl, sq _ _ e3, n3, pat_da (ha.same sq) (hb.same sq), ok.1, ok.2.1, ok.2.2, rfl, _, rfl, ?_⟩
    refine iteB (by simp) ?_
    have ha := ha.same sq
    have hb := hb.same sq
    have e3 := sq _ _ e3
    clear ok hq nq sq
    refine ⟨_, rfl, _, rfl, a, b, rfl, fun lq G2 hq nq sq => ?_⟩
    have ok := pat_ok (ha.same sq) (hb.same sq)
    refine ⟨lq, patE a b, patD da db, rfl, hq, nq, pat_da (ha.same sq) (hb.same sq), ok.1, ok.2.1, ok.2.2, _, rfl, l3, patE a b, patD da db, rfl, sq _ _ e3, n3, pat_da (ha.same sq) (hb.same sq), ok.1, ok.2.1, ok.2.2, rfl, _, rfl, ?_⟩
    refine iteB (by simp) ?_
    clear ok hq nq sq e3 ha hb
    -- the errors
    refine ⟨_, rfl, _, rfl, a, b, rfl, fun m xs G3 hm hxs _ => ?_⟩
    have lx : xs.length = 25 := by rw [hxs.len]; rfl
    have at_ : ∀ {k : Nat} {v : V}, xs[k]? = some v → k < 25 ∧ IsE (C k) G3 v := fun {k v} e => by
      have lt := (List.getElem?_eq_some_iff.mp e).1
      obtain ⟨i, hi, hI⟩ := hxs.get e
      rw [List.getElem?_range (by omega)] at hi
      cases hi
      exact ⟨by omega, hI⟩
    refine ⟨_, rfl, m, rfl, ⟨_, .inl (.inl hm)⟩, fun D1 hD1 => lc_list (K := K) (a := m) (xs := xs) (fun k G' => G' D1 = some (.lst []) ∧ Same G3 G') ⟨upd_same, same_lay hD1⟩ (fun k G' _ ⟨_, s⟩ => .inl (.inl (s _ _ hm))) ?_ ?_⟩
    · rintro k v G' hv ⟨hU, sG⟩
      obtain ⟨lt, hI⟩ := at_ hv
      have hI := hI.same sG
      exact ⟨rfl, _, rfl, isV hI (T.xc k lt) (T.kR k lt) ⟨_, rfl, iteB rfl ⟨_, rfl, isVT hI (T.xc k lt) (T.kV k lt) ⟨_, rfl, iteB rfl ⟨hU, sG⟩⟩⟩⟩⟩
    rintro G4 ⟨hU, sG⟩
    have hm := sG _ _ hm
    have at_ : ∀ {k : Nat} {v : V}, xs[k]? = some v → k < 25 ∧ IsE (C k) G4 v := fun {k v} e => ⟨(at_ e).1, (at_ e).2.same sG⟩
    refine ⟨by show 0 ≤ sizeLine; decide, fun l4 nl4 => ?_⟩
    have s4 := same_lay (o := .lst []) nl4
    refine ⟨.list [], .list [], .lst (.inl (.inl (s4 _ _ hU))) .nil, .lst (.inl (.inl upd_same)) .nil, rfl, rfl, _, rfl, iteB rfl ?_⟩
    have hm := s4 _ _ hm
    have at_ : ∀ {k : Nat} {v : V}, xs[k]? = some v → k < 25 ∧ IsE (C k) (upd G4 l4 (.lst [])) v := fun {k v} e => ⟨(at_ e).1, (at_ e).2.same s4⟩
    clear hU sG
    generalize upd G4 l4 (.lst []) = G5 at hm at_
    -- their kinds
    refine ⟨_, rfl, m, rfl, ⟨_, .inl (.inl hm)⟩, fun D2 hD2 => lc_list (K := K) (a := m) (xs := xs) (fun k G' => ∃ vs, G' D2 = some (.lst vs) ∧ All2 (fun v i => IsN D2 G' v (kd i)) vs (List.range k) ∧ Same G5 G') ⟨[], upd_same, .nil, same_lay hD2⟩ (fun k G' _ ⟨_, _, _, s⟩ => .inl (.inl (s _ _ hm))) ?_ ?_⟩
    · rintro k v G' hv ⟨vs, hU, hV, sG⟩
      obtain ⟨lt, hI⟩ := at_ hv
      refine ⟨rfl, yesT ⟨_, rfl, v, k, rfl, lt, hI.same sG, fun l G2 nl hl s2 => ?_⟩⟩
      have lv := hV.len
      rw [List.length_range] at lv
      have hU2 := s2 _ _ hU
      have nD : l ≠ D2 := by
        intro e
        rw [e, hU] at nl
        cases nl
      refine ⟨_, hU2, small1000 (by omega), vs ++ [.ref l], upd_same, ?_, same_upd (sG.trans s2) hD2⟩
      rw [List.range_succ]
      refine All2.app ?_ (.cons ⟨l, rfl, by rw [upd_ne nD]; exact hl, nD⟩ .nil)
      refine hV.mono fun z i hz => ?_
      obtain ⟨l', rfl, hl', n'⟩ := hz
      exact ⟨l', rfl, by rw [upd_ne n']; exact s2 _ _ hl', n'⟩
    rintro G6 ⟨vs, hU, hV, sG⟩
    have lv := hV.len
    rw [List.length_range, lx] at lv
    have at2 : ∀ {k : Nat} {v : V}, vs[k]? = some v → k < 25 ∧ IsL G6 v (kd k) := fun {k v} e => by
      have lt := (List.getElem?_eq_some_iff.mp e).1
      obtain ⟨i, hi, l, e, h, _⟩ := hV.get e
      rw [List.getElem?_range (by omega)] at hi
      cases hi
      exact ⟨by omega, l, e, h⟩
    have hm := sG _ _ hm
    clear hV sG at_
    -- none has two
    refine ⟨_, rfl, D2, rfl, ⟨_, .inl (.inl hU)⟩, fun D3 hD3 => lc_list (K := K) (a := D2) (xs := vs) (fun k G' => G' D3 = some (.lst []) ∧ Same G6 G') ⟨upd_same, same_lay hD3⟩ (fun k G' _ ⟨_, s⟩ => .inl (.inl (s _ _ hU))) ?_ ?_⟩
    · rintro k v G' hv ⟨hU3, s3⟩
      obtain ⟨lt, l, rfl, hl⟩ := at2 hv
      refine ⟨rfl, _, rfl, l, _, rfl, .inl (.inl (.inl (s3 _ _ hl))), _, _, rfl, rfl, _, rfl, iteB (decide_eq_false ?_) ⟨hU3, s3⟩⟩
      rw [List.length_map]
      rcases kd_cases k lt with h | ⟨j, h, _⟩ <;> rw [h] <;> simp
    rintro G7 ⟨hU3, s3⟩
    have hm := s3 _ _ hm
    have hU := s3 _ _ hU
    have at2 : ∀ {k : Nat} {v : V}, vs[k]? = some v → k < 25 ∧ IsL G7 v (kd k) := fun {k v} e => ⟨(at2 e).1, (at2 e).2.same s3⟩
    refine ⟨by show 0 ≤ sizeLine; decide, fun l5 nl5 => ?_⟩
    have s5 := same_lay (o := .lst []) nl5
    refine ⟨.list [], .list [], .lst (.inl (.inl (s5 _ _ hU3))) .nil, .lst (.inl (.inl upd_same)) .nil, rfl, rfl, _, rfl, iteB rfl ?_⟩
    have hm := s5 _ _ hm
    have hU := s5 _ _ hU
    have at2 : ∀ {k : Nat} {v : V}, vs[k]? = some v → k < 25 ∧ IsL (upd G7 l5 (.lst [])) v (kd k) := fun {k v} e => ⟨(at2 e).1, (at2 e).2.same s5⟩
    clear hU3 s3
    generalize upd G7 l5 (.lst []) = G8 at hm hU at2
    -- all nine, once each
    refine ⟨_, rfl, D2, rfl, ⟨_, .inl (.inl hU)⟩, fun D4 hD4 => lc_list (K := K) (a := D2) (xs := vs) (fun k G' => G' D4 = some (.lst ((kf (List.range k)).map V.int)) ∧ (kf (List.range k)).length ≤ k ∧ Same G8 G') ⟨upd_same, Nat.zero_le _, same_lay hD4⟩ (fun k G' _ ⟨_, _, s⟩ => .inl (.inl (s _ _ hU))) ?_ ?_⟩
    · rintro k v G' hv ⟨hU4, lk, s4⟩
      obtain ⟨lt, l, rfl, hl⟩ := at2 hv
      refine ⟨rfl, _, rfl, by show 0 ≤ sizeLine; decide, fun l6 nl6 => ?_⟩
      have s6 := same_lay (o := .lst []) nl6
      have s46 := s4.trans s6
      have hl6 := s46 _ _ hl
      have hU6 := s6 _ _ hU4
      have ks : kf (List.range (k + 1)) = kf (List.range k) ++ kf [k] := by rw [List.range_succ, kf_app]
      rcases kd_cases k lt with h | ⟨j, h, j0, j9⟩
      · have e0 : kf [k] = [] := by
          show (if (kd k).isEmpty then kf [] else (kd k).head! :: kf []) = []
          rw [h]; rfl
        rw [h] at hl6
        refine ⟨.list [], .list [], .lst (.inl (.inl hl6)) .nil, .lst (.inl (.inl upd_same)) .nil, rfl, rfl, _, rfl, iteB rfl ⟨?_, ?_, s46⟩⟩
        · rw [ks, e0, List.append_nil]; exact hU6
        · rw [ks, e0, List.append_nil]; omega
      · have e0 : kf [k] = [j] := by
          show (if (kd k).isEmpty then kf [] else (kd k).head! :: kf []) = [j]
          rw [h]; rfl
        rw [h] at hl6
        have sh : SeqAt.shaped (.list [.int j]) = true := by
          unfold SeqAt.shaped
          rw [Bool.and_eq_true]
          exact ⟨rfl, rfl⟩
        refine ⟨.list [.int j], .list [], .lst (.inl (.inl hl6)) (.cons (.int j) .nil), .lst (.inl (.inl upd_same)) .nil, sh, rfl, _, rfl, iteA rfl ⟨_, rfl, l, _, 0, _, rfl, rfl, .inl (.inl hl6), atI_nat (j := 0) rfl, .inl ⟨_, rfl, _, hU6, ?_, ?_, ?_, same_upd s46 hD4⟩⟩⟩
        · rw [List.length_map]; exact small1000 (by omega)
        · rw [upd_same, ks, e0, List.map_append]; rfl
        · rw [ks, e0, List.length_append]
          show _ + 1 ≤ _
          omega
    rintro G9 ⟨hU4, _, s4⟩
    have hm := s4 _ _ hm
    rw [lv] at hU4
    refine ⟨D4, _, rfl, .inl (.inl hU4), fun ns' p5 perm up np5 => ?_⟩
    have e9 := perm_up perm up
    subst e9
    have s5 := same_lay (o := .lst (([0, 1, 2, 3, 4, 5, 6, 7, 8] : List Int).map V.int)) np5
    have h5 : (upd G9 p5 (.lst (([0, 1, 2, 3, 4, 5, 6, 7, 8] : List Int).map V.int))) p5 = some (.lst (([0, 1, 2, 3, 4, 5, 6, 7, 8] : List Int).map V.int)) := upd_same
    have hm := s5 _ _ hm
    generalize upd G9 p5 (.lst (([0, 1, 2, 3, 4, 5, 6, 7, 8] : List Int).map V.int)) = G10 at hm h5
    refine ⟨9, rfl, RgOk.of_le (by decide) (by decide) (by decide) (by decide), fun q6 nq6 => ?_⟩
    have s6 := same_lay (o := .lst (rgV 0 9)) nq6
    have h6 : (upd G10 q6 (.lst (rgV 0 9))) q6 = some (.lst (([0, 1, 2, 3, 4, 5, 6, 7, 8] : List Int).map V.int)) := upd_same
    refine ⟨_, _, dp_list (s6 _ _ h5), dp_list h6, by decide +kernel, by decide +kernel, _, rfl, iteB (by decide +kernel) ?_⟩
    exact ⟨_, rfl, m, xs, rfl, .inl (.inl (.inl (s6 _ _ hm))), rfl, by rw [lx]; exact q _⟩
end
end OR

namespace OR
open PySem PySem.Spec PyProof.Rows L2
structure ZAt (K : PySem.W.Frag) : Prop where
  isi : PySem.W.nsIn K mainGlobals "isinstance" = some none
  len : PySem.W.nsIn K mainGlobals "len" = some none
  repr : PySem.W.nsIn K mainGlobals "repr" = some none
  sorted : PySem.W.nsIn K mainGlobals "sorted" = some none
  range : PySem.W.nsIn K mainGlobals "range" = some none
  list : PySem.W.nsIn K mainGlobals "list" = some none
  int : PySem.W.nsIn K mainGlobals "int" = some none
  abs : PySem.W.nsIn K mainGlobals "abs" = some none
  verr : PySem.W.nsIn K mainGlobals "ValueError" = some none
/-- an own error with one field, behind the top -/
structure ErAt (K : PySem.W.Frag) (x q fl : Str) (st : Stmt) (CB CR : Addr) : Prop where
  aB : PySem.W.nsIn K mainGlobals x = some (some (.ref CB))
  aR : PySem.W.nsIn K mainGlobals "RangesError" = some (some (.ref CR))
  cls : ∃ nm q N bs bm sn sub ab col dd k0 k1 k2 k3 k5, K.lookup CB = some (excClassObj nm q CB N bs bm true sn sub ab col dd k0 k1 k2 k3 k5 "ValueError.__new__") ∧ PySem.HandSPX.refsVE bm = true
  sa : PySem.W.findIn K (.ref CB) "__setattr__" = some (some (.builtin "object.__setattr__"))
  ga : PySem.W.findIn K (.ref CB) "__getattribute__" = some (some (.builtin "BaseException.__getattribute__"))
  gg : PySem.W.findIn K (.ref CB) "__getattr__" = some none
  noF : PySem.W.findIn K (.ref CB) fl = some none
  kC : PySem.W.keepIn K (.ref CB) = true
  exC : PySem.W.subIn K (.ref CB) (.type "BaseException") = some true
  tyC : PySem.W.typeIn K (.ref CB) = some (.type "type")
  hdC : PySem.W.hasDictIn K CB = true
  ca : PySem.W.findIn K (.ref CB) "__class__" = some (some (.builtin "object.__class__"))
  cn : PySem.W.specialIn K (.builtin "object.__class__") "__get__" = some (some (.builtin "getset_descriptor.__get__"))
  ct : PySem.W.takesIn K (.builtin "object.__class__") = some true
  cm : PySem.W.mroIn K CB (.type "object") = some true
  sub : PySem.W.subIn K (.ref CB) (.ref CB) = some true
  kR : PySem.W.kitOne K (.ref CB) (.ref CR) = some true
  kV : PySem.W.kitOne K (.ref CB) (.type "ValueError") = some true
  init : ∃ f fd, Fun K "__init__" q st f fd ∧ PySem.W.findIn K (.ref CB) "__init__" = some (some (.ref f)) ∧ PySem.W.typeIn K (.ref f) = some (.type "function")
theorem erCls {K : PySem.W.Frag} {h : Heap} {CB : Addr} {nm q : Str} {N : Addr} {bs bm : List Value} {sn : List Str} {sub : List Value} {ab : Bool} {col : Option Bool} {dd : Option Addr} {m0 m1 m2 m3 m5 : Option Value} (_X : K.In h)
    (l : K.lookup CB = some (excClassObj nm q CB N bs bm true sn sub ab col dd m0 m1 m2 m3 m5 "ValueError.__new__")) (b : PySem.HandSPX.refsVE bm = true) :
    ∃ nm q N bs bm sn sub ab col dd k0 k1 k2 k3 k5, K.lookup CB = some (excClassObj nm q CB N bs bm true sn sub ab col dd k0 k1 k2 k3 k5 "ValueError.__new__") ∧ PySem.HandSPX.refsVE bm = true := ⟨nm, q, N, bs, bm, sn, sub, ab, col, dd, m0, m1, m2, m3, m5, l, b⟩
theorem erInit {K : PySem.W.Frag} {h : Heap} {CB f : Addr} {q : Str} {st : Stmt} {oc : Value} {od an : Option Addr} {osl : Array (Option Value)} {kV doc pm cdv ct : Value} (_X : K.In h) (a : PySem.W.findIn K (.ref CB) "__init__" = some (some (.ref f)))
    (l : K.lookup f = some ⟨oc, od, .func (PySem.W.fnOf "__init__" q (defArgs st) (defBody st) (defScope st) .none kV doc pm an cdv ct), osl⟩) (c : PySem.W.codeIn K cdv q = true) (k : PySem.W.keepIn K (.ref f) = true) (t : PySem.W.typeIn K (.ref f) = some (.type "function")) :
    ∃ f fd, Fun K "__init__" q st f fd ∧ PySem.W.findIn K (.ref CB) "__init__" = some (some (.ref f)) ∧ PySem.W.typeIn K (.ref f) = some (.type "function") := ⟨f, _, fun_mk l c k, a, t⟩
structure ErAt2 (K : PySem.W.Frag) (x q f1 f2 : Str) (st : Stmt) (CB CR : Addr) : Prop where
  aB : PySem.W.nsIn K mainGlobals x = some (some (.ref CB))
  aR : PySem.W.nsIn K mainGlobals "RangesError" = some (some (.ref CR))
  cls : ∃ nm q N bs bm sn sub ab col dd k0 k1 k2 k3 k5, K.lookup CB = some (excClassObj nm q CB N bs bm true sn sub ab col dd k0 k1 k2 k3 k5 "ValueError.__new__") ∧ PySem.HandSPX.refsVE bm = true
  sa : PySem.W.findIn K (.ref CB) "__setattr__" = some (some (.builtin "object.__setattr__"))
  ga : PySem.W.findIn K (.ref CB) "__getattribute__" = some (some (.builtin "BaseException.__getattribute__"))
  gg : PySem.W.findIn K (.ref CB) "__getattr__" = some none
  no1 : PySem.W.findIn K (.ref CB) f1 = some none
  no2 : PySem.W.findIn K (.ref CB) f2 = some none
  kC : PySem.W.keepIn K (.ref CB) = true
  exC : PySem.W.subIn K (.ref CB) (.type "BaseException") = some true
  tyC : PySem.W.typeIn K (.ref CB) = some (.type "type")
  hdC : PySem.W.hasDictIn K CB = true
  ca : PySem.W.findIn K (.ref CB) "__class__" = some (some (.builtin "object.__class__"))
  cn : PySem.W.specialIn K (.builtin "object.__class__") "__get__" = some (some (.builtin "getset_descriptor.__get__"))
  ct : PySem.W.takesIn K (.builtin "object.__class__") = some true
  cm : PySem.W.mroIn K CB (.type "object") = some true
  sub : PySem.W.subIn K (.ref CB) (.ref CB) = some true
  kR : PySem.W.kitOne K (.ref CB) (.ref CR) = some true
  kV : PySem.W.kitOne K (.ref CB) (.type "ValueError") = some true
  init : ∃ f fd, Fun K "__init__" q st f fd ∧ PySem.W.findIn K (.ref CB) "__init__" = some (some (.ref f)) ∧ PySem.W.typeIn K (.ref f) = some (.type "function")

theorem fun_bindsK {K : PySem.W.Frag} {x qual : Str} {st : Stmt} {f : Addr} {fd : FuncData} (F : Fun K x qual st f fd) {s : Shared} {args : Args} {ps : List (Str × Value)}
    (h : ∀ (kV doc pm : Value) (an : Option Addr) (cdv ct : Value), bindArgs (PySem.W.fnOf x qual (defArgs st) (defBody st) (defScope st) .none kV doc pm an cdv ct) args = pure ps) : BindsTo s fd args ps := by
  obtain ⟨oc, od, kV, doc, pm, an, cdv, ct, osl, rfl, _⟩ := F.ex
  exact .of_eq (h ..)
theorem ev_of {P : Program} {w : World} {K : PySem.W.Frag} {mg : Str → Option Value} {base h : Heap} {x q fl : Str} {st : Stmt} {CB CR : Addr} (X : K.In h) (G : h.Ns mainGlobals mg) (e : ErAt K x q fl st CB CR) (zV : mg "ValueError" = none)
    (hb : ∀ (kV doc pm : Value) (an : Option Addr) (cdv ct : Value) (us : List Value), us.length = (["self", fl] : List Str).length → bindArgs (PySem.W.fnOf "__init__" q (defArgs st) (defBody st) (defScope st) .none kV doc pm an cdv ct) ⟨us, []⟩ = pure ((["self", fl] : List Str).zip us))
    (hk : ∀ (kV doc pm : Value) (an : Option Addr) (cdv ct : Value) (z u : Value), bindArgs (PySem.W.fnOf "__init__" q (defArgs st) (defBody st) (defScope st) .none kV doc pm an cdv ct) ⟨[z], [(fl, u)]⟩ = pure ([(("self" : Str), z), (fl, u)] : List (Str × Value)))
    (ok : ∀ f fd, Fun K "__init__" q st f fd → ErT K mg x fl CB CR f → FnOk P w K mg base CX0 1 f fd ["self", fl] (spErI CB fl)) : EvK P w K mg base x fl CB CR := by
  obtain ⟨f, fd, F, i, t⟩ := e.init
  have T : ErT K mg x fl CB CR f := ⟨PySem.W.mg_of X G e.aB, PySem.W.mg_of X G e.aR, zV, ⟨e.cls, e.sa, e.exC, e.tyC, e.kC⟩, ⟨e.ga, e.gg, e.exC, e.hdC⟩, ⟨e.ga, e.gg, e.exC, e.hdC, e.ca, e.cn, e.ct, e.cm⟩, e.noF, i, t, PySem.W.exm_ref e.exC e.hdC e.tyC e.sub, e.kR, e.kV⟩
  exact ⟨f, fd, T, ok f fd F T, F.binds hb, fun s z us _ hl => match us, hl with | [u], _ => fun_bindsK F fun kV doc pm an cdv ct => hk kV doc pm an cdv ct z u⟩
theorem ev2_of {P : Program} {w : World} {K : PySem.W.Frag} {mg : Str → Option Value} {base h : Heap} {x q f1 f2 : Str} {st : Stmt} {CB CR : Addr} (X : K.In h) (G : h.Ns mainGlobals mg) (e : ErAt2 K x q f1 f2 st CB CR) (zV : mg "ValueError" = none)
    (hb : ∀ (kV doc pm : Value) (an : Option Addr) (cdv ct : Value) (us : List Value), us.length = (["self", f1, f2] : List Str).length → bindArgs (PySem.W.fnOf "__init__" q (defArgs st) (defBody st) (defScope st) .none kV doc pm an cdv ct) ⟨us, []⟩ = pure ((["self", f1, f2] : List Str).zip us))
    (hk : ∀ (kV doc pm : Value) (an : Option Addr) (cdv ct : Value) (z u v : Value), bindArgs (PySem.W.fnOf "__init__" q (defArgs st) (defBody st) (defScope st) .none kV doc pm an cdv ct) ⟨[z], [(f1, u), (f2, v)]⟩ = pure ([(("self" : Str), z), (f1, u), (f2, v)] : List (Str × Value)))
    (ok : ∀ f fd, Fun K "__init__" q st f fd → ErT2 K mg x f1 f2 CB CR f → FnOk P w K mg base CX0 1 f fd ["self", f1, f2] (spErI2 CB f1 f2)) : EvK2 P w K mg base x f1 f2 CB CR := by
  obtain ⟨f, fd, F, i, t⟩ := e.init
  have T : ErT2 K mg x f1 f2 CB CR f := ⟨PySem.W.mg_of X G e.aB, PySem.W.mg_of X G e.aR, zV, ⟨e.cls, e.sa, e.exC, e.tyC, e.kC⟩, ⟨e.ga, e.gg, e.exC, e.hdC⟩, ⟨e.ga, e.gg, e.exC, e.hdC, e.ca, e.cn, e.ct, e.cm⟩, e.no1, e.no2, i, t, PySem.W.exm_ref e.exC e.hdC e.tyC e.sub, e.kR, e.kV⟩
  exact ⟨f, fd, T, ok f fd F T, F.binds hb, fun s z us _ hl => match us, hl with | [u, v], _ => fun_bindsK F fun kV doc pm an cdv ct => hk kV doc pm an cdv ct z u v⟩
/-- an error without fields, behind the top -/
structure Ev0At (K : PySem.W.Frag) (x : Str) (CB CR : Addr) : Prop where
  aB : PySem.W.nsIn K mainGlobals x = some (some (.ref CB))
  ex : PySem.W.excIn K CB [.type "ValueError", .type "Exception", .type "BaseException", .type "object"] "ValueError.__new__" = true
  kC : PySem.W.keepIn K (.ref CB) = true
  exC : PySem.W.subIn K (.ref CB) (.type "BaseException") = some true
  tyC : PySem.W.typeIn K (.ref CB) = some (.type "type")
  ga : PySem.W.findIn K (.ref CB) "__getattribute__" = some (some (.builtin "BaseException.__getattribute__"))
  gg : PySem.W.findIn K (.ref CB) "__getattr__" = some none
  hdC : PySem.W.hasDictIn K CB = true
  ca : PySem.W.findIn K (.ref CB) "__class__" = some (some (.builtin "object.__class__"))
  cn : PySem.W.specialIn K (.builtin "object.__class__") "__get__" = some (some (.builtin "getset_descriptor.__get__"))
  ct : PySem.W.takesIn K (.builtin "object.__class__") = some true
  cm : PySem.W.mroIn K CB (.type "object") = some true
  kR : PySem.W.kitOne K (.ref CB) (.ref CR) = some true
  kV : PySem.W.kitOne K (.ref CB) (.type "ValueError") = some true
theorem Ev0At.ev {K : PySem.W.Frag} {x : Str} {CB CR : Addr} {h : Heap} {mg : Str → Option Value} (e : Ev0At K x CB CR) (X : K.In h) (G : h.Ns mainGlobals mg) : Ev0 K mg x CB := ⟨PySem.W.mg_of X G e.aB, e.ex, e.kC, e.exC, e.tyC⟩
theorem Ev0At.xc {K : PySem.W.Frag} {x : Str} {CB CR : Addr} (e : Ev0At K x CB CR) : ExcC K CB := ⟨e.ga, e.gg, e.exC, e.hdC, e.ca, e.cn, e.ct, e.cm⟩
theorem EvK.xc {P : Program} {w : World} {K : PySem.W.Frag} {mg : Str → Option Value} {base : Heap} {x fl : Str} {CB CR : Addr} (M : EvK P w K mg base x fl CB CR) : ExcC K CB := by
  obtain ⟨fI, fd, T, _⟩ := M.ex
  exact T.xc
theorem EvK2.xc {P : Program} {w : World} {K : PySem.W.Frag} {mg : Str → Option Value} {base : Heap} {x f1 f2 : Str} {CB CR : Addr} (M : EvK2 P w K mg base x f1 f2 CB CR) : ExcC K CB := by
  obtain ⟨fI, fd, T, _⟩ := M.ex
  exact T.xc
structure KRow (K : PySem.W.Frag) (c d0 d1 d2 d3 d4 d5 d6 d7 d8 : Addr) (b0 b1 b2 b3 b4 b5 b6 b7 b8 : Bool) : Prop where
  h0 : PySem.W.kitOne K (.ref c) (.ref d0) = some b0
  h1 : PySem.W.kitOne K (.ref c) (.ref d1) = some b1
  h2 : PySem.W.kitOne K (.ref c) (.ref d2) = some b2
  h3 : PySem.W.kitOne K (.ref c) (.ref d3) = some b3
  h4 : PySem.W.kitOne K (.ref c) (.ref d4) = some b4
  h5 : PySem.W.kitOne K (.ref c) (.ref d5) = some b5
  h6 : PySem.W.kitOne K (.ref c) (.ref d6) = some b6
  h7 : PySem.W.kitOne K (.ref c) (.ref d7) = some b7
  h8 : PySem.W.kitOne K (.ref c) (.ref d8) = some b8
theorem KRow.at_ {K : PySem.W.Frag} {c d0 d1 d2 d3 d4 d5 d6 d7 d8 : Addr} {b0 b1 b2 b3 b4 b5 b6 b7 b8 : Bool} (r : KRow K c d0 d1 d2 d3 d4 d5 d6 d7 d8 b0 b1 b2 b3 b4 b5 b6 b7 b8) {D : Nat → Addr} {B : Nat → Bool}
    (hD : [D 0, D 1, D 2, D 3, D 4, D 5, D 6, D 7, D 8] = [d0, d1, d2, d3, d4, d5, d6, d7, d8]) (hB : [B 0, B 1, B 2, B 3, B 4, B 5, B 6, B 7, B 8] = [b0, b1, b2, b3, b4, b5, b6, b7, b8]) : ∀ k, k < 9 → PySem.W.kitOne K (.ref c) (.ref (D k)) = some (B k) := by
  simp only [List.cons.injEq, and_true] at hD hB
  obtain ⟨rfl, rfl, rfl, rfl, rfl, rfl, rfl, rfl, rfl⟩ := hD
  obtain ⟨rfl, rfl, rfl, rfl, rfl, rfl, rfl, rfl, rfl⟩ := hB
  intro k hk
  match k, hk with
  | 0, _ => exact r.h0
  | 1, _ => exact r.h1
  | 2, _ => exact r.h2
  | 3, _ => exact r.h3
  | 4, _ => exact r.h4
  | 5, _ => exact r.h5
  | 6, _ => exact r.h6
  | 7, _ => exact r.h7
  | 8, _ => exact r.h8
  | n + 9, h => exact absurd h (by omega)
end OR

namespace OR
open PySem PySem.Spec PyProof.Rows L2
set_option maxHeartbeats 0 in
theorem all_mk {l : PySem.W.OpenLaw} {w : World} {K : PySem.W.Frag} {h : Heap} {mg : Str → Option Value} {fa CR c0 c1 c2 c3 c4 c5 c6 c7 c8 c9 c10 c11 c12 c13 c14 c15 c16 c17 c18 c19 c20 c21 c22 c23 c24 : Addr} (X : K.In h) (G : h.Ns mainGlobals mg) (hfa : mg "law" = some (.ref fa)) (Z : ZAt K)
    (e0 : ErAt K "BadStretch" "BadStretch.__init__" "index" sBadStretchInit c0 CR) (e1 : ErAt K "BadText" "BadText.__init__" "index" sBadTextInit c1 CR) (e2 : ErAt2 K "BadLine" "BadLine.__init__" "row" "index" sBadLineInit c2 CR) (e3 : ErAt K "BadWord" "BadWord.__init__" "word" sBadWordInit c3 CR) (e4 : ErAt K "SameFunction" "SameFunction.__init__" "function" sSameFunctionInit c4 CR) (e5 : ErAt K "BadSign" "BadSign.__init__" "sign" sBadSignInit c5 CR) (e6 : ErAt K "BadFactor" "BadFactor.__init__" "factor" sBadFactorInit c6 CR) (e7 : ErAt2 K "BadPieces" "BadPieces.__init__" "function" "index" sBadPiecesInit c7 CR) (e8 : ErAt K "BadFunctions" "BadFunctions.__init__" "count" sBadFunctionsInit c8 CR) (e9 : ErAt K "Twice" "Twice.__init__" "word" sTwiceInit c9 CR) (e10 : ErAt K "TooMany" "TooMany.__init__" "count" sTooManyInit c10 CR) (e11 : ErAt K "NoFunction" "NoFunction.__init__" "function" sNoFunctionInit c11 CR) (e12 : ErAt K "NoPlace" "NoPlace.__init__" "place" sNoPlaceInit c12 CR) (e13 : ErAt K "NoClause" "NoClause.__init__" "index" sNoClauseInit c13 CR) (e14 : ErAt2 K "NoBound" "NoBound.__init__" "function" "place" sNoBoundInit c14 CR) (e15 : ErAt K "BadName" "BadName.__init__" "name" sBadNameInit c15 CR) (e16 : ErAt K "Unknown" "Unknown.__init__" "name" sUnknownInit c16 CR) (e17 : ErAt K "Known" "Known.__init__" "name" sKnownInit c17 CR) (e18 : ErAt2 K "Settled" "Settled.__init__" "function" "place" sSettledInit c18 CR) (e19 : ErAt2 K "NotLet" "NotLet.__init__" "function" "place" sNotLetInit c19 CR) (e20 : Ev0At K "OtherShape" c20 CR) (e21 : Ev0At K "BadKind" c21 CR) (e22 : Ev0At K "Impossible" c22 CR) (e23 : Ev0At K "NoFact" c23 CR) (e24 : Ev0At K "Unfair" c24 CR) (r0 : KRow K c0 c0 c1 c11 c12 c20 c22 c10 c18 c19 true false false false false false false false false) (r1 : KRow K c1 c0 c1 c11 c12 c20 c22 c10 c18 c19 false true false false false false false false false) (r2 : KRow K c2 c0 c1 c11 c12 c20 c22 c10 c18 c19 false false false false false false false false false) (r3 : KRow K c3 c0 c1 c11 c12 c20 c22 c10 c18 c19 false false false false false false false false false) (r4 : KRow K c4 c0 c1 c11 c12 c20 c22 c10 c18 c19 false false false false false false false false false) (r5 : KRow K c5 c0 c1 c11 c12 c20 c22 c10 c18 c19 false false false false false false false false false) (r6 : KRow K c6 c0 c1 c11 c12 c20 c22 c10 c18 c19 false false false false false false false false false) (r7 : KRow K c7 c0 c1 c11 c12 c20 c22 c10 c18 c19 false false false false false false false false false) (r8 : KRow K c8 c0 c1 c11 c12 c20 c22 c10 c18 c19 false false false false false false false false false) (r9 : KRow K c9 c0 c1 c11 c12 c20 c22 c10 c18 c19 false false false false false false false false false) (r10 : KRow K c10 c0 c1 c11 c12 c20 c22 c10 c18 c19 false false false false false false true false false) (r11 : KRow K c11 c0 c1 c11 c12 c20 c22 c10 c18 c19 false false true false false false false false false) (r12 : KRow K c12 c0 c1 c11 c12 c20 c22 c10 c18 c19 false false false true false false false false false) (r13 : KRow K c13 c0 c1 c11 c12 c20 c22 c10 c18 c19 false false false false false false false false false) (r14 : KRow K c14 c0 c1 c11 c12 c20 c22 c10 c18 c19 false false false false false false false false false) (r15 : KRow K c15 c0 c1 c11 c12 c20 c22 c10 c18 c19 false false false false false false false false false) (r16 : KRow K c16 c0 c1 c11 c12 c20 c22 c10 c18 c19 false false false false false false false false false) (r17 : KRow K c17 c0 c1 c11 c12 c20 c22 c10 c18 c19 false false false false false false false false false) (r18 : KRow K c18 c0 c1 c11 c12 c20 c22 c10 c18 c19 false false false false false false false true false) (r19 : KRow K c19 c0 c1 c11 c12 c20 c22 c10 c18 c19 false false false false false false false false true) (r20 : KRow K c20 c0 c1 c11 c12 c20 c22 c10 c18 c19 false false false false true false false false false) (r21 : KRow K c21 c0 c1 c11 c12 c20 c22 c10 c18 c19 false false false false false false false false false) (r22 : KRow K c22 c0 c1 c11 c12 c20 c22 c10 c18 c19 false false false false false true false false false) (r23 : KRow K c23 c0 c1 c11 c12 c20 c22 c10 c18 c19 false false false false false false false false false) (r24 : KRow K c24 c0 c1 c11 c12 c20 c22 c10 c18 c19 false false false false false false false false false) (fDPen : FnAt K "_law_pen" sPen) (fDDraw : FnAt K "_law_draw" sDraw) (fDPick : FnAt K "_law_pick" sPick) (fDWhole : FnAt K "_law_whole" sWhole) (fDAny : FnAt K "_law_any" sAny) (fDBP : FnAt K "_law_by_position" sByPosition) (fDBN : FnAt K "_law_by_name" sByName) (fDMA : FnAt K "_law_made" sMade) (fDKI : FnAt K "_law_kinds" sKinds) (fLaw : FnAt K "law" sLaw) :
    ∃ fd : FuncData, (∀ (s : Shared) (v : Value), BindsTo s fd ⟨[v], []⟩ [("_law_script", v)]) ∧ ∀ base : Heap, K.In base → base.Ns mainGlobals mg → FnG l.prog w K mg base 5 fa fd ["_law_script"] (spLaw K) := by
  obtain ⟨f, fd, F, e⟩ := fLaw.ex
  have e := hfa.symm.trans (PySem.W.mg_of X G e)
  cases e
  refine ⟨fd, fun s v => ?_, fun base _ _ => ?_⟩
  · obtain ⟨oc, od, kV, doc, pm, an, cdv, ct, osl, rfl, _⟩ := F.ex
    exact .of_eq rfl
  have none : ∀ {x : Str}, PySem.W.nsIn K mainGlobals x = some none → mg x = none := fun z => PySem.W.mg_none_of X G z
  have BL : Bl mg := ⟨none Z.int, none Z.len, none Z.abs, none Z.list⟩
  have E0 : EvK l.prog w K mg base "BadStretch" "index" c0 CR := ev_of X G e0 (none Z.verr) (fun _ _ _ _ _ _ us hl => match us, hl with | [_, _], _ => rfl) (fun _ _ _ _ _ _ _ _ => rfl) fun f fd F T => ok_IBadStretch F T
  have E1 : EvK l.prog w K mg base "BadText" "index" c1 CR := ev_of X G e1 (none Z.verr) (fun _ _ _ _ _ _ us hl => match us, hl with | [_, _], _ => rfl) (fun _ _ _ _ _ _ _ _ => rfl) fun f fd F T => ok_IBadText F T
  have E2 : EvK2 l.prog w K mg base "BadLine" "row" "index" c2 CR := ev2_of X G e2 (none Z.verr) (fun _ _ _ _ _ _ us hl => match us, hl with | [_, _, _], _ => rfl) (fun _ _ _ _ _ _ _ _ _ => rfl) fun f fd F T => ok_IBadLine F T
  have E3 : EvK l.prog w K mg base "BadWord" "word" c3 CR := ev_of X G e3 (none Z.verr) (fun _ _ _ _ _ _ us hl => match us, hl with | [_, _], _ => rfl) (fun _ _ _ _ _ _ _ _ => rfl) fun f fd F T => ok_IBadWord F T
  have E4 : EvK l.prog w K mg base "SameFunction" "function" c4 CR := ev_of X G e4 (none Z.verr) (fun _ _ _ _ _ _ us hl => match us, hl with | [_, _], _ => rfl) (fun _ _ _ _ _ _ _ _ => rfl) fun f fd F T => ok_ISameFunction F T
  have E5 : EvK l.prog w K mg base "BadSign" "sign" c5 CR := ev_of X G e5 (none Z.verr) (fun _ _ _ _ _ _ us hl => match us, hl with | [_, _], _ => rfl) (fun _ _ _ _ _ _ _ _ => rfl) fun f fd F T => ok_IBadSign F T
  have E6 : EvK l.prog w K mg base "BadFactor" "factor" c6 CR := ev_of X G e6 (none Z.verr) (fun _ _ _ _ _ _ us hl => match us, hl with | [_, _], _ => rfl) (fun _ _ _ _ _ _ _ _ => rfl) fun f fd F T => ok_IBadFactor F T
  have E7 : EvK2 l.prog w K mg base "BadPieces" "function" "index" c7 CR := ev2_of X G e7 (none Z.verr) (fun _ _ _ _ _ _ us hl => match us, hl with | [_, _, _], _ => rfl) (fun _ _ _ _ _ _ _ _ _ => rfl) fun f fd F T => ok_IBadPieces F T
  have E8 : EvK l.prog w K mg base "BadFunctions" "count" c8 CR := ev_of X G e8 (none Z.verr) (fun _ _ _ _ _ _ us hl => match us, hl with | [_, _], _ => rfl) (fun _ _ _ _ _ _ _ _ => rfl) fun f fd F T => ok_IBadFunctions F T
  have E9 : EvK l.prog w K mg base "Twice" "word" c9 CR := ev_of X G e9 (none Z.verr) (fun _ _ _ _ _ _ us hl => match us, hl with | [_, _], _ => rfl) (fun _ _ _ _ _ _ _ _ => rfl) fun f fd F T => ok_ITwice F T
  have E10 : EvK l.prog w K mg base "TooMany" "count" c10 CR := ev_of X G e10 (none Z.verr) (fun _ _ _ _ _ _ us hl => match us, hl with | [_, _], _ => rfl) (fun _ _ _ _ _ _ _ _ => rfl) fun f fd F T => ok_ITooMany F T
  have E11 : EvK l.prog w K mg base "NoFunction" "function" c11 CR := ev_of X G e11 (none Z.verr) (fun _ _ _ _ _ _ us hl => match us, hl with | [_, _], _ => rfl) (fun _ _ _ _ _ _ _ _ => rfl) fun f fd F T => ok_INoFunction F T
  have E12 : EvK l.prog w K mg base "NoPlace" "place" c12 CR := ev_of X G e12 (none Z.verr) (fun _ _ _ _ _ _ us hl => match us, hl with | [_, _], _ => rfl) (fun _ _ _ _ _ _ _ _ => rfl) fun f fd F T => ok_INoPlace F T
  have E13 : EvK l.prog w K mg base "NoClause" "index" c13 CR := ev_of X G e13 (none Z.verr) (fun _ _ _ _ _ _ us hl => match us, hl with | [_, _], _ => rfl) (fun _ _ _ _ _ _ _ _ => rfl) fun f fd F T => ok_INoClause F T
  have E14 : EvK2 l.prog w K mg base "NoBound" "function" "place" c14 CR := ev2_of X G e14 (none Z.verr) (fun _ _ _ _ _ _ us hl => match us, hl with | [_, _, _], _ => rfl) (fun _ _ _ _ _ _ _ _ _ => rfl) fun f fd F T => ok_INoBound F T
  have E15 : EvK l.prog w K mg base "BadName" "name" c15 CR := ev_of X G e15 (none Z.verr) (fun _ _ _ _ _ _ us hl => match us, hl with | [_, _], _ => rfl) (fun _ _ _ _ _ _ _ _ => rfl) fun f fd F T => ok_IBadName F T
  have E16 : EvK l.prog w K mg base "Unknown" "name" c16 CR := ev_of X G e16 (none Z.verr) (fun _ _ _ _ _ _ us hl => match us, hl with | [_, _], _ => rfl) (fun _ _ _ _ _ _ _ _ => rfl) fun f fd F T => ok_IUnknown F T
  have E17 : EvK l.prog w K mg base "Known" "name" c17 CR := ev_of X G e17 (none Z.verr) (fun _ _ _ _ _ _ us hl => match us, hl with | [_, _], _ => rfl) (fun _ _ _ _ _ _ _ _ => rfl) fun f fd F T => ok_IKnown F T
  have E18 : EvK2 l.prog w K mg base "Settled" "function" "place" c18 CR := ev2_of X G e18 (none Z.verr) (fun _ _ _ _ _ _ us hl => match us, hl with | [_, _, _], _ => rfl) (fun _ _ _ _ _ _ _ _ _ => rfl) fun f fd F T => ok_ISettled F T
  have E19 : EvK2 l.prog w K mg base "NotLet" "function" "place" c19 CR := ev2_of X G e19 (none Z.verr) (fun _ _ _ _ _ _ us hl => match us, hl with | [_, _, _], _ => rfl) (fun _ _ _ _ _ _ _ _ _ => rfl) fun f fd F T => ok_INotLet F T
  have M : Evs l.prog w K mg base (fun i => ([c0, c1, c2, c3, c4, c5, c6, c7, c8, c9, c10, c11, c12, c13, c14, c15, c16, c17, c18, c19, c20, c21, c22, c23, c24] : List Addr).getD i 0) CR := ⟨E0, E1, E2, E3, E4, E5, E6, E7, E8, E9, E10, E11, E12, E13, E14, E15, E16, E17, E18, E19⟩
  have V0 : Ev0s K mg (fun i => ([c0, c1, c2, c3, c4, c5, c6, c7, c8, c9, c10, c11, c12, c13, c14, c15, c16, c17, c18, c19, c20, c21, c22, c23, c24] : List Addr).getD i 0) := ⟨e20.ev X G, e21.ev X G, e22.ev X G, e23.ev X G, e24.ev X G⟩
  have xc : ∀ i, i < 25 → ExcC K ((fun i => ([c0, c1, c2, c3, c4, c5, c6, c7, c8, c9, c10, c11, c12, c13, c14, c15, c16, c17, c18, c19, c20, c21, c22, c23, c24] : List Addr).getD i 0) i) := fun i hi => match i, hi with | 0, _ => E0.xc | 1, _ => E1.xc | 2, _ => E2.xc | 3, _ => E3.xc | 4, _ => E4.xc | 5, _ => E5.xc | 6, _ => E6.xc | 7, _ => E7.xc | 8, _ => E8.xc | 9, _ => E9.xc | 10, _ => E10.xc | 11, _ => E11.xc | 12, _ => E12.xc | 13, _ => E13.xc | 14, _ => E14.xc | 15, _ => E15.xc | 16, _ => E16.xc | 17, _ => E17.xc | 18, _ => E18.xc | 19, _ => E19.xc | 20, _ => e20.xc | 21, _ => e21.xc | 22, _ => e22.xc | 23, _ => e23.xc | 24, _ => e24.xc | n + 25, h => absurd h (by omega)
  have kt : ∀ i, i < 25 → ∀ k, k < 9 → PySem.W.kitOne K (.ref ((fun i => ([c0, c1, c2, c3, c4, c5, c6, c7, c8, c9, c10, c11, c12, c13, c14, c15, c16, c17, c18, c19, c20, c21, c22, c23, c24] : List Addr).getD i 0) i)) (.ref ((fun i => ([c0, c1, c2, c3, c4, c5, c6, c7, c8, c9, c10, c11, c12, c13, c14, c15, c16, c17, c18, c19, c20, c21, c22, c23, c24] : List Addr).getD i 0) (dk k))) = some (decide (i = dk k)) := fun i hi k hk => match i, hi with | 0, _ => r0.at_ (D := fun k => (fun i => ([c0, c1, c2, c3, c4, c5, c6, c7, c8, c9, c10, c11, c12, c13, c14, c15, c16, c17, c18, c19, c20, c21, c22, c23, c24] : List Addr).getD i 0) (dk k)) (B := fun k => decide (0 = dk k)) rfl rfl k hk | 1, _ => r1.at_ (D := fun k => (fun i => ([c0, c1, c2, c3, c4, c5, c6, c7, c8, c9, c10, c11, c12, c13, c14, c15, c16, c17, c18, c19, c20, c21, c22, c23, c24] : List Addr).getD i 0) (dk k)) (B := fun k => decide (1 = dk k)) rfl rfl k hk | 2, _ => r2.at_ (D := fun k => (fun i => ([c0, c1, c2, c3, c4, c5, c6, c7, c8, c9, c10, c11, c12, c13, c14, c15, c16, c17, c18, c19, c20, c21, c22, c23, c24] : List Addr).getD i 0) (dk k)) (B := fun k => decide (2 = dk k)) rfl rfl k hk | 3, _ => r3.at_ (D := fun k => (fun i => ([c0, c1, c2, c3, c4, c5, c6, c7, c8, c9, c10, c11, c12, c13, c14, c15, c16, c17, c18, c19, c20, c21, c22, c23, c24] : List Addr).getD i 0) (dk k)) (B := fun k => decide (3 = dk k)) rfl rfl k hk | 4, _ => r4.at_ (D := fun k => (fun i => ([c0, c1, c2, c3, c4, c5, c6, c7, c8, c9, c10, c11, c12, c13, c14, c15, c16, c17, c18, c19, c20, c21, c22, c23, c24] : List Addr).getD i 0) (dk k)) (B := fun k => decide (4 = dk k)) rfl rfl k hk | 5, _ => r5.at_ (D := fun k => (fun i => ([c0, c1, c2, c3, c4, c5, c6, c7, c8, c9, c10, c11, c12, c13, c14, c15, c16, c17, c18, c19, c20, c21, c22, c23, c24] : List Addr).getD i 0) (dk k)) (B := fun k => decide (5 = dk k)) rfl rfl k hk | 6, _ => r6.at_ (D := fun k => (fun i => ([c0, c1, c2, c3, c4, c5, c6, c7, c8, c9, c10, c11, c12, c13, c14, c15, c16, c17, c18, c19, c20, c21, c22, c23, c24] : List Addr).getD i 0) (dk k)) (B := fun k => decide (6 = dk k)) rfl rfl k hk | 7, _ => r7.at_ (D := fun k => (fun i => ([c0, c1, c2, c3, c4, c5, c6, c7, c8, c9, c10, c11, c12, c13, c14, c15, c16, c17, c18, c19, c20, c21, c22, c23, c24] : List Addr).getD i 0) (dk k)) (B := fun k => decide (7 = dk k)) rfl rfl k hk | 8, _ => r8.at_ (D := fun k => (fun i => ([c0, c1, c2, c3, c4, c5, c6, c7, c8, c9, c10, c11, c12, c13, c14, c15, c16, c17, c18, c19, c20, c21, c22, c23, c24] : List Addr).getD i 0) (dk k)) (B := fun k => decide (8 = dk k)) rfl rfl k hk | 9, _ => r9.at_ (D := fun k => (fun i => ([c0, c1, c2, c3, c4, c5, c6, c7, c8, c9, c10, c11, c12, c13, c14, c15, c16, c17, c18, c19, c20, c21, c22, c23, c24] : List Addr).getD i 0) (dk k)) (B := fun k => decide (9 = dk k)) rfl rfl k hk | 10, _ => r10.at_ (D := fun k => (fun i => ([c0, c1, c2, c3, c4, c5, c6, c7, c8, c9, c10, c11, c12, c13, c14, c15, c16, c17, c18, c19, c20, c21, c22, c23, c24] : List Addr).getD i 0) (dk k)) (B := fun k => decide (10 = dk k)) rfl rfl k hk | 11, _ => r11.at_ (D := fun k => (fun i => ([c0, c1, c2, c3, c4, c5, c6, c7, c8, c9, c10, c11, c12, c13, c14, c15, c16, c17, c18, c19, c20, c21, c22, c23, c24] : List Addr).getD i 0) (dk k)) (B := fun k => decide (11 = dk k)) rfl rfl k hk | 12, _ => r12.at_ (D := fun k => (fun i => ([c0, c1, c2, c3, c4, c5, c6, c7, c8, c9, c10, c11, c12, c13, c14, c15, c16, c17, c18, c19, c20, c21, c22, c23, c24] : List Addr).getD i 0) (dk k)) (B := fun k => decide (12 = dk k)) rfl rfl k hk | 13, _ => r13.at_ (D := fun k => (fun i => ([c0, c1, c2, c3, c4, c5, c6, c7, c8, c9, c10, c11, c12, c13, c14, c15, c16, c17, c18, c19, c20, c21, c22, c23, c24] : List Addr).getD i 0) (dk k)) (B := fun k => decide (13 = dk k)) rfl rfl k hk | 14, _ => r14.at_ (D := fun k => (fun i => ([c0, c1, c2, c3, c4, c5, c6, c7, c8, c9, c10, c11, c12, c13, c14, c15, c16, c17, c18, c19, c20, c21, c22, c23, c24] : List Addr).getD i 0) (dk k)) (B := fun k => decide (14 = dk k)) rfl rfl k hk | 15, _ => r15.at_ (D := fun k => (fun i => ([c0, c1, c2, c3, c4, c5, c6, c7, c8, c9, c10, c11, c12, c13, c14, c15, c16, c17, c18, c19, c20, c21, c22, c23, c24] : List Addr).getD i 0) (dk k)) (B := fun k => decide (15 = dk k)) rfl rfl k hk | 16, _ => r16.at_ (D := fun k => (fun i => ([c0, c1, c2, c3, c4, c5, c6, c7, c8, c9, c10, c11, c12, c13, c14, c15, c16, c17, c18, c19, c20, c21, c22, c23, c24] : List Addr).getD i 0) (dk k)) (B := fun k => decide (16 = dk k)) rfl rfl k hk | 17, _ => r17.at_ (D := fun k => (fun i => ([c0, c1, c2, c3, c4, c5, c6, c7, c8, c9, c10, c11, c12, c13, c14, c15, c16, c17, c18, c19, c20, c21, c22, c23, c24] : List Addr).getD i 0) (dk k)) (B := fun k => decide (17 = dk k)) rfl rfl k hk | 18, _ => r18.at_ (D := fun k => (fun i => ([c0, c1, c2, c3, c4, c5, c6, c7, c8, c9, c10, c11, c12, c13, c14, c15, c16, c17, c18, c19, c20, c21, c22, c23, c24] : List Addr).getD i 0) (dk k)) (B := fun k => decide (18 = dk k)) rfl rfl k hk | 19, _ => r19.at_ (D := fun k => (fun i => ([c0, c1, c2, c3, c4, c5, c6, c7, c8, c9, c10, c11, c12, c13, c14, c15, c16, c17, c18, c19, c20, c21, c22, c23, c24] : List Addr).getD i 0) (dk k)) (B := fun k => decide (19 = dk k)) rfl rfl k hk | 20, _ => r20.at_ (D := fun k => (fun i => ([c0, c1, c2, c3, c4, c5, c6, c7, c8, c9, c10, c11, c12, c13, c14, c15, c16, c17, c18, c19, c20, c21, c22, c23, c24] : List Addr).getD i 0) (dk k)) (B := fun k => decide (20 = dk k)) rfl rfl k hk | 21, _ => r21.at_ (D := fun k => (fun i => ([c0, c1, c2, c3, c4, c5, c6, c7, c8, c9, c10, c11, c12, c13, c14, c15, c16, c17, c18, c19, c20, c21, c22, c23, c24] : List Addr).getD i 0) (dk k)) (B := fun k => decide (21 = dk k)) rfl rfl k hk | 22, _ => r22.at_ (D := fun k => (fun i => ([c0, c1, c2, c3, c4, c5, c6, c7, c8, c9, c10, c11, c12, c13, c14, c15, c16, c17, c18, c19, c20, c21, c22, c23, c24] : List Addr).getD i 0) (dk k)) (B := fun k => decide (22 = dk k)) rfl rfl k hk | 23, _ => r23.at_ (D := fun k => (fun i => ([c0, c1, c2, c3, c4, c5, c6, c7, c8, c9, c10, c11, c12, c13, c14, c15, c16, c17, c18, c19, c20, c21, c22, c23, c24] : List Addr).getD i 0) (dk k)) (B := fun k => decide (23 = dk k)) rfl rfl k hk | 24, _ => r24.at_ (D := fun k => (fun i => ([c0, c1, c2, c3, c4, c5, c6, c7, c8, c9, c10, c11, c12, c13, c14, c15, c16, c17, c18, c19, c20, c21, c22, c23, c24] : List Addr).getD i 0) (dk k)) (B := fun k => decide (24 = dk k)) rfl rfl k hk | n + 25, h => absurd h (by omega)
  have kR : ∀ i, i < 25 → PySem.W.kitOne K (.ref ((fun i => ([c0, c1, c2, c3, c4, c5, c6, c7, c8, c9, c10, c11, c12, c13, c14, c15, c16, c17, c18, c19, c20, c21, c22, c23, c24] : List Addr).getD i 0) i)) (.ref CR) = some true := fun i hi => match i, hi with | 0, _ => e0.kR | 1, _ => e1.kR | 2, _ => e2.kR | 3, _ => e3.kR | 4, _ => e4.kR | 5, _ => e5.kR | 6, _ => e6.kR | 7, _ => e7.kR | 8, _ => e8.kR | 9, _ => e9.kR | 10, _ => e10.kR | 11, _ => e11.kR | 12, _ => e12.kR | 13, _ => e13.kR | 14, _ => e14.kR | 15, _ => e15.kR | 16, _ => e16.kR | 17, _ => e17.kR | 18, _ => e18.kR | 19, _ => e19.kR | 20, _ => e20.kR | 21, _ => e21.kR | 22, _ => e22.kR | 23, _ => e23.kR | 24, _ => e24.kR | n + 25, h => absurd h (by omega)
  have kV : ∀ i, i < 25 → PySem.W.kitOne K (.ref ((fun i => ([c0, c1, c2, c3, c4, c5, c6, c7, c8, c9, c10, c11, c12, c13, c14, c15, c16, c17, c18, c19, c20, c21, c22, c23, c24] : List Addr).getD i 0) i)) (.type "ValueError") = some true := fun i hi => match i, hi with | 0, _ => e0.kV | 1, _ => e1.kV | 2, _ => e2.kV | 3, _ => e3.kV | 4, _ => e4.kV | 5, _ => e5.kV | 6, _ => e6.kV | 7, _ => e7.kV | 8, _ => e8.kV | 9, _ => e9.kV | 10, _ => e10.kV | 11, _ => e11.kV | 12, _ => e12.kV | 13, _ => e13.kV | 14, _ => e14.kV | 15, _ => e15.kV | 16, _ => e16.kV | 17, _ => e17.kV | 18, _ => e18.kV | 19, _ => e19.kV | 20, _ => e20.kV | 21, _ => e21.kV | 22, _ => e22.kV | 23, _ => e23.kV | 24, _ => e24.kV | n + 25, h => absurd h (by omega)
  have T : KiT K mg (fun i => ([c0, c1, c2, c3, c4, c5, c6, c7, c8, c9, c10, c11, c12, c13, c14, c15, c16, c17, c18, c19, c20, c21, c22, c23, c24] : List Addr).getD i 0) CR := ⟨xc, kt, kR, kV, PySem.W.mg_of X G e0.aR, none Z.verr, PySem.W.mg_of X G e0.aB, PySem.W.mg_of X G e1.aB, PySem.W.mg_of X G e11.aB, PySem.W.mg_of X G e12.aB, PySem.W.mg_of X G e20.aB, PySem.W.mg_of X G e22.aB, PySem.W.mg_of X G e10.aB, PySem.W.mg_of X G e18.aB, PySem.W.mg_of X G e19.aB⟩
  have DPen : Cl l.prog w K mg base 1 "_law_pen" ["_law_script"] (spPen K) := cl_of fDPen X G (fun _ _ _ _ _ _ us hl => match us, hl with | [_], _ => rfl) fun f fd F => ok_pen F BL
  have DDraw : Cl l.prog w K mg base 1 "_law_draw" ["_law_pen_here", "_law_many"] spDraw := cl_of fDDraw X G (fun _ _ _ _ _ _ us hl => match us, hl with | [_, _], _ => rfl) fun f fd F => ok_draw F BL
  have DPick : Cl l.prog w K mg base 2 "_law_pick" ["_law_pen_here", "_law_items"] (spPick K) := cl_of fDPick X G (fun _ _ _ _ _ _ us hl => match us, hl with | [_, _], _ => rfl) fun f fd F => ok_pick F BL DDraw
  have DWhole : Cl l.prog w K mg base 3 "_law_whole" ["_law_pen_here"] spWhole := cl_of fDWhole X G (fun _ _ _ _ _ _ us hl => match us, hl with | [_], _ => rfl) fun f fd F => ok_whole F DDraw DPick
  have DAny : Cl l.prog w K mg base 4 "_law_any" ["_law_pen_here"] spAny := cl_of fDAny X G (fun _ _ _ _ _ _ us hl => match us, hl with | [_], _ => rfl) fun f fd F => ok_any F DPick DWhole
  have DBP : Cl l.prog w K mg base 3 "_law_by_position" ["_law_a", "_law_b"] spBy := cl_of fDBP X G (fun _ _ _ _ _ _ us hl => match us, hl with | [_, _], _ => rfl) fun f fd F => ok_BP F M
  have DBN : Cl l.prog w K mg base 3 "_law_by_name" ["_law_a", "_law_b"] spBy := cl_of fDBN X G (fun _ _ _ _ _ _ us hl => match us, hl with | [_, _], _ => rfl) fun f fd F => ok_BN F M
  have DMA : Cl l.prog w K mg base 3 "_law_made" ["_law_a", "_law_b"] (spMade (fun i => ([c0, c1, c2, c3, c4, c5, c6, c7, c8, c9, c10, c11, c12, c13, c14, c15, c16, c17, c18, c19, c20, c21, c22, c23, c24] : List Addr).getD i 0)) := cl_of fDMA X G (fun _ _ _ _ _ _ us hl => match us, hl with | [_, _], _ => rfl) fun f fd F => ok_made F M V0
  have DKI : Cl l.prog w K mg base 1 "_law_kinds" ["_law_error"] (spKinds (fun i => ([c0, c1, c2, c3, c4, c5, c6, c7, c8, c9, c10, c11, c12, c13, c14, c15, c16, c17, c18, c19, c20, c21, c22, c23, c24] : List Addr).getD i 0)) := cl_of fDKI X G (fun _ _ _ _ _ _ us hl => match us, hl with | [_], _ => rfl) fun f fd F => ok_kinds F (none Z.isi) (none Z.range) (none Z.len) T
  exact ok_law F (none Z.len) (none Z.isi) (none Z.repr) (none Z.sorted) (none Z.range) (none Z.list) (none Z.int) T DPen DAny DBP DBN DMA DKI
end OR
open PySem PySem.W PyProof.Rows
set_option maxRecDepth 100000 in
set_option maxHeartbeats 0 in
theorem PySem.Challenge.cw_openranges_k00_errors_holds : PySem.Challenge.rw_openranges_k00_errors.Holds := by
  w_on; o_law; k_head; (case hw => w_witness2)
  k_fill
  refine OR.walk_g (l := PySem.Challenge.rw_openranges_k00_errors) (n := 63) (k := 5) (x := "_law_script") (sp := fun w => OR.spLaw _) rfl (by decide) rfl ⟨rfl, by decide, by decide⟩ (fun w h Y => PySem.W.kIn_of Y) ?F (fun _ _ a ns hl _ hS => ⟨a, ns, rfl, hS, hl, fun _ => rfl⟩)
  case F =>
    intro w mg fa h KX G XL hmg
    refine' OR.all_mk KX G hmg ?Z ?e0 ?e1 ?e2 ?e3 ?e4 ?e5 ?e6 ?e7 ?e8 ?e9 ?e10 ?e11 ?e12 ?e13 ?e14 ?e15 ?e16 ?e17 ?e18 ?e19 ?e20 ?e21 ?e22 ?e23 ?e24 ?r0 ?r1 ?r2 ?r3 ?r4 ?r5 ?r6 ?r7 ?r8 ?r9 ?r10 ?r11 ?r12 ?r13 ?r14 ?r15 ?r16 ?r17 ?r18 ?r19 ?r20 ?r21 ?r22 ?r23 ?r24 ?fDPen ?fDDraw ?fDPick ?fDWhole ?fDAny ?fDBP ?fDBN ?fDMA ?fDKI ?fLaw
    all_goals try clear hmg XL
    case Z =>
      refine' OR.ZAt.mk ?isi ?len ?repr ?sorted ?range ?list ?int ?abs ?verr
      (case isi => k_is); (case len => k_is); (case repr => k_is); (case sorted => k_is); (case range => k_is); (case list => k_is); (case int => k_is); (case abs => k_is); (case verr => k_is)
    case e0 => refine' OR.ErAt.mk ?aB ?aR ?cls ?sa ?ga ?gg ?noF ?kC ?exC ?tyC ?hdC ?ca ?cn ?ct ?cm ?sub ?kR ?kV ?init; (case aB => k_is); (case aR => k_is); (case cls => refine' OR.erCls KX ?l ?b; (case l => k_is); (case b => decide +kernel)); (case sa => k_is); (case ga => k_is); (case gg => k_is); (case noF => k_is); (case kC => k_is); (case exC => k_is); (case tyC => k_is); (case hdC => k_is); (case ca => k_is); (case cn => k_is); (case ct => k_is); (case cm => k_is); (case sub => first | rfl | k_is); (case kR => kit_is); (case kV => kit_is); (case init => refine' OR.erInit KX ?a ?l ?c ?k ?t; (case a => k_is); (case l => k_is); (case c => k_is); (case k => k_is); (case t => k_is))
    case e1 => refine' OR.ErAt.mk ?aB ?aR ?cls ?sa ?ga ?gg ?noF ?kC ?exC ?tyC ?hdC ?ca ?cn ?ct ?cm ?sub ?kR ?kV ?init; (case aB => k_is); (case aR => k_is); (case cls => refine' OR.erCls KX ?l ?b; (case l => k_is); (case b => decide +kernel)); (case sa => k_is); (case ga => k_is); (case gg => k_is); (case noF => k_is); (case kC => k_is); (case exC => k_is); (case tyC => k_is); (case hdC => k_is); (case ca => k_is); (case cn => k_is); (case ct => k_is); (case cm => k_is); (case sub => first | rfl | k_is); (case kR => kit_is); (case kV => kit_is); (case init => refine' OR.erInit KX ?a ?l ?c ?k ?t; (case a => k_is); (case l => k_is); (case c => k_is); (case k => k_is); (case t => k_is))
    case e2 => refine' OR.ErAt2.mk ?aB ?aR ?cls ?sa ?ga ?gg ?no1 ?no2 ?kC ?exC ?tyC ?hdC ?ca ?cn ?ct ?cm ?sub ?kR ?kV ?init; (case aB => k_is); (case aR => k_is); (case cls => refine' OR.erCls KX ?l ?b; (case l => k_is); (case b => decide +kernel)); (case sa => k_is); (case ga => k_is); (case gg => k_is); (case no1 => k_is); (case no2 => k_is); (case kC => k_is); (case exC => k_is); (case tyC => k_is); (case hdC => k_is); (case ca => k_is); (case cn => k_is); (case ct => k_is); (case cm => k_is); (case sub => first | rfl | k_is); (case kR => kit_is); (case kV => kit_is); (case init => refine' OR.erInit KX ?a ?l ?c ?k ?t; (case a => k_is); (case l => k_is); (case c => k_is); (case k => k_is); (case t => k_is))
    case e3 => refine' OR.ErAt.mk ?aB ?aR ?cls ?sa ?ga ?gg ?noF ?kC ?exC ?tyC ?hdC ?ca ?cn ?ct ?cm ?sub ?kR ?kV ?init; (case aB => k_is); (case aR => k_is); (case cls => refine' OR.erCls KX ?l ?b; (case l => k_is); (case b => decide +kernel)); (case sa => k_is); (case ga => k_is); (case gg => k_is); (case noF => k_is); (case kC => k_is); (case exC => k_is); (case tyC => k_is); (case hdC => k_is); (case ca => k_is); (case cn => k_is); (case ct => k_is); (case cm => k_is); (case sub => first | rfl | k_is); (case kR => kit_is); (case kV => kit_is); (case init => refine' OR.erInit KX ?a ?l ?c ?k ?t; (case a => k_is); (case l => k_is); (case c => k_is); (case k => k_is); (case t => k_is))
    case e4 => refine' OR.ErAt.mk ?aB ?aR ?cls ?sa ?ga ?gg ?noF ?kC ?exC ?tyC ?hdC ?ca ?cn ?ct ?cm ?sub ?kR ?kV ?init; (case aB => k_is); (case aR => k_is); (case cls => refine' OR.erCls KX ?l ?b; (case l => k_is); (case b => decide +kernel)); (case sa => k_is); (case ga => k_is); (case gg => k_is); (case noF => k_is); (case kC => k_is); (case exC => k_is); (case tyC => k_is); (case hdC => k_is); (case ca => k_is); (case cn => k_is); (case ct => k_is); (case cm => k_is); (case sub => first | rfl | k_is); (case kR => kit_is); (case kV => kit_is); (case init => refine' OR.erInit KX ?a ?l ?c ?k ?t; (case a => k_is); (case l => k_is); (case c => k_is); (case k => k_is); (case t => k_is))
    case e5 => refine' OR.ErAt.mk ?aB ?aR ?cls ?sa ?ga ?gg ?noF ?kC ?exC ?tyC ?hdC ?ca ?cn ?ct ?cm ?sub ?kR ?kV ?init; (case aB => k_is); (case aR => k_is); (case cls => refine' OR.erCls KX ?l ?b; (case l => k_is); (case b => decide +kernel)); (case sa => k_is); (case ga => k_is); (case gg => k_is); (case noF => k_is); (case kC => k_is); (case exC => k_is); (case tyC => k_is); (case hdC => k_is); (case ca => k_is); (case cn => k_is); (case ct => k_is); (case cm => k_is); (case sub => first | rfl | k_is); (case kR => kit_is); (case kV => kit_is); (case init => refine' OR.erInit KX ?a ?l ?c ?k ?t; (case a => k_is); (case l => k_is); (case c => k_is); (case k => k_is); (case t => k_is))
    case e6 => refine' OR.ErAt.mk ?aB ?aR ?cls ?sa ?ga ?gg ?noF ?kC ?exC ?tyC ?hdC ?ca ?cn ?ct ?cm ?sub ?kR ?kV ?init; (case aB => k_is); (case aR => k_is); (case cls => refine' OR.erCls KX ?l ?b; (case l => k_is); (case b => decide +kernel)); (case sa => k_is); (case ga => k_is); (case gg => k_is); (case noF => k_is); (case kC => k_is); (case exC => k_is); (case tyC => k_is); (case hdC => k_is); (case ca => k_is); (case cn => k_is); (case ct => k_is); (case cm => k_is); (case sub => first | rfl | k_is); (case kR => kit_is); (case kV => kit_is); (case init => refine' OR.erInit KX ?a ?l ?c ?k ?t; (case a => k_is); (case l => k_is); (case c => k_is); (case k => k_is); (case t => k_is))
    case e7 => refine' OR.ErAt2.mk ?aB ?aR ?cls ?sa ?ga ?gg ?no1 ?no2 ?kC ?exC ?tyC ?hdC ?ca ?cn ?ct ?cm ?sub ?kR ?kV ?init; (case aB => k_is); (case aR => k_is); (case cls => refine' OR.erCls KX ?l ?b; (case l => k_is); (case b => decide +kernel)); (case sa => k_is); (case ga => k_is); (case gg => k_is); (case no1 => k_is); (case no2 => k_is); (case kC => k_is); (case exC => k_is); (case tyC => k_is); (case hdC => k_is); (case ca => k_is); (case cn => k_is); (case ct => k_is); (case cm => k_is); (case sub => first | rfl | k_is); (case kR => kit_is); (case kV => kit_is); (case init => refine' OR.erInit KX ?a ?l ?c ?k ?t; (case a => k_is); (case l => k_is); (case c => k_is); (case k => k_is); (case t => k_is))
    case e8 => refine' OR.ErAt.mk ?aB ?aR ?cls ?sa ?ga ?gg ?noF ?kC ?exC ?tyC ?hdC ?ca ?cn ?ct ?cm ?sub ?kR ?kV ?init; (case aB => k_is); (case aR => k_is); (case cls => refine' OR.erCls KX ?l ?b; (case l => k_is); (case b => decide +kernel)); (case sa => k_is); (case ga => k_is); (case gg => k_is); (case noF => k_is); (case kC => k_is); (case exC => k_is); (case tyC => k_is); (case hdC => k_is); (case ca => k_is); (case cn => k_is); (case ct => k_is); (case cm => k_is); (case sub => first | rfl | k_is); (case kR => kit_is); (case kV => kit_is); (case init => refine' OR.erInit KX ?a ?l ?c ?k ?t; (case a => k_is); (case l => k_is); (case c => k_is); (case k => k_is); (case t => k_is))
    case e9 => refine' OR.ErAt.mk ?aB ?aR ?cls ?sa ?ga ?gg ?noF ?kC ?exC ?tyC ?hdC ?ca ?cn ?ct ?cm ?sub ?kR ?kV ?init; (case aB => k_is); (case aR => k_is); (case cls => refine' OR.erCls KX ?l ?b; (case l => k_is); (case b => decide +kernel)); (case sa => k_is); (case ga => k_is); (case gg => k_is); (case noF => k_is); (case kC => k_is); (case exC => k_is); (case tyC => k_is); (case hdC => k_is); (case ca => k_is); (case cn => k_is); (case ct => k_is); (case cm => k_is); (case sub => first | rfl | k_is); (case kR => kit_is); (case kV => kit_is); (case init => refine' OR.erInit KX ?a ?l ?c ?k ?t; (case a => k_is); (case l => k_is); (case c => k_is); (case k => k_is); (case t => k_is))
    case e10 => refine' OR.ErAt.mk ?aB ?aR ?cls ?sa ?ga ?gg ?noF ?kC ?exC ?tyC ?hdC ?ca ?cn ?ct ?cm ?sub ?kR ?kV ?init; (case aB => k_is); (case aR => k_is); (case cls => refine' OR.erCls KX ?l ?b; (case l => k_is); (case b => decide +kernel)); (case sa => k_is); (case ga => k_is); (case gg => k_is); (case noF => k_is); (case kC => k_is); (case exC => k_is); (case tyC => k_is); (case hdC => k_is); (case ca => k_is); (case cn => k_is); (case ct => k_is); (case cm => k_is); (case sub => first | rfl | k_is); (case kR => kit_is); (case kV => kit_is); (case init => refine' OR.erInit KX ?a ?l ?c ?k ?t; (case a => k_is); (case l => k_is); (case c => k_is); (case k => k_is); (case t => k_is))
    case e11 => refine' OR.ErAt.mk ?aB ?aR ?cls ?sa ?ga ?gg ?noF ?kC ?exC ?tyC ?hdC ?ca ?cn ?ct ?cm ?sub ?kR ?kV ?init; (case aB => k_is); (case aR => k_is); (case cls => refine' OR.erCls KX ?l ?b; (case l => k_is); (case b => decide +kernel)); (case sa => k_is); (case ga => k_is); (case gg => k_is); (case noF => k_is); (case kC => k_is); (case exC => k_is); (case tyC => k_is); (case hdC => k_is); (case ca => k_is); (case cn => k_is); (case ct => k_is); (case cm => k_is); (case sub => first | rfl | k_is); (case kR => kit_is); (case kV => kit_is); (case init => refine' OR.erInit KX ?a ?l ?c ?k ?t; (case a => k_is); (case l => k_is); (case c => k_is); (case k => k_is); (case t => k_is))
    case e12 => refine' OR.ErAt.mk ?aB ?aR ?cls ?sa ?ga ?gg ?noF ?kC ?exC ?tyC ?hdC ?ca ?cn ?ct ?cm ?sub ?kR ?kV ?init; (case aB => k_is); (case aR => k_is); (case cls => refine' OR.erCls KX ?l ?b; (case l => k_is); (case b => decide +kernel)); (case sa => k_is); (case ga => k_is); (case gg => k_is); (case noF => k_is); (case kC => k_is); (case exC => k_is); (case tyC => k_is); (case hdC => k_is); (case ca => k_is); (case cn => k_is); (case ct => k_is); (case cm => k_is); (case sub => first | rfl | k_is); (case kR => kit_is); (case kV => kit_is); (case init => refine' OR.erInit KX ?a ?l ?c ?k ?t; (case a => k_is); (case l => k_is); (case c => k_is); (case k => k_is); (case t => k_is))
    case e13 => refine' OR.ErAt.mk ?aB ?aR ?cls ?sa ?ga ?gg ?noF ?kC ?exC ?tyC ?hdC ?ca ?cn ?ct ?cm ?sub ?kR ?kV ?init; (case aB => k_is); (case aR => k_is); (case cls => refine' OR.erCls KX ?l ?b; (case l => k_is); (case b => decide +kernel)); (case sa => k_is); (case ga => k_is); (case gg => k_is); (case noF => k_is); (case kC => k_is); (case exC => k_is); (case tyC => k_is); (case hdC => k_is); (case ca => k_is); (case cn => k_is); (case ct => k_is); (case cm => k_is); (case sub => first | rfl | k_is); (case kR => kit_is); (case kV => kit_is); (case init => refine' OR.erInit KX ?a ?l ?c ?k ?t; (case a => k_is); (case l => k_is); (case c => k_is); (case k => k_is); (case t => k_is))
    case e14 => refine' OR.ErAt2.mk ?aB ?aR ?cls ?sa ?ga ?gg ?no1 ?no2 ?kC ?exC ?tyC ?hdC ?ca ?cn ?ct ?cm ?sub ?kR ?kV ?init; (case aB => k_is); (case aR => k_is); (case cls => refine' OR.erCls KX ?l ?b; (case l => k_is); (case b => decide +kernel)); (case sa => k_is); (case ga => k_is); (case gg => k_is); (case no1 => k_is); (case no2 => k_is); (case kC => k_is); (case exC => k_is); (case tyC => k_is); (case hdC => k_is); (case ca => k_is); (case cn => k_is); (case ct => k_is); (case cm => k_is); (case sub => first | rfl | k_is); (case kR => kit_is); (case kV => kit_is); (case init => refine' OR.erInit KX ?a ?l ?c ?k ?t; (case a => k_is); (case l => k_is); (case c => k_is); (case k => k_is); (case t => k_is))
    case e15 => refine' OR.ErAt.mk ?aB ?aR ?cls ?sa ?ga ?gg ?noF ?kC ?exC ?tyC ?hdC ?ca ?cn ?ct ?cm ?sub ?kR ?kV ?init; (case aB => k_is); (case aR => k_is); (case cls => refine' OR.erCls KX ?l ?b; (case l => k_is); (case b => decide +kernel)); (case sa => k_is); (case ga => k_is); (case gg => k_is); (case noF => k_is); (case kC => k_is); (case exC => k_is); (case tyC => k_is); (case hdC => k_is); (case ca => k_is); (case cn => k_is); (case ct => k_is); (case cm => k_is); (case sub => first | rfl | k_is); (case kR => kit_is); (case kV => kit_is); (case init => refine' OR.erInit KX ?a ?l ?c ?k ?t; (case a => k_is); (case l => k_is); (case c => k_is); (case k => k_is); (case t => k_is))
    case e16 => refine' OR.ErAt.mk ?aB ?aR ?cls ?sa ?ga ?gg ?noF ?kC ?exC ?tyC ?hdC ?ca ?cn ?ct ?cm ?sub ?kR ?kV ?init; (case aB => k_is); (case aR => k_is); (case cls => refine' OR.erCls KX ?l ?b; (case l => k_is); (case b => decide +kernel)); (case sa => k_is); (case ga => k_is); (case gg => k_is); (case noF => k_is); (case kC => k_is); (case exC => k_is); (case tyC => k_is); (case hdC => k_is); (case ca => k_is); (case cn => k_is); (case ct => k_is); (case cm => k_is); (case sub => first | rfl | k_is); (case kR => kit_is); (case kV => kit_is); (case init => refine' OR.erInit KX ?a ?l ?c ?k ?t; (case a => k_is); (case l => k_is); (case c => k_is); (case k => k_is); (case t => k_is))
    case e17 => refine' OR.ErAt.mk ?aB ?aR ?cls ?sa ?ga ?gg ?noF ?kC ?exC ?tyC ?hdC ?ca ?cn ?ct ?cm ?sub ?kR ?kV ?init; (case aB => k_is); (case aR => k_is); (case cls => refine' OR.erCls KX ?l ?b; (case l => k_is); (case b => decide +kernel)); (case sa => k_is); (case ga => k_is); (case gg => k_is); (case noF => k_is); (case kC => k_is); (case exC => k_is); (case tyC => k_is); (case hdC => k_is); (case ca => k_is); (case cn => k_is); (case ct => k_is); (case cm => k_is); (case sub => first | rfl | k_is); (case kR => kit_is); (case kV => kit_is); (case init => refine' OR.erInit KX ?a ?l ?c ?k ?t; (case a => k_is); (case l => k_is); (case c => k_is); (case k => k_is); (case t => k_is))
    case e18 => refine' OR.ErAt2.mk ?aB ?aR ?cls ?sa ?ga ?gg ?no1 ?no2 ?kC ?exC ?tyC ?hdC ?ca ?cn ?ct ?cm ?sub ?kR ?kV ?init; (case aB => k_is); (case aR => k_is); (case cls => refine' OR.erCls KX ?l ?b; (case l => k_is); (case b => decide +kernel)); (case sa => k_is); (case ga => k_is); (case gg => k_is); (case no1 => k_is); (case no2 => k_is); (case kC => k_is); (case exC => k_is); (case tyC => k_is); (case hdC => k_is); (case ca => k_is); (case cn => k_is); (case ct => k_is); (case cm => k_is); (case sub => first | rfl | k_is); (case kR => kit_is); (case kV => kit_is); (case init => refine' OR.erInit KX ?a ?l ?c ?k ?t; (case a => k_is); (case l => k_is); (case c => k_is); (case k => k_is); (case t => k_is))
    case e19 => refine' OR.ErAt2.mk ?aB ?aR ?cls ?sa ?ga ?gg ?no1 ?no2 ?kC ?exC ?tyC ?hdC ?ca ?cn ?ct ?cm ?sub ?kR ?kV ?init; (case aB => k_is); (case aR => k_is); (case cls => refine' OR.erCls KX ?l ?b; (case l => k_is); (case b => decide +kernel)); (case sa => k_is); (case ga => k_is); (case gg => k_is); (case no1 => k_is); (case no2 => k_is); (case kC => k_is); (case exC => k_is); (case tyC => k_is); (case hdC => k_is); (case ca => k_is); (case cn => k_is); (case ct => k_is); (case cm => k_is); (case sub => first | rfl | k_is); (case kR => kit_is); (case kV => kit_is); (case init => refine' OR.erInit KX ?a ?l ?c ?k ?t; (case a => k_is); (case l => k_is); (case c => k_is); (case k => k_is); (case t => k_is))
    case e20 => refine' OR.Ev0At.mk ?aB ?ex ?kC ?exC ?tyC ?ga ?gg ?hdC ?ca ?cn ?ct ?cm ?kR ?kV; (case aB => k_is); (case ex => k_exc); (case kC => k_is); (case exC => k_is); (case tyC => k_is); (case ga => k_is); (case gg => k_is); (case hdC => k_is); (case ca => k_is); (case cn => k_is); (case ct => k_is); (case cm => k_is); (case kR => kit_is); (case kV => kit_is)
    case e21 => refine' OR.Ev0At.mk ?aB ?ex ?kC ?exC ?tyC ?ga ?gg ?hdC ?ca ?cn ?ct ?cm ?kR ?kV; (case aB => k_is); (case ex => k_exc); (case kC => k_is); (case exC => k_is); (case tyC => k_is); (case ga => k_is); (case gg => k_is); (case hdC => k_is); (case ca => k_is); (case cn => k_is); (case ct => k_is); (case cm => k_is); (case kR => kit_is); (case kV => kit_is)
    case e22 => refine' OR.Ev0At.mk ?aB ?ex ?kC ?exC ?tyC ?ga ?gg ?hdC ?ca ?cn ?ct ?cm ?kR ?kV; (case aB => k_is); (case ex => k_exc); (case kC => k_is); (case exC => k_is); (case tyC => k_is); (case ga => k_is); (case gg => k_is); (case hdC => k_is); (case ca => k_is); (case cn => k_is); (case ct => k_is); (case cm => k_is); (case kR => kit_is); (case kV => kit_is)
    case e23 => refine' OR.Ev0At.mk ?aB ?ex ?kC ?exC ?tyC ?ga ?gg ?hdC ?ca ?cn ?ct ?cm ?kR ?kV; (case aB => k_is); (case ex => k_exc); (case kC => k_is); (case exC => k_is); (case tyC => k_is); (case ga => k_is); (case gg => k_is); (case hdC => k_is); (case ca => k_is); (case cn => k_is); (case ct => k_is); (case cm => k_is); (case kR => kit_is); (case kV => kit_is)
    case e24 => refine' OR.Ev0At.mk ?aB ?ex ?kC ?exC ?tyC ?ga ?gg ?hdC ?ca ?cn ?ct ?cm ?kR ?kV; (case aB => k_is); (case ex => k_exc); (case kC => k_is); (case exC => k_is); (case tyC => k_is); (case ga => k_is); (case gg => k_is); (case hdC => k_is); (case ca => k_is); (case cn => k_is); (case ct => k_is); (case cm => k_is); (case kR => kit_is); (case kV => kit_is)
    case r0 => refine' OR.KRow.mk ?h0 ?h1 ?h2 ?h3 ?h4 ?h5 ?h6 ?h7 ?h8; (case h0 => kit_is); (case h1 => kit_is); (case h2 => kit_is); (case h3 => kit_is); (case h4 => kit_is); (case h5 => kit_is); (case h6 => kit_is); (case h7 => kit_is); (case h8 => kit_is)
    case r1 => refine' OR.KRow.mk ?h0 ?h1 ?h2 ?h3 ?h4 ?h5 ?h6 ?h7 ?h8; (case h0 => kit_is); (case h1 => kit_is); (case h2 => kit_is); (case h3 => kit_is); (case h4 => kit_is); (case h5 => kit_is); (case h6 => kit_is); (case h7 => kit_is); (case h8 => kit_is)
    case r2 => refine' OR.KRow.mk ?h0 ?h1 ?h2 ?h3 ?h4 ?h5 ?h6 ?h7 ?h8; (case h0 => kit_is); (case h1 => kit_is); (case h2 => kit_is); (case h3 => kit_is); (case h4 => kit_is); (case h5 => kit_is); (case h6 => kit_is); (case h7 => kit_is); (case h8 => kit_is)
    case r3 => refine' OR.KRow.mk ?h0 ?h1 ?h2 ?h3 ?h4 ?h5 ?h6 ?h7 ?h8; (case h0 => kit_is); (case h1 => kit_is); (case h2 => kit_is); (case h3 => kit_is); (case h4 => kit_is); (case h5 => kit_is); (case h6 => kit_is); (case h7 => kit_is); (case h8 => kit_is)
    case r4 => refine' OR.KRow.mk ?h0 ?h1 ?h2 ?h3 ?h4 ?h5 ?h6 ?h7 ?h8; (case h0 => kit_is); (case h1 => kit_is); (case h2 => kit_is); (case h3 => kit_is); (case h4 => kit_is); (case h5 => kit_is); (case h6 => kit_is); (case h7 => kit_is); (case h8 => kit_is)
    case r5 => refine' OR.KRow.mk ?h0 ?h1 ?h2 ?h3 ?h4 ?h5 ?h6 ?h7 ?h8; (case h0 => kit_is); (case h1 => kit_is); (case h2 => kit_is); (case h3 => kit_is); (case h4 => kit_is); (case h5 => kit_is); (case h6 => kit_is); (case h7 => kit_is); (case h8 => kit_is)
    case r6 => refine' OR.KRow.mk ?h0 ?h1 ?h2 ?h3 ?h4 ?h5 ?h6 ?h7 ?h8; (case h0 => kit_is); (case h1 => kit_is); (case h2 => kit_is); (case h3 => kit_is); (case h4 => kit_is); (case h5 => kit_is); (case h6 => kit_is); (case h7 => kit_is); (case h8 => kit_is)
    case r7 => refine' OR.KRow.mk ?h0 ?h1 ?h2 ?h3 ?h4 ?h5 ?h6 ?h7 ?h8; (case h0 => kit_is); (case h1 => kit_is); (case h2 => kit_is); (case h3 => kit_is); (case h4 => kit_is); (case h5 => kit_is); (case h6 => kit_is); (case h7 => kit_is); (case h8 => kit_is)
    case r8 => refine' OR.KRow.mk ?h0 ?h1 ?h2 ?h3 ?h4 ?h5 ?h6 ?h7 ?h8; (case h0 => kit_is); (case h1 => kit_is); (case h2 => kit_is); (case h3 => kit_is); (case h4 => kit_is); (case h5 => kit_is); (case h6 => kit_is); (case h7 => kit_is); (case h8 => kit_is)
    case r9 => refine' OR.KRow.mk ?h0 ?h1 ?h2 ?h3 ?h4 ?h5 ?h6 ?h7 ?h8; (case h0 => kit_is); (case h1 => kit_is); (case h2 => kit_is); (case h3 => kit_is); (case h4 => kit_is); (case h5 => kit_is); (case h6 => kit_is); (case h7 => kit_is); (case h8 => kit_is)
    case r10 => refine' OR.KRow.mk ?h0 ?h1 ?h2 ?h3 ?h4 ?h5 ?h6 ?h7 ?h8; (case h0 => kit_is); (case h1 => kit_is); (case h2 => kit_is); (case h3 => kit_is); (case h4 => kit_is); (case h5 => kit_is); (case h6 => kit_is); (case h7 => kit_is); (case h8 => kit_is)
    case r11 => refine' OR.KRow.mk ?h0 ?h1 ?h2 ?h3 ?h4 ?h5 ?h6 ?h7 ?h8; (case h0 => kit_is); (case h1 => kit_is); (case h2 => kit_is); (case h3 => kit_is); (case h4 => kit_is); (case h5 => kit_is); (case h6 => kit_is); (case h7 => kit_is); (case h8 => kit_is)
    case r12 => refine' OR.KRow.mk ?h0 ?h1 ?h2 ?h3 ?h4 ?h5 ?h6 ?h7 ?h8; (case h0 => kit_is); (case h1 => kit_is); (case h2 => kit_is); (case h3 => kit_is); (case h4 => kit_is); (case h5 => kit_is); (case h6 => kit_is); (case h7 => kit_is); (case h8 => kit_is)
    case r13 => refine' OR.KRow.mk ?h0 ?h1 ?h2 ?h3 ?h4 ?h5 ?h6 ?h7 ?h8; (case h0 => kit_is); (case h1 => kit_is); (case h2 => kit_is); (case h3 => kit_is); (case h4 => kit_is); (case h5 => kit_is); (case h6 => kit_is); (case h7 => kit_is); (case h8 => kit_is)
    case r14 => refine' OR.KRow.mk ?h0 ?h1 ?h2 ?h3 ?h4 ?h5 ?h6 ?h7 ?h8; (case h0 => kit_is); (case h1 => kit_is); (case h2 => kit_is); (case h3 => kit_is); (case h4 => kit_is); (case h5 => kit_is); (case h6 => kit_is); (case h7 => kit_is); (case h8 => kit_is)
    case r15 => refine' OR.KRow.mk ?h0 ?h1 ?h2 ?h3 ?h4 ?h5 ?h6 ?h7 ?h8; (case h0 => kit_is); (case h1 => kit_is); (case h2 => kit_is); (case h3 => kit_is); (case h4 => kit_is); (case h5 => kit_is); (case h6 => kit_is); (case h7 => kit_is); (case h8 => kit_is)
    case r16 => refine' OR.KRow.mk ?h0 ?h1 ?h2 ?h3 ?h4 ?h5 ?h6 ?h7 ?h8; (case h0 => kit_is); (case h1 => kit_is); (case h2 => kit_is); (case h3 => kit_is); (case h4 => kit_is); (case h5 => kit_is); (case h6 => kit_is); (case h7 => kit_is); (case h8 => kit_is)
    case r17 => refine' OR.KRow.mk ?h0 ?h1 ?h2 ?h3 ?h4 ?h5 ?h6 ?h7 ?h8; (case h0 => kit_is); (case h1 => kit_is); (case h2 => kit_is); (case h3 => kit_is); (case h4 => kit_is); (case h5 => kit_is); (case h6 => kit_is); (case h7 => kit_is); (case h8 => kit_is)
    case r18 => refine' OR.KRow.mk ?h0 ?h1 ?h2 ?h3 ?h4 ?h5 ?h6 ?h7 ?h8; (case h0 => kit_is); (case h1 => kit_is); (case h2 => kit_is); (case h3 => kit_is); (case h4 => kit_is); (case h5 => kit_is); (case h6 => kit_is); (case h7 => kit_is); (case h8 => kit_is)
    case r19 => refine' OR.KRow.mk ?h0 ?h1 ?h2 ?h3 ?h4 ?h5 ?h6 ?h7 ?h8; (case h0 => kit_is); (case h1 => kit_is); (case h2 => kit_is); (case h3 => kit_is); (case h4 => kit_is); (case h5 => kit_is); (case h6 => kit_is); (case h7 => kit_is); (case h8 => kit_is)
    case r20 => refine' OR.KRow.mk ?h0 ?h1 ?h2 ?h3 ?h4 ?h5 ?h6 ?h7 ?h8; (case h0 => kit_is); (case h1 => kit_is); (case h2 => kit_is); (case h3 => kit_is); (case h4 => kit_is); (case h5 => kit_is); (case h6 => kit_is); (case h7 => kit_is); (case h8 => kit_is)
    case r21 => refine' OR.KRow.mk ?h0 ?h1 ?h2 ?h3 ?h4 ?h5 ?h6 ?h7 ?h8; (case h0 => kit_is); (case h1 => kit_is); (case h2 => kit_is); (case h3 => kit_is); (case h4 => kit_is); (case h5 => kit_is); (case h6 => kit_is); (case h7 => kit_is); (case h8 => kit_is)
    case r22 => refine' OR.KRow.mk ?h0 ?h1 ?h2 ?h3 ?h4 ?h5 ?h6 ?h7 ?h8; (case h0 => kit_is); (case h1 => kit_is); (case h2 => kit_is); (case h3 => kit_is); (case h4 => kit_is); (case h5 => kit_is); (case h6 => kit_is); (case h7 => kit_is); (case h8 => kit_is)
    case r23 => refine' OR.KRow.mk ?h0 ?h1 ?h2 ?h3 ?h4 ?h5 ?h6 ?h7 ?h8; (case h0 => kit_is); (case h1 => kit_is); (case h2 => kit_is); (case h3 => kit_is); (case h4 => kit_is); (case h5 => kit_is); (case h6 => kit_is); (case h7 => kit_is); (case h8 => kit_is)
    case r24 => refine' OR.KRow.mk ?h0 ?h1 ?h2 ?h3 ?h4 ?h5 ?h6 ?h7 ?h8; (case h0 => kit_is); (case h1 => kit_is); (case h2 => kit_is); (case h3 => kit_is); (case h4 => kit_is); (case h5 => kit_is); (case h6 => kit_is); (case h7 => kit_is); (case h8 => kit_is)
    case fDPen => refine' OR.fnAt KX ?a ?l ?c ?k; (case a => k_is); (case l => k_is); (case c => k_is); (case k => k_is)
    case fDDraw => refine' OR.fnAt KX ?a ?l ?c ?k; (case a => k_is); (case l => k_is); (case c => k_is); (case k => k_is)
    case fDPick => refine' OR.fnAt KX ?a ?l ?c ?k; (case a => k_is); (case l => k_is); (case c => k_is); (case k => k_is)
    case fDWhole => refine' OR.fnAt KX ?a ?l ?c ?k; (case a => k_is); (case l => k_is); (case c => k_is); (case k => k_is)
    case fDAny => refine' OR.fnAt KX ?a ?l ?c ?k; (case a => k_is); (case l => k_is); (case c => k_is); (case k => k_is)
    case fDBP => refine' OR.fnAt KX ?a ?l ?c ?k; (case a => k_is); (case l => k_is); (case c => k_is); (case k => k_is)
    case fDBN => refine' OR.fnAt KX ?a ?l ?c ?k; (case a => k_is); (case l => k_is); (case c => k_is); (case k => k_is)
    case fDMA => refine' OR.fnAt KX ?a ?l ?c ?k; (case a => k_is); (case l => k_is); (case c => k_is); (case k => k_is)
    case fDKI => refine' OR.fnAt KX ?a ?l ?c ?k; (case a => k_is); (case l => k_is); (case c => k_is); (case k => k_is)
    case fLaw => refine' OR.fnAt KX ?a ?l ?c ?k; (case a => k_is); (case l => k_is); (case c => k_is); (case k => k_is)

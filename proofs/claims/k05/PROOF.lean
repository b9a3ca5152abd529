import PyProof.Rows.All
import Wide.All
import OpenK.AllK
import Wide.FinOn
import HandS.ForMost
import HandS.Wide
import HandS.IsInst
import HandS.TupAny
import HandS.TupLe
import HandS.Star
import HandS.Evl
import HandS.SortRule
import HandS.NoneIn
import HandS.Defaults
import HandS.TupSets
import HandS.Keys
import HandS.Small
import KE.KOpsOwn
import HandS.SlotsOwn
import KE.RegKIsAll
import PyProof.Draws
import PySem.Challenge.RW_openranges_k05_places_moved
set_option Elab.async false
set_option linter.all false
set_option maxRecDepth 100000
namespace OR
open PySem PySem.Spec PyProof.Rows L2
def top (i : Nat) : Stmt := PySem.Challenge.pw_openranges_k05_places_moved.main.body.getD i (.Pass ⟨0, 0, 0, 0⟩)
abbrev sPen : Stmt := top 29
abbrev sDraw : Stmt := top 30
abbrev sPick : Stmt := top 31
abbrev sSpot : Stmt := top 32
abbrev sDrawn : Stmt := top 33
abbrev sMerged : Stmt := top 34
abbrev sWhole : Stmt := top 35
abbrev sLShift : Stmt := top 36
abbrev sLMirror : Stmt := top 37
abbrev sLBy : Stmt := top 38
abbrev sLaw : Stmt := top 39
abbrev sOver : Stmt := top 15
abbrev sIsInt : Stmt := top 10
abbrev sIsPlace : Stmt := top 11
abbrev sIsStretch : Stmt := top 19
abbrev sJoined : Stmt := top 20
abbrev sCounts : Stmt := top 21
abbrev sCommon : Stmt := top 23
abbrev sGaps : Stmt := top 24
abbrev sCutTo : Stmt := top 25
abbrev sPlInit : Stmt := inClass (top 17) 0
abbrev sPlEq : Stmt := inClass (top 17) 1
abbrev sPlBool : Stmt := inClass (top 17) 2
abbrev sPlOr : Stmt := inClass (top 17) 6
abbrev sPlAnd : Stmt := inClass (top 17) 7
abbrev sPlSub : Stmt := inClass (top 17) 8
abbrev sPlXor : Stmt := inClass (top 17) 9
abbrev sPlSize : Stmt := inClass (top 17) 10
abbrev sPlWithin : Stmt := inClass (top 17) 14
abbrev sPlShift : Stmt := inClass (top 17) 15
abbrev sPlMirror : Stmt := inClass (top 17) 16
abbrev sPlInner : Stmt := inClass (top 17) 17
end OR

namespace OR
open PySem PySem.Spec PyProof.Rows L2
/-! ### the pen: a dict of the cells, how many have begun, what is left of the last one -/
theorem kBC : ¬ ((Sum.inr ("begun" : Str) : Key) = Sum.inr ("cells" : Str)) := by decide +kernel
theorem kLC : ¬ ((Sum.inr ("left" : Str) : Key) = Sum.inr ("cells" : Str)) := by decide +kernel
theorem kLB : ¬ ((Sum.inr ("left" : Str) : Key) = Sum.inr ("begun" : Str)) := by decide +kernel
def penK (c : Addr) (k l : Int) : List (Key × V) := [(.inr ("cells" : Str), .ref c), (.inr ("begun" : Str), .int k), (.inr ("left" : Str), .int l)]
theorem pen_cells (c : Addr) (k l : Int) : valV (penK c k l) (.inr ("cells" : Str)) = some (.ref c) := valV_pos rfl
theorem pen_begun (c : Addr) (k l : Int) : valV (penK c k l) (.inr ("begun" : Str)) = some (.int k) :=
  (valV_neg (fun e => kBC e.symm)).trans (valV_pos rfl)
theorem pen_left (c : Addr) (k l : Int) : valV (penK c k l) (.inr ("left" : Str)) = some (.int l) :=
  (valV_neg (fun e => kLC e.symm)).trans ((valV_neg (fun e => kLB e.symm)).trans (valV_pos rfl))
theorem pen_put_left (c : Addr) (k l y : Int) : putK (penK c k l) (.inr ("left" : Str)) (.int y) = penK c k y := by
  have h1 : ¬ ((Sum.inr ("cells" : Str) : Key) = Sum.inr ("left" : Str)) := fun e => kLC e.symm
  have h2 : ¬ ((Sum.inr ("begun" : Str) : Key) = Sum.inr ("left" : Str)) := fun e => kLB e.symm
  unfold putK penK
  simp only [List.any_cons, List.any_nil, List.map_cons, List.map_nil, h1, h2, decide_true, decide_false, Bool.or_false, Bool.false_or, if_true, if_false]
theorem pen_put_begun (c : Addr) (k l y : Int) : putK (penK c k l) (.inr ("begun" : Str)) (.int y) = penK c y l := by
  have h1 : ¬ ((Sum.inr ("cells" : Str) : Key) = Sum.inr ("begun" : Str)) := fun e => kBC e.symm
  have h2 : ¬ ((Sum.inr ("left" : Str) : Key) = Sum.inr ("begun" : Str)) := kLB
  unfold putK penK
  simp only [List.any_cons, List.any_nil, List.map_cons, List.map_nil, h1, h2, decide_true, decide_false, Bool.or_false, Bool.false_or, Bool.or_true, if_true, if_false]
/-- a pen at p after at most n draws -/
def Pen (H : Hp) (p : Addr) (n : Nat) : Prop := ∃ (c : Addr) (ns : List Int) (k l : Int), H p = some (.dK (penK c k l)) ∧ H c = some (.lst (ns.map V.int)) ∧ ns.length ≤ 63 ∧ 0 ≤ k ∧ k ≤ n ∧ 0 ≤ l
/-- where the pen at p keeps its cells -/
def cellsAt (H : Hp) (p c : Addr) : Prop := ∃ k l, H p = some (.dK (penK c k l))
theorem penK_inj {c c' : Addr} {k l k' l' : Int} (h : penK c k l = penK c' k' l') : c = c' := by
  unfold penK at h
  injection h with h1 _
  injection h1 with _ h2
  injection h2
theorem cellsAt.inj {H : Hp} {p c : Addr} {k l : Int} {c' : Addr} (h : cellsAt H p c) (e : H p = some (.dK (penK c' k l))) : c = c' := by
  obtain ⟨k', l', e'⟩ := h
  rw [e] at e'
  injection e' with e'
  injection e' with e'
  exact (penK_inj e').symm
/-- all but what stands at p is as it was, and the pen there has the same cells -/
structure Frm (p : Addr) (H H' : Hp) : Prop where
  at_ : ∀ b o, H b = some o → b ≠ p → H' b = some o
  ce : ∀ c, cellsAt H p c → cellsAt H' p c
instance {p : Addr} {H H' : Hp} : CoeFun (Frm p H H') (fun _ => ∀ b o, H b = some o → b ≠ p → H' b = some o) := ⟨Frm.at_⟩
theorem Frm.refl (p : Addr) (H : Hp) : Frm p H H := ⟨fun _ _ h _ => h, fun _ h => h⟩
theorem Frm.trans {p : Addr} {H H1 H2 : Hp} (a : Frm p H H1) (b : Frm p H1 H2) : Frm p H H2 := ⟨fun c o h n => b c o (a c o h n) n, fun c h => b.ce c (a.ce c h)⟩
theorem Frm.pen {p c : Addr} {H : Hp} {k l k' l' : Int} (h : H p = some (.dK (penK c k l))) : Frm p H (upd H p (.dK (penK c k' l'))) :=
  ⟨fun b x e n => by rw [upd_ne n]; exact e, fun c' h' => by rw [h'.inj h]; exact ⟨k', l', upd_same⟩⟩
theorem Frm.new {p q : Addr} {H : Hp} {o : HO} (h : H q = none) : Frm p H (upd H q o) :=
  ⟨fun b x e _ => by rw [upd_ne (ne_of_none e h)]; exact e, fun c ⟨k, l, e⟩ => ⟨k, l, by rw [upd_ne (ne_of_none e h)]; exact e⟩⟩
/-- a list that is not the pen's cells is changed -/
theorem Pen.put {H : Hp} {p c a : Addr} {n : Nat} {xs : List V} {o : HO} (P : Pen H p n) (hc : cellsAt H p c) (h : H a = some (.lst xs)) (n1 : c ≠ a) : Pen (upd H a o) p n := by
  obtain ⟨c', ns, k, l, h1, h2, h3⟩ := P
  obtain rfl := hc.inj h1
  exact ⟨c, ns, k, l, by rw [upd_ne (ne_of h1 h (by intro z; cases z))]; exact h1, by rw [upd_ne n1]; exact h2, h3⟩
theorem Pen.cells {H : Hp} {p : Addr} {n : Nat} (P : Pen H p n) : ∃ c, cellsAt H p c ∧ H c ≠ none := by
  obtain ⟨c, ns, k, l, h1, h2, _⟩ := P
  exact ⟨c, ⟨k, l, h1⟩, by rw [h2]; exact fun z => nomatch z⟩
theorem Pen.dict {H : Hp} {p : Addr} {n : Nat} (P : Pen H p n) : ∃ kvs, H p = some (.dK kvs) := by
  obtain ⟨c, ns, k, l, h1, _⟩ := P
  exact ⟨_, h1⟩
/-- what stands at a list, a tuple or an object is not the pen -/
theorem Frm.lst {H H' : Hp} {p a : Addr} {n : Nat} {xs : List V} (f : Frm p H H') (P : Pen H p n) (h : H a = some (.lst xs)) : H' a = some (.lst xs) := by
  obtain ⟨kvs, hp⟩ := P.dict
  exact f _ _ h (ne_of h hp (by intro z; cases z))
theorem Pen.mono {H : Hp} {p : Addr} {n m : Nat} (P : Pen H p n) (h : n ≤ m) : Pen H p m := by
  obtain ⟨c, ns, k, l, h1, h2, h3, h4, h5, h6⟩ := P
  exact ⟨c, ns, k, l, h1, h2, h3, h4, by omega, h6⟩
theorem Pen.new {H : Hp} {p q : Addr} {n : Nat} {o : HO} (P : Pen H p n) (h : H q = none) : Pen (upd H q o) p n := by
  obtain ⟨c, ns, k, l, h1, h2, h3, h4, h5, h6⟩ := P
  exact ⟨c, ns, k, l, by rw [upd_ne (ne_of_none h1 h)]; exact h1, by rw [upd_ne (ne_of_none h2 h)]; exact h2, h3, h4, h5, h6⟩
/-! ### the promises -/
/-- a draw: some number below m -/
def spDraw : Sp := fun vs H Q _ => ∃ (p : Addr) (m : Int) (n : Nat), vs = [.ref p, .int m] ∧ 0 < m ∧ m.natAbs < 2 ^ 200 ∧ Pen H p n ∧ n ≤ 1000000 ∧
  ∀ (r : Int) (H' : Hp), 0 ≤ r → r < m → Pen H' p (n + 1) → Frm p H H' → Q (.int r) H'
/-- a def that lets nothing out, as it is called by its name -/
structure Cl (P : Program) (w : World) (K : PySem.W.Frag) (mg : Str → Option Value) (base : Heap) (k : Nat) (x : Str) (ps : List Str) (sp : Sp) : Prop where
  ex : ∃ (f : Addr) (fd : FuncData), FnOk P w K mg base CX0 k f fd ps sp ∧ mg x = some (.ref f) ∧ PySem.W.keepIn K (.ref f) = true ∧ Binds K fd ps []
theorem pe_cl {X : Cx} {k j : Nat} {x : Str} {ps : List Str} {sp : Sp} {e : Expr} {es : List Expr} {t : TA} {p pos : Pos} (c : Cl X.prog X.w X.K X.mg X.base k x ps sp) (hr : Room j X.A) (hk : k ≤ j) (hg : Gl X x) (ha : PA X (e :: es) t)
    (hdb : (x == ("__debug__" : Str)) = false := by decide) (he : starEach (e :: es) X.env = (false, eval e X.env) :: starEach es X.env := by rfl) (hpl : (backTo pos (starEach es X.env)).any (·.1) = false := by rfl) :
    PE X (.Call (.Name x p) (e :: es) [] pos) (tCall sp [] E0 t) := by
  obtain ⟨f, fd, F, hm, hkp, hb⟩ := c.ex
  exact pe_call F (hr.mono hk) hg hm hkp hb .nil pass0 ha hdb he hpl
theorem Frm.seq {K : PySem.W.Frag} {H H' : Hp} {p a : Addr} {n : Nat} {xs : List V} (f : Frm p H H') (P : Pen H p n) (h : SqL K H a xs) : SqL K H' a xs := by
  obtain ⟨c, ns, k, l, hp, _⟩ := P
  rcases h with (h | ⟨o, h⟩) | h
  · exact .inl (.inl (f _ _ h (ne_of h hp (by intro z; cases z))))
  · exact .inl (.inr ⟨o, f _ _ h (ne_of h hp (by intro z; cases z))⟩)
  · exact .inr h
theorem Frm.tup {K : PySem.W.Frag} {H H' : Hp} {p a : Addr} {n : Nat} {xs : List V} (f : Frm p H H') (P : Pen H p n) (h : SqT K H a xs) : SqT K H' a xs := by
  obtain ⟨c, ns, k, l, hp, _⟩ := P
  rcases h with (h | ⟨o, h⟩) | h
  · exact .inl (.inl (f _ _ h (ne_of h hp (by intro z; cases z))))
  · exact .inl (.inr ⟨o, f _ _ h (ne_of h hp (by intro z; cases z))⟩)
  · exact .inr h
/-- an item of a list that is not empty -/
def spPick (K : PySem.W.Frag) : Sp := fun vs H Q _ => ∃ (p a : Addr) (xs : List V) (n : Nat), vs = [.ref p, .ref a] ∧ SqL K H a xs ∧ 0 < xs.length ∧ xs.length ≤ 1000 ∧ Pen H p n ∧ n ≤ 1000000 ∧
  ∀ (v : V) (H' : Hp), v ∈ xs → Pen H' p (n + 1) → Frm p H H' → Q v H'
/-- some number, not too great -/
def spWhole : Sp := fun vs H Q _ => ∃ (p : Addr) (n : Nat), vs = [.ref p] ∧ Pen H p n ∧ n ≤ 900000 ∧
  ∀ (r : Int) (H' : Hp), -(10 ^ 30) < r → r < 10 ^ 30 → Pen H' p (n + 3) → Frm p H H' → Q (.int r) H'
/-- the pen, made of the script -/
def spPen (K : PySem.W.Frag) : Sp := fun vs H Q _ => ∃ (a : Addr) (ns : List Int), vs = [.ref a] ∧ SqL K H a (ns.map V.int) ∧ ns.length ≤ 63 ∧
  ∀ (p : Addr) (H' : Hp), H p = none → Pen H' p 0 → Same H H' → Q (.ref p) H'
structure Bl (mg : Str → Option Value) : Prop where
  int : mg "int" = none
  len : mg "len" = none
  abs : mg "abs" = none
  list : mg "list" = none
theorem dg {H : Hp} {p : Addr} {kvs : List (Key × V)} {x : Str} {v : V} (h : H p = some (.dK kvs)) (e : valV kvs (.inr x) = some v) : DGet H p (.str x) (some v) := e ▸ DGet.k (k := .inr x) h
theorem dp {H : Hp} {p : Addr} {kvs kvs' : List (Key × V)} {x : Str} {v : V} (h : H p = some (.dK kvs)) (e : putK kvs (.inr x) v = kvs') (hl : kvs.length < sizeLine) : DPut H p (.str x) v (upd H p (.dK kvs')) := e ▸ DPut.k (k := .inr x) h hl
theorem pen_small (c : Addr) (k l : Int) : (penK c k l).length < sizeLine := by show 3 < sizeLine; decide
theorem mod_bd (a b : Int) (h : 0 < b) : 0 ≤ a % b ∧ a % b < b := ⟨Int.emod_nonneg a (by omega), Int.emod_lt_of_pos a h⟩
theorem boot_absO : bootBuiltins ("abs" : Str) = some (.builtin "abs") := by decide +kernel
section
variable {P : Program} {w : World} {K : PySem.W.Frag} {mg : Str → Option Value} {base : Heap}
theorem scDraw : FnScope ["_law_pen_here", "_law_many", "_law_digit", "_law_k", "_law_size", "_law_cell", "_law_mix"] ["_law_pen_here", "_law_many"] (defScope sDraw) := ⟨rfl, rfl, rfl, by decide +kernel, rfl, by decide +kernel, by decide +kernel⟩
theorem div200 {m : Int} (h : 0 < m) (h2 : m.natAbs < 2 ^ 200) (i : Int) : CDivW i m := wide_div h h2 (by decide) (by decide)
theorem ok_draw {f : Addr} {fd : FuncData} (F : Fun K "_law_draw" "_law_draw" sDraw f fd) (B : Bl mg) : FnOk P w K mg base CX0 1 f fd ["_law_pen_here", "_law_many"] spDraw := by
  refine F.ok scDraw (fun vs H Q E h => ?_) (fun cdv A outer s H vs Q E hr h => ?_)
  · obtain ⟨p, m, n, rfl, _⟩ := h
    rfl
  · obtain ⟨p, m, n, rfl, hm, hmb, ⟨c, ns, k, l, hp, hc, hns, hk0, hkn, hl⟩, hn, q⟩ := h
    have hu := hu_of hr
    have ncp : c ≠ p := ne_of hc hp (by intro z; cases z)
    have nd := scDraw.nd
    refine ⟨_, pss_cons (ps_if (pt_cmpR op_gt (pe_dget hu (pv 0) pe_str (fun _ _ => rfl)) pe_int (nomark _))
        (pss_cons (ps_set (i := 2) nd rfl (.inl rfl) (pe_op op_mod (pe_callTy call_int1 (by rfl) B.int boot_int (pa_cons (pe_dget hu (pv 0) pe_str (fun _ _ => rfl)) pa_nil)) (pv 1)))
        (pss_cons (ps_dput hu (pv 0) pe_str (pe_op op_fdivW (pe_dget hu (pv 0) pe_str (fun _ _ => rfl)) (pv 1)) rfl)
        (pss_one (ps_ret (pv 2))))) pss_nil)
      (pss_cons (ps_par (i := 3) (j := 4) rfl nd rfl rfl (by decide) rfl rfl (pa_cons (pe_dget hu (pv 0) pe_str (fun _ _ => rfl)) (pa_cons (pe_callB call_len_seq (by rfl) B.len PySem.boot_len (pa_cons (pe_dget hu (pv 0) pe_str (fun _ _ => rfl)) pa_nil)) pa_nil)) rfl)
      (pss_cons (ps_dput hu (pv 0) pe_str (pe_op op_add (pv 3) pe_int) rfl)
      (Evl.pss_cut (ps_set (i := 5) nd rfl (.inl rfl) (pe_ifExp (pt_cmpR op_gt (pv 4) pe_int (nomark _))
          (pe_ix ix_list (pe_dget hu (pv 0) pe_str (fun _ _ => rfl)) (pe_op op_mod (pe_callTy call_int1 (by rfl) B.int boot_int (pa_cons (pv 3) pa_nil)) (pv 4)) (fun _ _ => rfl))
          (pe_op op_add (pe_op op_mul pe_int (pv 3)) pe_int)))
      (Evl.pss_cut (ps_if (PW.pt (pw_and (pt_cmpR op_lt (pv 3) (pv 4) (nomark _)) (pw_and1 (pt_cmpR op_ge (pe_callB call_abs (by rfl) B.abs boot_absO (pa_cons (pv 5) pa_nil)) (pe_op op_pow pe_int pe_int) (nomark _)))))
        (pss_cons (ps_dput hu (pv 0) pe_str (pe_op op_fdivW (pe_op op_sub (pe_callB call_abs (by rfl) B.abs boot_absO (pa_cons (pv 5) pa_nil)) (pe_op op_pow pe_int pe_int)) (pv 1)) rfl)
        (pss_one (ps_ret (pe_op op_mod (pe_callTy call_int1 (by rfl) B.int boot_int (pa_cons (pe_op op_sub (pe_callB call_abs (by rfl) B.abs boot_absO (pa_cons (pv 5) pa_nil)) (pe_op op_pow pe_int pe_int)) pa_nil)) (pv 1))))) pss_nil)
      (pss_cons (ps_set (i := 6) nd rfl (.inl rfl) (pe_op op_mod (pe_callTy call_int1 (by rfl) B.int boot_int (pa_cons
          (pe_op op_add (pe_op op_add (pe_op op_add (pe_op op_mul (pe_op op_mod (pe_callTy call_int1 (by rfl) B.int boot_int (pa_cons (pv 5) pa_nil)) pe_int) pe_int) (pe_op op_mul (pe_op op_mul pe_int (pv 3)) (pv 3))) (pe_op op_mul pe_int (pv 3))) pe_int) pa_nil)) pe_int))
      (pss_cons (ps_set (i := 6) nd rfl (.inl rfl) (pe_op op_mod (pe_callTy call_int1 (by rfl) B.int boot_int (pa_cons
          (pe_op op_add (pe_op op_add (pe_op op_mul (pv 6) (pv 6)) (pe_op op_mul pe_int (pv 6))) (pe_op op_mul pe_int (pv 3))) pa_nil)) pe_int))
      (pss_one (ps_ret (pe_op op_mod (pe_callTy call_int1 (by rfl) B.int boot_int (pa_cons (pe_op op_fdiv (pe_op op_mod (pe_callTy call_int1 (by rfl) B.int boot_int (pa_cons (pe_op op_mul (pv 6) (pe_op op_add (pv 6) pe_int)) pa_nil)) pe_int) pe_int) pa_nil)) (pv 1)))))))))), ?_⟩
    -- if pen['left'] > 0
    have dL : DGet H p (.str "left") (some (.int l)) := dg hp (pen_left c k l)
    have dB : DGet H p (.str "begun") (some (.int k)) := dg hp (pen_begun c k l)
    have dC : DGet H p (.str "cells") (some (.ref c)) := dg hp (pen_cells c k l)
    refine ⟨_, rfl, p, .int l, rfl, dL, _, _, rfl, rfl, _, rfl, ite2 (fun e => ?_) (fun e => ?_)⟩
    · have hl1 : 0 < l := of_decide_eq_true e
      refine ⟨_, rfl, p, .int l, rfl, dL, .inl ⟨l, rfl, _, rfl, l, m, rfl, rfl, hm, ?_⟩⟩
      refine ⟨_, rfl, p, .int l, rfl, dL, _, rfl, l, m, rfl, rfl, div200 hm hmb l, _, rfl, p, _, rfl, dp hp (pen_put_left c k l _) (pen_small c k l), _, rfl, ?_⟩
      refine q (l % m) _ (mod_bd l m hm).1 (mod_bd l m hm).2 ⟨c, ns, k, l / m, upd_same, by rw [upd_ne ncp]; exact hc, hns, hk0, by omega, Int.ediv_nonneg hl (by omega)⟩ (Frm.pen hp)
    · -- k, size = pen['begun'], len(pen['cells'])
      have hcL : SqL K H c (ns.map V.int) := .inl (.inl hc)
      refine ⟨_, rfl, p, .int k, rfl, dB, _, rfl, p, .ref c, rfl, dC, c, _, rfl, .inl hcL, _, _, rfl, ?_⟩
      refine ⟨_, rfl, _, _, rfl, rfl, _, rfl, p, _, rfl, dp hp (pen_put_begun c k l _) (pen_small c k l), ?_⟩
      -- cell = ..
      have hl0 : l = 0 := by
        have : ¬ (0 < l) := fun z => e (decide_eq_true z)
        omega
      have hp1 : (upd H p (.dK (penK c (k + 1) l))) p = some (.dK (penK c (k + 1) l)) := upd_same
      have hc1 : (upd H p (.dK (penK c (k + 1) l))) c = some (.lst (ns.map V.int)) := by rw [upd_ne ncp]; exact hc
      have dC1 := dg (x := "cells") hp1 (pen_cells c (k + 1) l)
      have hcL1 : SqL K (upd H p (.dK (penK c (k + 1) l))) c (ns.map V.int) := .inl (.inl hc1)
      have fin : ∀ (r y : Int), 0 ≤ r → r < m → 0 ≤ y → ∀ H', H' = upd H p (.dK (penK c (k + 1) y)) → Q (.int r) H' := fun r y h0 h1 hy H' e => by
        subst e
        exact q r _ h0 h1 ⟨c, ns, k + 1, y, upd_same, by rw [upd_ne ncp]; exact hc, hns, by omega, by omega, hy⟩ (Frm.pen hp)
      refine ⟨fun σ' H' => ∃ cell : Int, σ' = [some (.ref p), some (.int m), none, some (.int k), some (.int ((ns.map V.int).length : Int)), some (.int cell), none] ∧ H' = upd H p (.dK (penK c (k + 1) l)), ?_, ?_⟩
      · refine ⟨_, rfl, _, _, rfl, rfl, _, rfl, ite2 (fun e2 => ?_) (fun e2 => ?_)⟩
        · have hsz : (0 : Int) < ((ns.map V.int).length : Int) := of_decide_eq_true e2
          have hb := mod_bd k _ hsz
          have hj : (k % ((ns.map V.int).length : Int)).toNat < ns.length := by
            rw [List.length_map] at hb ⊢
            omega
          refine ⟨_, rfl, p, _, rfl, dC1, _, rfl, .inl ⟨k, rfl, _, rfl, k, _, rfl, rfl, hsz, c, ns.map V.int, _, .int ns[(k % ((ns.map V.int).length : Int)).toNat], rfl, rfl, hcL1, ?_, ?_⟩⟩
          · have := atI_nat (xs := ns.map V.int) (j := (k % ((ns.map V.int).length : Int)).toNat) (v := .int ns[(k % ((ns.map V.int).length : Int)).toNat]) (by rw [List.getElem?_map, List.getElem?_eq_getElem hj]; rfl)
            rw [Int.toNat_of_nonneg hb.1] at this
            exact this
          · exact ⟨_, rfl, rfl⟩
        · refine ⟨_, rfl, _, _, rfl, rfl, .inl ⟨by decide, by decide⟩, _, _, rfl, rfl, ?_⟩
          exact ⟨_, rfl, rfl⟩
      · rintro σ' H' ⟨cell, rfl, rfl⟩
        refine ⟨fun σ' H' => σ' = [some (.ref p), some (.int m), none, some (.int k), some (.int ((ns.map V.int).length : Int)), some (.int cell), none] ∧ H' = upd H p (.dK (penK c (k + 1) l)), ?_, ?_⟩
        · have hpow : CPow 10 18 := ⟨by decide, by decide, by decide⟩
          refine ⟨_, rfl, _, rfl, _, _, rfl, rfl, _, rfl, ite2 (fun e2 => ?_) (fun e2 => ?_)⟩
          · refine ⟨_, rfl, cell, rfl, _, _, rfl, rfl, hpow, _, _, rfl, rfl, _, rfl, ite2 (fun e3 => ?_) (fun e3 => ?_)⟩
            · have hge := of_decide_eq_true e3
              refine ⟨_, rfl, cell, rfl, _, _, rfl, rfl, hpow, _, _, rfl, rfl, _, rfl, _, _, rfl, rfl, div200 hm hmb _, _, rfl, p, _, rfl, dp hp1 (pen_put_left c (k + 1) l _) (pen_small c _ l), ?_⟩
              refine ⟨_, rfl, cell, rfl, _, _, rfl, rfl, hpow, _, _, rfl, rfl, .inl ⟨_, rfl, _, rfl, _, _, rfl, rfl, hm, ?_⟩⟩
              refine fin _ (((if cell < 0 then -cell else cell) - 10 ^ (18 : Int).toNat) / m) (mod_bd _ m hm).1 (mod_bd _ m hm).2 (Int.ediv_nonneg ?_ (by omega)) _ ?_
              · show (0 : Int) ≤ (if cell < 0 then -cell else cell) - 10 ^ (18 : Int).toNat
                have : (10 : Int) ^ (18 : Int).toNat ≤ (if cell < 0 then -cell else cell) := hge
                omega
              · rw [upd_upd]
            · exact ⟨rfl, rfl⟩
          · exact iteF ⟨rfl, rfl⟩
        · rintro σ' H' ⟨rfl, rfl⟩
          -- mix
          refine ⟨_, rfl, .inl ⟨_, rfl, _, _, rfl, rfl, (by show (0 : Int) < 4294966769; decide), _, _, rfl, rfl, .inr ⟨by decide, by decide⟩, _, rfl, _, _, rfl, rfl, .inl ⟨by decide, by decide⟩, _, rfl, _, _, rfl, rfl, .inl ?_, _, _, rfl, rfl, _, rfl, _, _, rfl, rfl, .inl ⟨by decide, by decide⟩, _, _, rfl, rfl, _, _, rfl, rfl, .inl ⟨_, rfl, _, _, rfl, rfl, (by show (0 : Int) < 4294966813; decide), ?_⟩⟩⟩
          · constructor <;> omega
          -- mix again
          generalize hM : (cell % 4294966769 * 43313 + 31699 * k * k + 613 * k + 41) % 4294966813 = M
          have hMb : 0 ≤ M ∧ M < 4294966813 := hM ▸ mod_bd _ _ (by decide)
          refine ⟨_, rfl, _, rfl, _, _, rfl, rfl, .inl (by constructor <;> omega), _, rfl, _, _, rfl, rfl, .inl ⟨by decide, by decide⟩, _, _, rfl, rfl, _, rfl, _, _, rfl, rfl, .inl ⟨by decide, by decide⟩, _, _, rfl, rfl, .inl ⟨_, rfl, _, _, rfl, rfl, (by show (0 : Int) < 4294966787; decide), ?_⟩⟩
          generalize hM2 : (M * M + 40961 * M + 17 * k) % 4294966787 = M2
          have hMb2 : 0 ≤ M2 ∧ M2 < 4294966787 := hM2 ▸ mod_bd _ _ (by decide)
          refine ⟨_, rfl, _, rfl, _, _, rfl, rfl, _, _, rfl, rfl, .inl (by constructor <;> omega), .inl ⟨_, rfl, _, _, rfl, rfl, (by show (0 : Int) < 4294966661; decide), _, _, rfl, rfl, ⟨by decide, by decide⟩, .inl ⟨_, rfl, _, rfl, _, _, rfl, rfl, hm, ?_⟩⟩⟩
          exact fin _ l (mod_bd _ m hm).1 (mod_bd _ m hm).2 hl _ rfl
theorem scPick : FnScope ["_law_pen_here", "_law_items"] ["_law_pen_here", "_law_items"] (defScope sPick) := ⟨rfl, rfl, rfl, by decide +kernel, rfl, by decide +kernel, by decide +kernel⟩
theorem ok_pick {f : Addr} {fd : FuncData} (F : Fun K "_law_pick" "_law_pick" sPick f fd) (B : Bl mg) (D : Cl P w K mg base 1 "_law_draw" ["_law_pen_here", "_law_many"] spDraw) : FnOk P w K mg base CX0 2 f fd ["_law_pen_here", "_law_items"] (spPick K) := by
  refine F.ok scPick (fun vs H Q E h => ?_) (fun cdv A outer s H vs Q E hr h => ?_)
  · obtain ⟨p, a, xs, n, rfl, _⟩ := h
    rfl
  · obtain ⟨p, a, xs, n, rfl, hS, h0, h1, hP, hn, q⟩ := h
    refine ⟨_, pss_one (ps_ret (pe_ix ix_list (pv 1) (pe_cl D hr (by decide) (by rfl) (pa_cons (pv 0) (pa_cons (pe_callB call_len_seq (by rfl) B.len PySem.boot_len (pa_cons (pv 1) pa_nil)) pa_nil))) (fun _ _ => rfl))), ?_⟩
    refine ⟨_, rfl, _, rfl, _, rfl, a, xs, rfl, .inl hS, p, xs.length, n, rfl, by omega, ?_, hP, hn, fun r H' hr0 hr1 hP' hF => ?_⟩
    · have : xs.length < 2 ^ 200 := Nat.lt_of_le_of_lt h1 (by decide)
      simpa using this
    · have hj : r.toNat < xs.length := by omega
      refine ⟨a, xs, r, xs[r.toNat], rfl, rfl, hF.seq hP hS, ?_, q _ _ (List.getElem_mem hj) hP' hF⟩
      have := atI_nat (xs := xs) (j := r.toNat) (v := xs[r.toNat]) (List.getElem?_eq_getElem hj)
      rw [Int.toNat_of_nonneg hr0] at this
      exact this
theorem scPen : FnScope ["_law_script"] ["_law_script"] (defScope sPen) := ⟨rfl, rfl, rfl, by decide +kernel, rfl, by decide +kernel, by decide +kernel⟩
theorem cut63 (ns : List Int) : cutV (ns.map V.int) none (some 63) = (ns.take 63).map V.int := by
  unfold cutV
  rw [HT.sIx_none, show HT.sIx (ns.map V.int).length (ns.map V.int).length (some 63) = min 63 (ns.map V.int).length from HT.sIx_nat _ _ 63, List.drop_zero, Nat.sub_zero, List.map_take]
  rcases Nat.le_total 63 (ns.map V.int).length with h | h
  · rw [Nat.min_eq_left h]
  · rw [Nat.min_eq_right h, List.take_of_length_le (Nat.le_refl _), List.take_of_length_le h]
theorem ok_pen {f : Addr} {fd : FuncData} (F : Fun K "_law_pen" "_law_pen" sPen f fd) (B : Bl mg) : FnOk P w K mg base CX0 1 f fd ["_law_script"] (spPen K) := by
  refine F.ok scPen (fun vs H Q E h => ?_) (fun cdv A outer s H vs Q E hr h => ?_)
  · obtain ⟨a, ns, rfl, _⟩ := h
    rfl
  · obtain ⟨a, ns, rfl, hS, hlen, q⟩ := h
    refine ⟨_, pss_one (ps_ret (pe_disp (pps_cons pe_str (pe_callTy call_list_of (by rfl) B.list (by decide +kernel) (pa_cons (pe_slice sl_list (pv 0) po_none (po_some pe_int)) pa_nil)) (pps_cons pe_str pe_int (pps_cons pe_str pe_int pps_nil))) rfl rfl (by simp) (by decide))), ?_⟩
    intro p hp
    have s1 : Same H (upd H p (.dK [])) := fun b o e => by rw [upd_ne (ne_of_none e hp)]; exact e
    refine ⟨_, rfl, _, rfl, a, _, rfl, s1.seq hS, fun x hx => ?_⟩
    refine ⟨x, _, rfl, .inl (.inl (.inl upd_same)), fun c hc => ?_⟩
    have npx : p ≠ x := ne_of_none upd_same hx
    have npc : p ≠ c := by
      intro e
      subst e
      rw [upd_ne npx, upd_same] at hc
      cases hc
    have a1 : putK ([] : List (Key × V)) (.inr ("cells" : Str)) (.ref c) = [(.inr ("cells" : Str), .ref c)] := putK_new _ valV_nil
    have a2 : putK ([(.inr ("cells" : Str), .ref c)] : List (Key × V)) (.inr ("begun" : Str)) (.int 0) = [(.inr ("cells" : Str), .ref c), (.inr ("begun" : Str), .int 0)] := putK_new _ ((valV_neg (fun e => kBC e.symm)).trans valV_nil)
    have a3 : putK ([(.inr ("cells" : Str), .ref c), (.inr ("begun" : Str), .int 0)] : List (Key × V)) (.inr ("left" : Str)) (.int 0) = penK c 0 0 := putK_new _ ((valV_neg (fun e => kLC e.symm)).trans ((valV_neg (fun e => kLB e.symm)).trans valV_nil))
    have e3 : mergeK [] (penK c 0 0) = penK c 0 0 := by
      show putK (putK (putK ([] : List (Key × V)) (.inr ("cells" : Str)) (.ref c)) (.inr ("begun" : Str)) (.int 0)) (.inr ("left" : Str)) (.int 0) = penK c 0 0
      rw [a1, a2, a3]
    refine ⟨by rw [upd_ne npc, upd_ne npx, upd_same], penK c 0 0, rfl, by show 3 ≤ 15; decide, ?_⟩
    rw [e3]
    refine q p _ hp ⟨c, ns.take 63, 0, 0, upd_same, ?_, by rw [List.length_take]; omega, by omega, by omega, by omega⟩ fun b o e => ?_
    · rw [upd_ne npc.symm, upd_same, cut63]
    · have h1 := s1 b o e
      have nbx : b ≠ x := ne_of_none h1 hx
      have h2 : (upd (upd H p (.dK [])) x (.lst (cutV (ns.map V.int) none (some 63)))) b = some o := by rw [upd_ne nbx]; exact h1
      rw [upd_ne (ne_of_none e hp), upd_ne (ne_of_none h2 hc)]
      exact h2
end
end OR

namespace OR
open PySem PySem.Spec PyProof.Rows L2
/-! ### own classes: double-underscore methods behind the signs -/
/-- a method of the class at C, called with its object and arguments by position -/
structure Md (P : Program) (w : World) (K : PySem.W.Frag) (mg : Str → Option Value) (base : Heap) (k : Nat) (C : Addr) (m : Str) (sp : Sp) : Prop where
  ex : ∃ f, FnR P w K mg base CX0 k f sp ∧ PySem.W.findIn K (.ref C) m = some (some (.ref f)) ∧ PySem.W.isFn K (.ref f) = true ∧ PySem.W.fnIn K f = true
theorem fnR_of {P : Program} {w : World} {K : PySem.W.Frag} {mg : Str → Option Value} {base : Heap} {k : Nat} {f : Addr} {fd : FuncData} {ps : List Str} {sp : Sp} (F : FnOk P w K mg base CX0 k f fd ps sp) (hb : Binds K fd ps []) : FnR P w K mg base CX0 k f sp :=
  (F.raw hb .nil).imp fun vs H Q E h => by rw [List.append_nil]; exact h
section
variable {X : Cx} {n : Nat} {C : Addr} {sp : Sp}
def rBinS (C : Addr) (sp : Sp) : R2 := fun x y H Q => ∃ a b dx dy fs gs, x = .ref a ∧ y = .ref b ∧ H a = some (.ins C dx fs) ∧ H b = some (.ins C dy gs) ∧ sp [x, y] H Q E0
theorem op_binS {op : Operator} (m : Md X.prog X.w X.K X.mg X.base n C (PySem.dunder op.info.2) sp) (sf : PySem.W.selfFirst X.K C = true) (hr : Room n X.A) : OpR X (binaryOp op) (rBinS C sp) := by
  intro pins s σ H x y v u Q I rx ry h
  obtain ⟨f, F, hs, hf, _⟩ := m.ex
  obtain ⟨a, b, dx, dy, fs, gs, rfl, rfl, ha, hb, q⟩ := h
  cases (show v = Value.ref a from rx)
  cases (show u = Value.ref b from ry)
  obtain ⟨mA, J, _⟩ := ins_get I.hok ha
  obtain ⟨mB, J', _⟩ := ins_get I.hok hb
  obtain ⟨od, J, _⟩ := J.look
  obtain ⟨od', J', _⟩ := J'.look
  obtain ⟨m, hF⟩ := I.fr
  refine PySem.W.binop_K hF I.ok.mod.kin J J'.type sf hs hf ?_
  refine wpAny_mono (wpAny_call (run_fnR (us := [.ref a, .ref b]) (vs := [.ref a, .ref b]) F hr pass0 I (.cons rfl (.cons rfl .nil)) q)) (fun w s' z => ?_) fun _ _ x => x
  obtain ⟨z', H', I', rz, qz⟩ := z
  exact SlX.cmpback rz ⟨z', H', I', rz, qz⟩
/-- what + and the like ask of the class for an int on the right -/
structure BinI (K : PySem.W.Frag) (C : Addr) (op : Operator) : Prop where
  rc : ∃ rc, PySem.W.findIn K (.ref C) (PySem.dunderR op.info.2) = some rc ∧ (rc = none ∨ ∃ g : Addr, rc = some (.ref g))
  fo : ∃ fo, PySem.W.findIn K (.type "int") (PySem.dunder op.info.2) = some fo
  ro : ∃ ro, PySem.W.findIn K (.type "int") (PySem.dunderR op.info.2) = some ro
  sub : PySem.W.subIn K (.type "int") (.ref C) = some false
def rBinI (C : Addr) (sp : Sp) : R2 := fun x y H Q => ∃ a dx fs i, x = .ref a ∧ y = .int i ∧ H a = some (.ins C dx fs) ∧ sp [x, y] H Q E0
theorem op_binI {op : Operator} (m : Md X.prog X.w X.K X.mg X.base n C (PySem.dunder op.info.2) sp) (b : BinI X.K C op) (sf : PySem.W.selfFirst X.K C = true) (hr : Room n X.A) : OpR X (binaryOp op) (rBinI C sp) := by
  intro pins s σ H x y v u Q I rx ry h
  obtain ⟨f, F, hs, hf, _⟩ := m.ex
  obtain ⟨a, dx, fs, i, rfl, rfl, ha, q⟩ := h
  cases (show v = Value.ref a from rx)
  obtain ⟨t, rfl⟩ := (show ∃ t, u = Value.int i t from ry)
  obtain ⟨mA, J, _⟩ := ins_get I.hok ha
  obtain ⟨od, J, _⟩ := J.look
  obtain ⟨m, hF⟩ := I.fr
  obtain ⟨rc, hrc, hp⟩ := b.rc
  obtain ⟨fo, h1⟩ := b.fo
  obtain ⟨ro, h2⟩ := b.ro
  refine PySem.W.ksp_binT (T := "int") hF I.ok.mod.kin J rfl sf hs hf hrc hp h1 h2 b.sub ?_
  refine wpAny_mono (wpAny_call (run_fnR (us := [.ref a, .int i t]) (vs := [.ref a, .int i]) F hr pass0 I (.cons rfl (.cons ⟨t, rfl⟩ .nil)) q)) (fun w s' z => ?_) fun _ _ x => x
  obtain ⟨z', H', I', rz, qz⟩ := z
  exact SlX.cmpback rz ⟨z', H', I', rz, qz⟩
def rNegO (C : Addr) (sp : Sp) : V → Hp → VK → Prop := fun x H Q => ∃ a dx fs, x = .ref a ∧ H a = some (.ins C dx fs) ∧ sp [x] H Q E0
theorem un_negO (m : Md X.prog X.w X.K X.mg X.base n C "__neg__" sp) (hr : Room n X.A) : UnR X (unaryOp .USub) (rNegO C sp) := by
  intro pins s σ H x v Q I rx h
  obtain ⟨f, F, hs, hf, _⟩ := m.ex
  obtain ⟨a, dx, fs, rfl, ha, q⟩ := h
  cases (show v = Value.ref a from rx)
  obtain ⟨mA, J, _⟩ := ins_get I.hok ha
  obtain ⟨od, J, _⟩ := J.look
  obtain ⟨m, hF⟩ := I.fr
  refine PySem.W.ksp_neg hF I.ok.mod.kin J hs hf ?_
  refine wpAny_mono (wpAny_call (run_fnR (us := [.ref a]) (vs := [.ref a]) F hr pass0 I (.cons rfl .nil) q)) (fun w s' z => ?_) fun _ _ x => x
  exact z
end
/-- a reading may ask for more -/
theorem pe_imp {X : Cx} {e : Expr} {t t' : TE} (h : PE X e t) (i : ∀ σ H Q, t' σ H Q → t σ H Q) : PE X e t' := ⟨fun pins s σ H Q I q => h.run pins s σ H Q I (i σ H Q q)⟩
structure FnAt (K : PySem.W.Frag) (x : Str) (st : Stmt) : Prop where
  ex : ∃ f fd, Fun K x x st f fd ∧ PySem.W.nsIn K mainGlobals x = some (some (.ref f))
theorem fnAt {K : PySem.W.Frag} {h : Heap} {x : Str} {st : Stmt} {f : Addr} {oc : Value} {od an : Option Addr} {osl : Array (Option Value)} {kV doc pm cdv ct : Value} (_X : K.In h)
    (a : PySem.W.nsIn K mainGlobals x = some (some (.ref f))) (l : K.lookup f = some ⟨oc, od, .func (PySem.W.fnOf x x (defArgs st) (defBody st) (defScope st) .none kV doc pm an cdv ct), osl⟩)
    (c : PySem.W.codeIn K cdv x = true) (k : PySem.W.keepIn K (.ref f) = true) : FnAt K x st := ⟨f, _, fun_mk l c k, a⟩
structure MtAt (K : PySem.W.Frag) (C : Addr) (m m' qual : Str) (st : Stmt) : Prop where
  ex : ∃ f fd, Fun K m qual st f fd ∧ PySem.W.findIn K (.ref C) m' = some (some (.ref f)) ∧ PySem.W.isFn K (.ref f) = true ∧ PySem.W.fnIn K f = true
theorem mtAt {K : PySem.W.Frag} {h : Heap} {C : Addr} {m m' qual : Str} {st : Stmt} {f : Addr} {oc : Value} {od an : Option Addr} {osl : Array (Option Value)} {kV doc pm cdv ct : Value} (_X : K.In h)
    (a : PySem.W.findIn K (.ref C) m' = some (some (.ref f))) (l : K.lookup f = some ⟨oc, od, .func (PySem.W.fnOf m qual (defArgs st) (defBody st) (defScope st) .none kV doc pm an cdv ct), osl⟩)
    (c : PySem.W.codeIn K cdv qual = true) (k : PySem.W.keepIn K (.ref f) = true) (i : PySem.W.isFn K (.ref f) = true) (n : PySem.W.fnIn K f = true) : MtAt K C m m' qual st := ⟨f, _, fun_mk l c k, a, i, n⟩
section
variable {P : Program} {w : World} {K : PySem.W.Frag} {mg : Str → Option Value} {base h : Heap}
theorem cl_of {x : Str} {st : Stmt} {k : Nat} {ps : List Str} {sp : Sp} (a : FnAt K x st) (X : K.In h) (G : h.Ns mainGlobals mg)
    (hb : ∀ (kV doc pm : Value) (an : Option Addr) (cdv ct : Value) (us : List Value), us.length = ps.length → bindArgs (PySem.W.fnOf x x (defArgs st) (defBody st) (defScope st) .none kV doc pm an cdv ct) ⟨us, []⟩ = pure (ps.zip us))
    (ok : ∀ f fd, Fun K x x st f fd → FnOk P w K mg base CX0 k f fd ps sp) : Cl P w K mg base k x ps sp := by
  obtain ⟨f, fd, F, e⟩ := a.ex
  exact ⟨f, fd, ok f fd F, PySem.W.mg_of X G e, F.kp, F.binds hb⟩
theorem md_of {C : Addr} {m m' qual : Str} {st : Stmt} {k : Nat} {ps : List Str} {sp : Sp} (a : MtAt K C m m' qual st)
    (hb : ∀ (kV doc pm : Value) (an : Option Addr) (cdv ct : Value) (us : List Value), us.length = ps.length → bindArgs (PySem.W.fnOf m qual (defArgs st) (defBody st) (defScope st) .none kV doc pm an cdv ct) ⟨us, []⟩ = pure (ps.zip us))
    (ok : ∀ f fd, Fun K m qual st f fd → FnOk P w K mg base CX0 k f fd ps sp) : Md P w K mg base k C m' sp := by
  obtain ⟨f, fd, F, e, i, n⟩ := a.ex
  exact ⟨f, fnR_of (ok f fd F) (F.binds hb), e, i, n⟩
end
end OR

namespace OR
open PySem PySem.Spec PyProof.Rows L2
open AutoSeq1 (wpAny_loadPart')
/-! ### enumerate of a tuple -/
section
variable {prog : Program} {w : World} {A : Around} {E : Value → Shared → Prop} {s : Shared}
theorem nextOf_tup_item {it t : Addr} {i : Nat} {items : Array Value} {x : Value} {Q : Value → Shared → Prop} (hit : s.heap.IsTupleIter it t i) (ht : s.heap.IsTuple t items) (hx : items[i]? = some x)
    (hQ : ∀ h', h'.IsTupleIter it t (i + 1) → Heap.SameBut it s.heap h' → Q x { s with heap := h' }) : wpAny (model prog w) A (Builtin.SmallTypes.nextOf (.ref it)) Q E s := by
  obtain ⟨o, ho, hc, hd⟩ := id hit
  obtain ⟨ol, hol, _, nl, hdl⟩ := ht
  unfold Builtin.SmallTypes.nextOf
  refine wpAny_bind (wpAny_callSpecial?_slot (name := Str.ofString "__next__") hit.typeIs F.slot_tuple_iterator_next (wpAny_call_entry F.slot_tuple_iterator_next hit.typeIs F.entry_tuple_iterator_next ?_ (F.args_tuple_iterator_next_1 _)))
  show wpAny _ _ (field (.ref it) 0 >>= _) _ _ s
  refine wpAny_bind (wpAny_field ho hd (x := .ref t) rfl ?_)
  show wpAny _ _ (if (Value.ref t == Value.none) = true then _ else _) _ _ s
  rw [if_neg (show ¬ ((Value.ref t == Value.none) = true) by exact Bool.false_ne_true)]
  show wpAny _ _ (field (.ref it) 1 >>= _) _ _ s
  refine wpAny_bind (wpAny_field ho hd (x := .int i 0) rfl ?_)
  show wpAny _ _ (seqItems? (.ref t) >>= _) _ _ s
  refine wpAny_bind (wpAny_seqItems hol hdl ?_)
  simp only [Int.toNat_natCast, hx]
  refine wpAny_bind (wpAny_setField ho hd (by simp) (wpAny_pure ⟨x, rfl, wpAny_pure (hQ _ ⟨_, Heap.get?_update_self _ ho (Obj.isFreed_of_fields (Obj.data_mapFields hd _)), (Obj.cls_mapFields ..).trans hc, by
    rw [Obj.data_mapFields hd]; simp [rawInt]⟩ (Heap.SameBut.update ..))⟩))
theorem nextOf_tup_end {it t : Addr} {i : Nat} {items : Array Value} {Q : Value → Shared → Prop} (hh : A.handled = none) (hit : s.heap.IsTupleIter it t i) (ht : s.heap.IsTuple t items) (hx : items[i]? = none)
    (hE : ∀ h' e, Heap.ExtBut it s.heap h' → (∃ o, h'.get? e = some o ∧ o.cls = .type "StopIteration") → E (.ref e) { s with heap := h' }) : wpAny (model prog w) A (Builtin.SmallTypes.nextOf (.ref it)) Q E s := by
  obtain ⟨o, ho, hc, hd⟩ := id hit
  obtain ⟨ol, hol, _, nl, hdl⟩ := ht
  unfold Builtin.SmallTypes.nextOf
  refine wpAny_bind (wpAny_callSpecial?_slot (name := Str.ofString "__next__") hit.typeIs F.slot_tuple_iterator_next (wpAny_call_entry F.slot_tuple_iterator_next hit.typeIs F.entry_tuple_iterator_next ?_ (F.args_tuple_iterator_next_1 _)))
  show wpAny _ _ (field (.ref it) 0 >>= _) _ _ s
  refine wpAny_bind (wpAny_field ho hd (x := .ref t) rfl ?_)
  show wpAny _ _ (if (Value.ref t == Value.none) = true then _ else _) _ _ s
  rw [if_neg (show ¬ ((Value.ref t == Value.none) = true) by exact Bool.false_ne_true)]
  show wpAny _ _ (field (.ref it) 1 >>= _) _ _ s
  refine wpAny_bind (wpAny_field ho hd (x := .int i 0) rfl ?_)
  show wpAny _ _ (seqItems? (.ref t) >>= _) _ _ s
  refine wpAny_bind (wpAny_seqItems hol hdl ?_)
  simp only [Int.toNat_natCast, hx]
  refine wpAny_bind (wpAny_rule (wpAny_bind (wpAny_setField ho hd (by simp) ?_)))
  show wpAny _ _ (newExc (.type "StopIteration") [] >>= _) _ _ _
  refine wpAny_bind ?_
  simp only [newExc, newTuple]
  refine wpAny_bind (wpAny_newObj_type ?_ (by size_fits))
  refine wpAny_bind (m := firstArgMember _ _) (wpAny_of_eq (a := Value.none) (by first | rfl | (simp only [firstArgMember]; rfl)) ?_)
  refine wpAny_newObj_type ?_ (by size_fits)
  simp only [raiseNew]
  refine wpAny_bind (wpAny_handled ?_)
  first | rw [show A.in1.handled = none from hh] | rw [hh]
  refine wpAny_bind (wpAny_pure (wpAny_throw ?_))
  exact hE _ _ (((Heap.SameBut.update ..).extBut.push _).push _) ⟨_, Heap.get?_push_size _ rfl, rfl⟩
theorem draws_tup (hh : A.handled = none) (it t : Addr) (hne : t ≠ it) (items : Array Value) :
    Draws prog w A it [it, t] items.size (fun i v => items[i]? = some v) (fun i h => h.IsTupleIter it t i ∧ h.IsTuple t items) where
  live := fun _ _ st => let ⟨o, ho, _⟩ := st.1; ⟨o, ho⟩
  frame := fun _ _ _ st hk => ⟨let ⟨o, ho, r⟩ := st.1; ⟨o, hk it (by simp) o ho, r⟩, let ⟨o, ho, r⟩ := st.2; ⟨o, hk t (by simp) o ho, r⟩⟩
  item := fun i s Q E hi st hQ => by
    refine nextOf_tup_item st.1 st.2 (x := items[i]) (by simp [hi]) fun h' hit' hs' => ?_
    exact hQ _ h' s.toks (by simp [hi]) ⟨hit', st.2.extBut hs'.extBut hne⟩ hs'
  done := fun s Q E st hE => nextOf_tup_end hh st.1 st.2 (by simp) hE
theorem meets_enum_tup (l : Addr) (items : Array Value) (n : Nat) (dct : Option Addr) (sl : Array (Option Value)) :
    Meets (Builtin.«enumerate.__new__» ⟨[.type "enumerate", .ref l], []⟩) (fun _ R s => s.heap.get? l = some { cls := .type "tuple", dict := dct, data := .seq items n, slots := sl } ∧
      R (.ok (.ret (.ref (s.heap.push { cls := .type "tuple_iterator", data := .fields #[.ref l, .int 0 0] }).objs.size)))
        { s with heap := (s.heap.push { cls := .type "tuple_iterator", data := .fields #[.ref l, .int 0 0] }).push { cls := .type "enumerate", data := .fields #[.none, .bool false, .ref s.heap.objs.size, rawInt 0, .none, .none] } }) :=
  .of_wp fun prog w A R s h => by
    obtain ⟨hp, g, d, tk, os⟩ := s
    obtain ⟨hl, h⟩ := h
    have hsub := sub_enumerate
    have hL : Heap.IsTuple (Shared.heap ⟨hp, g, d, tk, os⟩) l items := ⟨_, hl, rfl, n, rfl⟩
    wp_walk using wpAny_loadPart' hl
    refine wpAny_stack_any fun st => wpAny_pure ?_
    split
    · rename_i c _ _ _ _ _
      cases (c == Value.type "enumerate")
      · wp_walk using wpAny_loadPart' hl, wpAny_pyIter_tuple hL
        exact ⟨_, rfl, h⟩
      · wp_walk using wpAny_loadPart' hl, wpAny_pyIter_tuple hL
        exact ⟨_, rfl, h⟩
    · wp_walk using wpAny_loadPart' hl, wpAny_pyIter_tuple hL
      exact ⟨_, rfl, h⟩
theorem call_enum_tup {l : Addr} {items : Array Value} {Q : Value → Shared → Prop} (hL : s.heap.IsTuple l items)
    (h : ∀ h', IsEnum h' (s.heap.objs.size + 1) s.heap.objs.size 0 .none → h'.IsTupleIter s.heap.objs.size l 0 → h'.objs.size = s.heap.objs.size + 2 →
      (∀ b o, s.heap.get? b = some o → h'.get? b = some o) → Q (.ref (s.heap.objs.size + 1)) { s with heap := h' }) :
    wpAny (model prog w) A (call (.type "enumerate") [.ref l]) Q E s := by
  obtain ⟨⟨c, dct, dt, sl⟩, hl, hc, n, hd⟩ := hL
  replace hc : c = .type "tuple" := hc
  replace hd : dt = .seq items n := hd
  subst hc hd
  refine callType_new F.called_enumerate (by decide) (F.typeCall_enumerate_1 _) (F.newCall_enumerate_1 _) (fun obj => F.args_object_init_2 obj _) F.entry_enumerate_new (meets_enum_tup l items n dct sl) ⟨hl, ?_⟩
  have hz : (s.heap.push { cls := .type "tuple_iterator", data := .fields #[.ref l, .int 0 0] }).objs.size = s.heap.objs.size + 1 := Heap.size_push ..
  show _ ∧ _
  rw [hz]
  have he : IsEnum ((s.heap.push { cls := .type "tuple_iterator", data := .fields #[.ref l, .int 0 0] }).push
      { cls := .type "enumerate", data := .fields #[.none, .bool false, .ref s.heap.objs.size, rawInt 0, .none, .none] }) (s.heap.objs.size + 1) s.heap.objs.size 0 .none := by
    have := Heap.get?_push_size (s.heap.push { cls := .type "tuple_iterator", data := .fields #[.ref l, .int 0 0] })
      (o := { cls := .type "enumerate", data := .fields #[.none, .bool false, .ref s.heap.objs.size, rawInt 0, .none, .none] }) rfl
    rw [hz] at this; exact this
  refine ⟨⟨_, he, rfl⟩, h _ he ⟨_, Heap.get?_push_of_some _ (Heap.get?_push_size _ rfl), rfl, rfl⟩ (by rw [Heap.size_push, hz]) fun b o x => Heap.get?_push_of_some _ (Heap.get?_push_of_some _ x)⟩
end
/-- the tuple at a as it stands at each turn, each item in a new pair -/
def IteT (K : PySem.W.Frag) (a : Addr) : It :=
  ⟨fun i H => ∃ (xs : List V) (x : V), SqT K H a xs ∧ xs[i]? = some x, fun i H v H' => ∃ T x, v = .ref T ∧ H T = none ∧ H' = upd H T (.tup [.int (i : Nat), x]) ∧ ∀ xs, SqT K H a xs → xs[i]? = some x, fun i H => ∃ xs : List V, SqT K H a xs ∧ xs.length ≤ i⟩
theorem turn_enumT {P : Program} {w : World} {K : PySem.W.Frag} {elts : List Expr} {kk : Nat} {tpos : Pos} (a e it : Addr) (hai : a ≠ it) (hea : e ≠ a) :
    Turn P w K (.Tuple elts kk tpos) (IteT K a) [e, it] e (fun i h => (∃ old, IsEnum h e it ((i : Nat) : Int) old) ∧ h.IsTupleIter it a i ∧ e ≠ it) where
  mem := by simp
  obj := fun i h st b hb => by
    obtain ⟨⟨old, he⟩, ⟨o, ho, hc, hd⟩, _⟩ := st
    have e' : b = e ∨ b = it := by simpa using hb
    rcases e' with z | z
    · rw [z]; exact ⟨_, he, fun v q => nomatch q⟩
    · rw [z]; exact ⟨o, ho, fun v q => by rw [hd] at q; cases q⟩
  keep := fun i h h' st k => by
    obtain ⟨⟨old, he⟩, ⟨o, ho, r⟩, hne⟩ := st
    exact ⟨⟨old, k e (by simp) _ he⟩, ⟨o, k it (by simp) o ho, r⟩, hne⟩
  item := by
    intro X hP hw hK hc i pins s σ H E I hf st hg
    subst hP hw hK
    obtain ⟨⟨old, he⟩, hit, hne⟩ := st
    obtain ⟨xs, x, hq, hx⟩ := hg
    obtain ⟨its, rv, p, hz⟩ := I.tuple hq
    obtain ⟨u, hu, ru⟩ := rv.get hx
    have hel : e < s.heap.objs.size := Heap.lt_size he
    have hil : it < s.heap.objs.size := by obtain ⟨_, q, _⟩ := hit; exact Heap.lt_size q
    have hD := draws_tup (prog := X.prog) (w := X.w) (A := X.A.in1) (I.ok.hd hc) it a hai its.toArray
    have hlt : i < its.toArray.size := by
      have := (List.getElem?_eq_some_iff.mp hu).1
      simpa using this
    refine wpAny_pyNext_enum_itemD hD he ⟨hit, show s.heap.IsTuple a its.toArray from p⟩ hlt hne (by simp [hne, hea]) fun y h' tk hy ho hst' hT hsz hk => ?_
    obtain rfl : y = u := by
      have h1 : its[i]? = some y := by simpa using hy
      rw [hu] at h1
      exact (Option.some.inj h1).symm
    refine ⟨_, rfl, wpAny_letOwnedTupleGo_enum (s := { s with heap := h', toks := tk + 1 }) ho fun h'' he' sb => ?_⟩
    have hT2 : h''.get? s.heap.objs.size = some { cls := .type "tuple", data := .seq #[.int i tk, y] } := (sb.2 _ (Nat.ne_of_gt hel)).trans hT
    have new : ObjOk X.prog X.w (upd H s.heap.objs.size (.tup [.int (i : Nat), x])) h'' s.heap.objs.size (.tup [.int (i : Nat), x]) :=
      ⟨by show 2 ≤ sizeLine; decide, [.int i tk, y], .cons ⟨_, rfl⟩ (.cons ru .nil), ⟨_, hT2, rfl, _, rfl⟩⟩
    have I1 : Inv X pins σ (upd H s.heap.objs.size (.tup [.int (i : Nat), x])) { s with heap := h'', toks := tk + 1 } :=
      I.turnedNew (ch := [e, it]) (fun b ob hb q => (sb.2 b (fun z => hb (by simp [z]))).trans (hk b ob (fun z => hb (by simp [z])) (fun z => hb (by simp [z])) q)) hf (Nat.le_refl _) new
    refine ⟨.ref s.heap.objs.size, _, I1, rfl, ⟨_, x, rfl, I.hok.fresh (Nat.le_refl _), rfl, fun ys hy => by rw [I.tuple_inj hy hq]; exact hx⟩, ⟨⟨y, ?_⟩, ?_, hne⟩, fun b hb => ?_⟩
    · have e1 : ((i + 1 : Nat) : Int) = (i : Int) + 1 := by omega
      rw [e1]; exact he'
    · obtain ⟨o, ho', r⟩ := hst'.1
      exact ⟨o, (sb.2 it (Ne.symm hne)).trans ho', r⟩
    · have hb' : b < s.heap.objs.size := by
        have e' : b = e ∨ b = it := by simpa using hb
        rcases e' with z | z
        · rw [z]; exact hel
        · rw [z]; exact hil
      rw [upd_ne (Nat.ne_of_lt hb')]
      exact (hf b hb).1
  done := by
    intro X hP hw hK hc i pins s σ H E I hf st hg
    subst hP hw hK
    obtain ⟨⟨old, he⟩, hit, hne⟩ := st
    obtain ⟨xs, hq, hx⟩ := hg
    obtain ⟨its, rv, p, hz⟩ := I.tuple hq
    obtain ⟨f0, f1, f2, f3, f4, f5⟩ := hf it (by simp)
    have hl := rv.length
    have hT : s.TypeIs (.ref e) "enumerate" := ⟨_, he, rfl⟩
    unfold pyNext
    refine wpAny_bind (wpAny_attempt (wpAny_callSpecial?_slot (name := Str.ofString "__next__") hT F.slot_enumerate_next (wpAny_call_entry F.slot_enumerate_next hT F.entry_enumerate_next ?_ (F.args_enumerate_next_1 _))))
    show wpAny _ _ (field (.ref e) 2 >>= _) _ _ _
    refine wpAny_bind (wpAny_field he rfl (x := .ref it) rfl ?_)
    refine wpAny_bind (nextOf_tup_end (I.ok.hd hc) hit (show s.heap.IsTuple a its.toArray from p) (by simp; omega) fun h' x he' hx' => ?_)
    obtain ⟨o, ho, hc'⟩ := hx'
    refine wpAny_bind (wpAny_isInstance (T := "StopIteration") (b := true) ⟨o, ho, hc'⟩ isSubtype_stop ?_)
    exact wpAny_pure ⟨rfl, I.turned (t' := s.toks) (fun b o hb q => he' b o hb q) f0 f1 f3 f4 f5⟩
  self := fun A i s Q E st h => let ⟨⟨_, he⟩, _⟩ := st; wpAny_pyIter_enum he h
def iEnumT (K : PySem.W.Frag) (ta : TA) : TI := fun σ H R => ta σ H fun vs H1 => ∃ a xs, vs = [.ref a] ∧ SqT K H1 a xs ∧ R (IteT K a) H1
theorem pi_enumT {X : Cx} {e : Expr} {ta : TA} {p pos tpos : Pos} {elts : List Expr} {kk : Nat} (hg : Gl X "enumerate") (hm : X.mg "enumerate" = none) (ha : PA X [e] ta) (hs : starEach [e] X.env = [(false, eval e X.env)] := by rfl) :
    PI X (.Tuple elts kk tpos) (.Call (.Name "enumerate" p) [e] [] pos) (iEnumT X.K ta) := by
  refine ⟨fun pins s σ H R I h => ?_⟩
  refine Call_ (ld_blt I hg hm boot_enumerate (PyProof.Rows.callWith_type1 (thn (ha.run pos pins s σ H _ I h) fun us s1 ⟨vs, H1, I1, r1, q1⟩ => ?_) hs rfl))
  obtain ⟨a, xs, ex, hq, q⟩ := q1
  subst ex
  cases r1 with
  | cons r rr =>
    cases rr
    cases r
    obtain ⟨its, rv, p', hz⟩ := I1.tuple hq
    have pt : s1.heap.IsTuple a its.toArray := p'
    have hal : a < s1.heap.objs.size := by obtain ⟨o, ho, _⟩ := pt; exact Heap.lt_size ho
    refine call_enum_tup pt fun h' he hit hsz hk => wpAny_pyIter_enum he ?_
    have I2 : Inv X pins σ H1 { s1 with heap := h' } := I1.kept (t' := s1.toks) hk
    refine ⟨s1.heap.objs.size + 1, [s1.heap.objs.size + 1, s1.heap.objs.size], _, _, H1, rfl, I2, turn_enumT a (s1.heap.objs.size + 1) s1.heap.objs.size (Nat.ne_of_lt hal) (Nat.ne_of_gt (Nat.lt_succ_of_lt hal)), ⟨⟨.none, he⟩, hit, Nat.succ_ne_self _⟩, fun b hb => ?_, q⟩
    have e' : b = s1.heap.objs.size + 1 ∨ b = s1.heap.objs.size := by simpa using hb
    have hle : s1.heap.objs.size ≤ b := by
      rcases e' with z | z
      · rw [z]; exact Nat.le_add_right _ _
      · rw [z]; exact Nat.le_refl _
    exact I1.fpOk hle (I1.hok.fresh hle)
/-- either reading of what is walked -/
theorem pi_or {X : Cx} {tg iter : Expr} {w1 w2 : TI} (h1 : PI X tg iter w1) (h2 : PI X tg iter w2) : PI X tg iter (fun σ H R => w1 σ H R ∨ w2 σ H R) :=
  ⟨fun pins s σ H R I q => q.elim (h1.run pins s σ H R I) (h2.run pins s σ H R I)⟩
theorem pg_or {X : Cx} {tg : Expr} {g1 g2 : TG} (h1 : PG X tg g1) (h2 : PG X tg g2) : PG X tg (fun v σ H Q => g1 v σ H Q ∨ g2 v σ H Q) :=
  ⟨fun pins s σ H x v Q I r q => q.elim (h1.run pins s σ H x v Q I r) (h2.run pins s σ H x v Q I r)⟩
end OR

namespace OR
abbrev Row := Int × Int
def mem (l : List Row) (x : Int) : Prop := ∃ r ∈ l, r.1 ≤ x ∧ x ≤ r.2
theorem mem_nil (x : Int) : ¬ mem [] x := fun ⟨_, h, _⟩ => nomatch h
theorem mem_cons {r : Row} {l : List Row} {x : Int} : mem (r :: l) x ↔ (r.1 ≤ x ∧ x ≤ r.2) ∨ mem l x := by
  constructor
  · rintro ⟨q, hq, h⟩
    rcases List.mem_cons.mp hq with e | e
    · subst e
      exact .inl h
    · exact .inr ⟨q, e, h⟩
  · rintro (h | ⟨q, hq, h⟩)
    · exact ⟨r, List.mem_cons_self, h⟩
    · exact ⟨q, List.mem_cons_of_mem _ hq, h⟩
theorem mem_append {l m : List Row} {x : Int} : mem (l ++ m) x ↔ mem l x ∨ mem m x := by
  constructor
  · rintro ⟨q, hq, h⟩
    rcases List.mem_append.mp hq with e | e
    · exact .inl ⟨q, e, h⟩
    · exact .inr ⟨q, e, h⟩
  · rintro (⟨q, hq, h⟩ | ⟨q, hq, h⟩)
    · exact ⟨q, List.mem_append_left _ hq, h⟩
    · exact ⟨q, List.mem_append_right _ hq, h⟩
theorem mem_same {l m : List Row} (h : ∀ r, r ∈ l ↔ r ∈ m) (x : Int) : mem l x ↔ mem m x :=
  ⟨fun ⟨q, hq, k⟩ => ⟨q, (h q).mp hq, k⟩, fun ⟨q, hq, k⟩ => ⟨q, (h q).mpr hq, k⟩⟩
theorem mem_reverse {l : List Row} {x : Int} : mem l.reverse x ↔ mem l x := mem_same (fun _ => List.mem_reverse) x
/-- the one form: in order, with a gap between any two -/
structure Nf (l : List Row) : Prop where
  ok : ∀ r ∈ l, r.1 ≤ r.2
  gap : l.Pairwise fun r s => r.2 + 1 < s.1
theorem Nf.nil : Nf [] := ⟨fun _ h => (nomatch h), .nil⟩
theorem Nf.tail {r : Row} {l : List Row} (h : Nf (r :: l)) : Nf l := ⟨fun q hq => h.ok q (List.mem_cons_of_mem _ hq), (List.pairwise_cons.mp h.gap).2⟩
theorem Nf.head {r : Row} {l : List Row} (h : Nf (r :: l)) : r.1 ≤ r.2 := h.ok r List.mem_cons_self
theorem Nf.behind {r : Row} {l : List Row} (h : Nf (r :: l)) {x : Int} (m : mem l x) : r.2 + 1 < x := by
  obtain ⟨q, hq, h1, _⟩ := m
  have := (List.pairwise_cons.mp h.gap).1 q hq
  omega
/-- the one form is told by its places -/
theorem Nf.unique : ∀ {l m : List Row}, Nf l → Nf m → (∀ x, mem l x ↔ mem m x) → l = m
  | [], [], _, _, _ => rfl
  | [], s :: m, _, hm, h => absurd ((h s.1).mpr (mem_cons.mpr (.inl ⟨Int.le_refl _, hm.head⟩))) (mem_nil _)
  | r :: l, [], hl, _, h => absurd ((h r.1).mp (mem_cons.mpr (.inl ⟨Int.le_refl _, hl.head⟩))) (mem_nil _)
  | r :: l, s :: m, hl, hm, h => by
    have lr := hl.head
    have ls := hm.head
    have least : ∀ {x}, mem (r :: l) x → r.1 ≤ x := fun {x} hx => by
      rcases mem_cons.mp hx with k | k
      · exact k.1
      · have := hl.behind k; omega
    have least' : ∀ {x}, mem (s :: m) x → s.1 ≤ x := fun {x} hx => by
      rcases mem_cons.mp hx with k | k
      · exact k.1
      · have := hm.behind k; omega
    have e1 : r.1 = s.1 := by
      have a := least ((h s.1).mpr (mem_cons.mpr (.inl ⟨Int.le_refl _, ls⟩)))
      have b := least' ((h r.1).mp (mem_cons.mpr (.inl ⟨Int.le_refl _, lr⟩)))
      omega
    have nr : ¬ mem (r :: l) (r.2 + 1) := fun k => by
      rcases mem_cons.mp k with k | k
      · omega
      · have := hl.behind k; omega
    have ns : ¬ mem (s :: m) (s.2 + 1) := fun k => by
      rcases mem_cons.mp k with k | k
      · omega
      · have := hm.behind k; omega
    have e2 : r.2 = s.2 := by
      rcases Int.lt_trichotomy r.2 s.2 with k | k | k
      · exact absurd ((h _).mpr (mem_cons.mpr (.inl ⟨by omega, by omega⟩))) nr
      · exact k
      · exact absurd ((h _).mp (mem_cons.mpr (.inl ⟨by omega, by omega⟩))) ns
    have e : r = s := Prod.ext e1 e2
    subst e
    congr 1
    refine Nf.unique hl.tail hm.tail fun x => ⟨fun k => ?_, fun k => ?_⟩
    · have b := hl.behind k
      rcases mem_cons.mp ((h x).mp (mem_cons.mpr (.inr k))) with z | z
      · omega
      · exact z
    · have b := hm.behind k
      rcases mem_cons.mp ((h x).mpr (mem_cons.mpr (.inr k))) with z | z
      · omega
      · exact z
/-- a row more behind rows in one form, which are written backwards -/
def jstep : List Row → Row → List Row
  | [], r => [r]
  | q :: t, r => if r.1 ≤ q.2 + 1 then (q.1, if r.2 > q.2 then r.2 else q.2) :: t else r :: q :: t
def jfold (l : List Row) : List Row := l.foldl jstep []
/-- what the fold keeps: acc stands backwards -/
structure Jn (acc : List Row) (done : List Row) (b : Int) : Prop where
  nf : Nf acc.reverse
  up : ∀ q ∈ acc, q.1 ≤ b
  me : ∀ x, mem acc x ↔ mem done x
theorem nf_snoc {l : List Row} {r : Row} (h : Nf l) (hr : r.1 ≤ r.2) (hg : ∀ q ∈ l, q.2 + 1 < r.1) : Nf (l ++ [r]) := by
  refine ⟨fun q hq => ?_, List.pairwise_append.mpr ⟨h.gap, List.pairwise_singleton _ _, fun a ha b hb => ?_⟩⟩
  · rcases List.mem_append.mp hq with k | k
    · exact h.ok q k
    · rw [List.mem_singleton.mp k]; exact hr
  · rw [List.mem_singleton.mp hb]; exact hg a ha
theorem nf_unsnoc {l : List Row} {r : Row} (h : Nf (l ++ [r])) : Nf l ∧ r.1 ≤ r.2 ∧ ∀ q ∈ l, q.2 + 1 < r.1 := by
  have g := List.pairwise_append.mp h.gap
  exact ⟨⟨fun q hq => h.ok q (List.mem_append_left _ hq), g.1⟩, h.ok r (List.mem_append_right _ (List.mem_singleton.mpr rfl)), fun q hq => g.2.2 q hq r (List.mem_singleton.mpr rfl)⟩
theorem Jn.step {acc done : List Row} {b : Int} {r : Row} (h : Jn acc done b) (hb : b ≤ r.1) (hr : r.1 ≤ r.2) : Jn (jstep acc r) (done ++ [r]) r.1 := by
  have tailm : ∀ x, mem [r] x ↔ (r.1 ≤ x ∧ x ≤ r.2) := fun x => by
    rw [mem_cons]
    exact ⟨fun k => k.elim id fun z => absurd z (mem_nil _), .inl⟩
  cases acc with
  | nil =>
    refine ⟨nf_snoc Nf.nil hr (fun _ z => nomatch z), fun q hq => ?_, fun x => ?_⟩
    · rw [List.mem_singleton.mp hq]; exact Int.le_refl _
    · rw [mem_append, ← h.me x]
      exact ⟨.inr, fun k => k.elim (fun z => absurd z (mem_nil _)) id⟩
  | cons q t =>
    have n := h.nf
    rw [List.reverse_cons] at n
    obtain ⟨nt, hq, gq⟩ := nf_unsnoc n
    have hqr : q.1 ≤ r.1 := Int.le_trans (h.up q List.mem_cons_self) hb
    show Jn (if r.1 ≤ q.2 + 1 then (q.1, if r.2 > q.2 then r.2 else q.2) :: t else r :: q :: t) (done ++ [r]) r.1
    by_cases c : r.1 ≤ q.2 + 1
    · rw [if_pos c]
      refine ⟨?_, fun z hz => ?_, fun x => ?_⟩
      · rw [List.reverse_cons]
        refine nf_snoc nt ?_ fun z hz => gq z hz
        show q.1 ≤ (if r.2 > q.2 then r.2 else q.2)
        split <;> omega
      · rcases List.mem_cons.mp hz with e | e
        · subst e; exact hqr
        · exact Int.le_trans (h.up z (List.mem_cons_of_mem _ e)) hb
      · rw [mem_append, ← h.me x, mem_cons, mem_cons, tailm]
        show ((q.1 ≤ x ∧ x ≤ (if r.2 > q.2 then r.2 else q.2)) ∨ mem t x) ↔ _
        constructor
        · rintro (⟨k1, k2⟩ | k)
          · by_cases hx : x ≤ q.2
            · exact .inl (.inl ⟨k1, hx⟩)
            · split at k2
              · exact .inr ⟨by omega, k2⟩
              · omega
          · exact .inl (.inr k)
        · rintro ((⟨k1, k2⟩ | k) | ⟨k1, k2⟩)
          · refine .inl ⟨k1, ?_⟩
            split <;> omega
          · exact .inr k
          · refine .inl ⟨by omega, ?_⟩
            split <;> omega
    · rw [if_neg c]
      refine ⟨?_, fun z hz => ?_, fun x => ?_⟩
      · rw [List.reverse_cons, List.reverse_cons]
        refine nf_snoc n hr fun z hz => ?_
        rcases List.mem_append.mp hz with k | k
        · have := gq z k; omega
        · rw [List.mem_singleton.mp k]; omega
      · rcases List.mem_cons.mp hz with e | e
        · subst e; exact Int.le_refl _
        · exact Int.le_trans (h.up z e) hb
      · rw [mem_append, ← h.me x, mem_cons, tailm]
        exact ⟨fun k => k.elim .inr .inl, fun k => k.elim .inr .inl⟩
theorem Jn.nil (b : Int) : Jn [] [] b := ⟨Nf.nil, fun _ h => (nomatch h), fun _ => Iff.rfl⟩
/-- the fold over rows that ascend -/
theorem jfold_go : ∀ (l acc done : List Row) (b : Int), Jn acc done b → (∀ r ∈ l, r.1 ≤ r.2) → (∀ r ∈ l, b ≤ r.1) → l.Pairwise (fun r s => r.1 ≤ s.1) → ∃ b', Jn (l.foldl jstep acc) (done ++ l) b'
  | [], acc, done, b, h, _, _, _ => ⟨b, by rw [List.append_nil]; exact h⟩
  | r :: l, acc, done, b, h, ho, hb, hs => by
    have p := List.pairwise_cons.mp hs
    obtain ⟨b', h'⟩ := jfold_go l (jstep acc r) (done ++ [r]) r.1 (h.step (hb r List.mem_cons_self) (ho r List.mem_cons_self)) (fun q hq => ho q (List.mem_cons_of_mem _ hq)) (fun q hq => p.1 q hq) p.2
    exact ⟨b', by rw [List.append_assoc] at h'; exact h'⟩
theorem jfold_ok {l : List Row} (ho : ∀ r ∈ l, r.1 ≤ r.2) (hs : l.Pairwise (fun r s => r.1 ≤ s.1)) : Nf (jfold l).reverse ∧ ∀ x, mem (jfold l).reverse x ↔ mem l x := by
  cases l with
  | nil => exact ⟨Nf.nil, fun _ => Iff.rfl⟩
  | cons r l =>
    have p := List.pairwise_cons.mp hs
    obtain ⟨b', h⟩ := jfold_go (r :: l) [] [] r.1 (Jn.nil _) ho (fun q hq => by
      rcases List.mem_cons.mp hq with e | e
      · subst e; exact Int.le_refl _
      · exact p.1 q e) hs
    exact ⟨h.nf, fun x => by rw [mem_reverse]; exact h.me x⟩
end OR

namespace OR
open PySem PySem.Spec PyProof.Rows L2
/-! ### the code of Places -/
def lastP : Int := 10 ^ 30
def placeB (n : Int) : Bool := decide (0 ≤ n) && decide (n ≤ lastP)
def okRow (r : Row) : Bool := placeB r.1 && (placeB r.2 && decide (r.1 ≤ r.2))
structure PTxt (K : PySem.W.Frag) (mg : Str → Option Value) (C : Addr) : Prop where
  cl : Cls K C
  nS : NoAttr K C "stretches"
  nF : NoAttr K C "_firsts"
  nB : NoAttr K C "_before"
  mgC : mg "Places" = some (.ref C)
  isi : SlX.SIsi K C
  kPP : PySem.W.kitOne K (.ref C) (.ref C) = some true
  zIsi : mg "isinstance" = none
  zInt : mg "int" = none
  zBool : mg "bool" = none
  zTup : mg "tuple" = none
  zList : mg "list" = none
  zLen : mg "len" = none
  zMax : mg "max" = none
  zSort : mg "sorted" = none
  zEnum : mg "enumerate" = none
  last : ∃ t, mg "LAST_PLACE" = some (.int lastP t)
theorem bt_isi : bootBuiltins ("isinstance" : Str) = some (.builtin "isinstance") := by decide +kernel
theorem bt_int : bootBuiltins ("int" : Str) = some (.type "int") := by decide +kernel
theorem bt_bool : bootBuiltins ("bool" : Str) = some (.type "bool") := by decide +kernel
theorem bt_tup : bootBuiltins ("tuple" : Str) = some (.type "tuple") := by decide +kernel
theorem bt_list : bootBuiltins ("list" : Str) = some (.type "list") := by decide +kernel
theorem bt_max : bootBuiltins ("max" : Str) = some (.builtin "max") := by decide +kernel
theorem bt_min : bootBuiltins ("min" : Str) = some (.builtin "min") := by decide +kernel
theorem bt_sorted : bootBuiltins ("sorted" : Str) = some (.builtin "sorted") := by decide +kernel
/-- any value whose type is known -/
def spIsIntG (K : PySem.W.Frag) : Sp := fun vs H Q _ => ∃ (x : V) (T : String) (b1 b2 : Bool), vs = [x] ∧ TyX K H x (.type T) ∧ kitB T "int" = some b1 ∧ kitB T "bool" = some b2 ∧ Q (.bl (b1 && !b2)) H
def spIsPlace (K : PySem.W.Frag) : Sp := fun vs H Q _ => ∃ x, vs = [x] ∧ ((∃ n, x = .int n ∧ Q (.bl (placeB n)) H) ∨ ∃ (T : String) (b1 b2 : Bool), TyX K H x (.type T) ∧ kitB T "int" = some b1 ∧ kitB T "bool" = some b2 ∧ (b1 && !b2) = false ∧ Q (.bl false) H)
/-- a pair of integers, a tuple or a list -/
def PairAt (H : Hp) (a : Addr) (r : Row) : Prop := H a = some (.tup [.int r.1, .int r.2]) ∨ H a = some (.lst [.int r.1, .int r.2])
def spIsStretchP : Sp := fun vs H Q _ => ∃ a r, vs = [.ref a] ∧ PairAt H a r ∧ ∀ H', Same H H' → Q (.bl (okRow r)) H'
section
variable {P : Program} {w : World} {K : PySem.W.Frag} {mg : Str → Option Value} {base : Heap}
theorem scIsI : FnScope ["value"] ["value"] (defScope sIsInt) := ⟨rfl, rfl, rfl, by decide +kernel, rfl, by decide +kernel, by decide +kernel⟩
theorem ok_isintG {f C : Addr} {fd : FuncData} (F : Fun K "is_integer" "is_integer" sIsInt f fd) (T : PTxt K mg C) : FnOk P w K mg base CX0 1 f fd ["value"] (spIsIntG K) := by
  refine F.ok scIsI (fun vs H Q E h => ?_) (fun cdv A outer s H vs Q E hr h => ?_)
  · obtain ⟨x, _, _, _, rfl, _⟩ := h
    rfl
  · obtain ⟨x, ty, b1, b2, rfl, hT, h1, h2, q⟩ := h
    refine ⟨_, pss_one (ps_ret (pe_and (pe_callB call_isi (by rfl) T.zIsi bt_isi (pa_cons (pv 0) (pa_cons (pe_bltn (v := .ty "int") (by rfl) T.zInt bt_int rfl) pa_nil)))
      (pe_one (pe_not (pe_callB call_isi (by rfl) T.zIsi bt_isi (pa_cons (pv 0) (pa_cons (pe_bltn (v := .ty "bool") (by rfl) T.zBool bt_bool rfl) pa_nil))))))), ?_⟩
    refine ⟨_, rfl, x, .ty "int", _, _, b1, rfl, .ty "int", hT, kit_ty h1, b1, rfl, ?_⟩
    cases b1 with
    | true => exact iteT ⟨_, rfl, x, .ty "bool", _, _, b2, rfl, .ty "bool", hT, kit_ty h2, b2, rfl, q⟩
    | false => exact iteF q
theorem scIsP : FnScope ["value"] ["value"] (defScope sIsPlace) := ⟨rfl, rfl, rfl, by decide +kernel, rfl, by decide +kernel, by decide +kernel⟩
theorem ok_isplace {f C : Addr} {fd : FuncData} (F : Fun K "is_place" "is_place" sIsPlace f fd) (T : PTxt K mg C) (I : Cl P w K mg base 1 "is_integer" ["value"] (spIsIntG K)) : FnOk P w K mg base CX0 2 f fd ["value"] (spIsPlace K) := by
  refine F.ok scIsP (fun vs H Q E h => ?_) (fun cdv A outer s H vs Q E hr h => ?_)
  · obtain ⟨x, rfl, _⟩ := h
    rfl
  · obtain ⟨x, rfl, h⟩ := h
    obtain ⟨tl, hl⟩ := T.last
    refine ⟨_, pss_one (ps_ret (pe_and (pe_cl I hr (by decide) (by rfl) (pa_cons (pv 0) pa_nil)) (pe_one (pe_chain op_le op_le pe_int (pv 0) (pe_glob (v := .int lastP) (by rfl) hl ⟨tl, rfl⟩))))), ?_⟩
    rcases h with ⟨n, rfl, q⟩ | ⟨ty, b1, b2, hT, h1, h2, hb, q⟩
    · refine ⟨_, rfl, .int n, "int", true, false, rfl, .base (.int n), by decide +kernel, by decide +kernel, true, rfl, iteT ?_⟩
      refine ⟨_, rfl, _, _, rfl, rfl, _, rfl, ?_⟩
      unfold placeB at q
      cases e : decide ((0 : Int) ≤ n) with
      | true =>
        rw [e] at q
        exact iteT ⟨_, _, rfl, rfl, q⟩
      | false =>
        rw [e] at q
        exact iteF q
    · exact ⟨_, rfl, x, ty, b1, b2, rfl, hT, h1, h2, _, rfl, by rw [hb]; exact iteF q⟩
theorem scIsS : FnScope ["value", "first", "last"] ["value"] (defScope sIsStretch) := ⟨rfl, rfl, rfl, by decide +kernel, rfl, by decide +kernel, by decide +kernel⟩
theorem ok_isstretch {f C : Addr} {fd : FuncData} (F : Fun K "_is_stretch" "_is_stretch" sIsStretch f fd) (T : PTxt K mg C) (I : Cl P w K mg base 2 "is_place" ["value"] (spIsPlace K)) : FnOk P w K mg base CX0 3 f fd ["value"] spIsStretchP := by
  refine F.ok scIsS (fun vs H Q E h => ?_) (fun cdv A outer s H vs Q E hr h => ?_)
  · obtain ⟨a, r, rfl, _⟩ := h
    rfl
  · obtain ⟨a, r, rfl, hp, q⟩ := h
    have nd := scIsS.nd
    refine ⟨_, pss_cons (ps_if (PW.pt (pw_or (pt_not (pt_val (pe_callB call_isiT (by rfl) T.zIsi bt_isi (pa_cons (pv 0) (pa_cons (pe_tup (pa_cons (pe_bltn (v := .ty "tuple") (by rfl) T.zTup bt_tup rfl) (pa_cons (pe_bltn (v := .ty "list") (by rfl) T.zList bt_list rfl) pa_nil))) pa_nil)))))
        (pw_or1 (pt_cmpR op_ne (pe_callB call_len_seq (by rfl) T.zLen PySem.boot_len (pa_cons (pv 0) pa_nil)) pe_int (nomark _))))) (pss_one (ps_ret pe_bl)) pss_nil)
      (pss_cons (ps_asg (pv 0) (pg_or (pg_tup rfl (pgs_cons (pg_name (i := 1) nd rfl (.inl rfl)) (pgs_cons (pg_name (i := 2) nd rfl (.inl rfl)) pgs_nil))) (pg_unl rfl (pgs_cons (pg_name (i := 1) nd rfl (.inl rfl)) (pgs_cons (pg_name (i := 2) nd rfl (.inl rfl)) pgs_nil)))))
      (pss_one (ps_ret (pe_and (pe_cl I hr (by decide) (by rfl) (pa_cons (pv 1) pa_nil)) (pe_and (pe_cl I hr (by decide) (by rfl) (pa_cons (pv 2) pa_nil)) (pe_one (pe_cmpR op_le (pv 1) (pv 2) (nomark _)))))))), ?_⟩
    refine ⟨_, rfl, by show 2 ≤ sizeLine; decide, fun t ht => ?_⟩
    have S1 : Same H (upd H t (.tup [.ty "tuple", .ty "list"])) := fun b o e => by rw [upd_ne (ne_of_none e ht)]; exact e
    have hp1 : PairAt (upd H t (.tup [.ty "tuple", .ty "list"])) a r := hp.elim (fun e => .inl (S1 _ _ e)) fun e => .inr (S1 _ _ e)
    have hseq : SqL K (upd H t (.tup [.ty "tuple", .ty "list"])) a [.int r.1, .int r.2] ∨ SqT K (upd H t (.tup [.ty "tuple", .ty "list"])) a [.int r.1, .int r.2] := hp1.elim (fun e => .inr (.inl (.inl e))) fun e => .inl (.inl (.inl e))
    have hty : ∃ T, TyX K (upd H t (.tup [.ty "tuple", .ty "list"])) (.ref a) (.type T) ∧ PySem.W.kitAny K (.type T) [.type "tuple", .type "list"] = some true := by
      rcases hp1 with e | e
      · exact ⟨"tuple", .base (.tup e), kitAny_cons (kit_ty (b := "tuple") (r := true) (by decide +kernel)) (fun z => nomatch z) fun _ => rfl⟩
      · exact ⟨"list", .base (.lst e), kitAny_cons (kit_ty (b := "tuple") (r := false) (by decide +kernel)) (fun _ => kitAny_cons (kit_ty (b := "list") (r := true) (by decide +kernel)) (fun z => nomatch z) fun _ => rfl) fun z => nomatch z⟩
    obtain ⟨ty, hT, hk⟩ := hty
    refine ⟨.ref a, t, _, .type ty, [.type "tuple", .type "list"], true, rfl, upd_same, .cons (.ty "tuple") (.cons (.ty "list") .nil), hT, hk, true, rfl, iteF ?_⟩
    refine ⟨_, rfl, a, _, rfl, hseq, rfl, _, rfl, iteNS rfl ?_⟩
    have fin : ∀ (Q' : Prop), (Q (.bl (okRow r)) (upd H t (.tup [.ty "tuple", .ty "list"])) → Q') → Q' := fun Q' k => k (q _ S1)
    have tail : ∀ σ : L2.St, σ = [some (.ref a), some (.int r.1), some (.int r.2)] → (tRet (tAndV (tCall (spIsPlace K) [] E0 (tCons (tVar 1) tNil)) (tAndV (tCall (spIsPlace K) [] E0 (tCons (tVar 2) tNil)) (tOp (rI0 fun i j => .bl (decide (i ≤ j))) (tVar 1) (tVar 2))))) { nx := fun _ H' => Q .non H', rt := Q } σ (upd H t (.tup [.ty "tuple", .ty "list"])) := by
      intro σ e
      subst e
      refine ⟨_, rfl, _, rfl, .inl ⟨r.1, rfl, _, rfl, ?_⟩⟩
      have q1 := q _ S1
      unfold okRow at q1
      cases e1 : placeB r.1 with
      | false => rw [e1] at q1; exact iteF q1
      | true =>
        rw [e1] at q1
        refine iteT ⟨_, rfl, _, rfl, .inl ⟨r.2, rfl, _, rfl, ?_⟩⟩
        cases e2 : placeB r.2 with
        | false => rw [e2] at q1; exact iteF q1
        | true =>
          rw [e2] at q1
          exact iteT ⟨_, rfl, _, rfl, _, _, rfl, rfl, q1⟩
    rcases hp1 with e | e
    · exact ⟨_, rfl, .inl ⟨a, _, rfl, .inl (.inl e), rfl, _, _, rfl, _, _, rfl, rfl, tail _ rfl⟩⟩
    · exact ⟨_, rfl, .inr ⟨a, _, rfl, .inl (.inl e), rfl, _, _, rfl, _, _, rfl, rfl, tail _ rfl⟩⟩
end
end OR

namespace OR
open PySem PySem.Spec PyProof.Rows L2
/-- all but what stands at p is as it was -/
def Fre (p : Addr) (H H' : Hp) : Prop := ∀ b o, H b = some o → b ≠ p → H' b = some o
theorem Fre.refl (p : Addr) (H : Hp) : Fre p H H := fun _ _ h _ => h
theorem Fre.trans {p : Addr} {H H1 H2 : Hp} (a : Fre p H H1) (b : Fre p H1 H2) : Fre p H H2 := fun c o h n => b c o (a c o h n) n
theorem Fre.put {p : Addr} {H : Hp} {o : HO} : Fre p H (upd H p o) := fun b x e n => by rw [upd_ne n]; exact e
/-! ### rows of pairs in the heap -/
abbrev ARow := Addr × Row
def refs (L : List ARow) : List V := L.map fun p => V.ref p.1
def rws (L : List ARow) : List Row := L.map (·.2)
def AtR (H : Hp) (L : List ARow) : Prop := ∀ p ∈ L, H p.1 = some (.tup [.int p.2.1, .int p.2.2])
def PairsAt (H : Hp) (L : List ARow) : Prop := ∀ p ∈ L, PairAt H p.1 p.2
theorem AtR.same {H H' : Hp} {L : List ARow} (h : AtR H L) (s : Same H H') : AtR H' L := fun p hp => s _ _ (h p hp)
theorem PairsAt.same {H H' : Hp} {L : List ARow} (h : PairsAt H L) (s : Same H H') : PairsAt H' L := fun p hp => (h p hp).elim (fun e => .inl (s _ _ e)) fun e => .inr (s _ _ e)
theorem AtR.pairs {H : Hp} {L : List ARow} (h : AtR H L) : PairsAt H L := fun p hp => .inl (h p hp)
theorem refs_len (L : List ARow) : (refs L).length = L.length := List.length_map ..
theorem rws_len (L : List ARow) : (rws L).length = L.length := List.length_map ..
theorem refs_snoc (L : List ARow) (p : ARow) : refs (L ++ [p]) = refs L ++ [.ref p.1] := by unfold refs; rw [List.map_append]; rfl
theorem rws_snoc (L : List ARow) (p : ARow) : rws (L ++ [p]) = rws L ++ [p.2] := by unfold rws; rw [List.map_append]; rfl
theorem refs_get {L : List ARow} {i : Nat} {v : V} (h : (refs L)[i]? = some v) : ∃ p, L[i]? = some p ∧ p ∈ L ∧ v = .ref p.1 := by
  unfold refs at h
  rw [List.getElem?_map] at h
  cases e : L[i]? with
  | none => rw [e] at h; cases h
  | some p => rw [e] at h; exact ⟨p, rfl, List.mem_of_getElem? e, (Option.some.inj h).symm⟩
theorem rws_get {L : List ARow} {i : Nat} {p : ARow} (h : L[i]? = some p) : (rws L)[i]? = some p.2 := by
  unfold rws
  rw [List.getElem?_map, h]
  rfl
theorem mem_rws {L : List ARow} {r : Row} : r ∈ rws L ↔ ∃ a, (a, r) ∈ L := by
  unfold rws
  rw [List.mem_map]
  exact ⟨fun ⟨p, hp, e⟩ => ⟨p.1, by rw [← e]; exact hp⟩, fun ⟨a, h⟩ => ⟨(a, r), h, rfl⟩⟩
/-- what a reference to a pair is worth -/
def kOf (H : Hp) : V → Int × Int
  | .ref a => match H a with
    | some (.tup [.int x, .int y]) => (x, y)
    | _ => (0, 0)
  | _ => (0, 0)
theorem kOf_at {H : Hp} {a : Addr} {x y : Int} (h : H a = some (.tup [.int x, .int y])) : kOf H (.ref a) = (x, y) := by
  show (match H a with
    | some (.tup [.int x, .int y]) => (x, y)
    | _ => (0, 0)) = (x, y)
  rw [h]
def adr : V → Addr
  | .ref a => a
  | _ => 0
/-- an arrangement of references is one of rows -/
theorem refs_perm {H : Hp} {M : List ARow} {ys : List V} (hM : AtR H M) (hp : ys.Perm (refs M)) : ∃ S : List ARow, ys = refs S ∧ AtR H S ∧ (∀ r, r ∈ rws S ↔ r ∈ rws M) ∧ S.length = M.length ∧ rws S = ys.map (kOf H) := by
  have each : ∀ y ∈ ys, ∃ p ∈ M, y = .ref p.1 ∧ kOf H y = p.2 := fun y hy => by
    have := hp.mem_iff.mp hy
    unfold refs at this
    obtain ⟨p, hpM, e⟩ := List.mem_map.mp this
    subst e
    exact ⟨p, hpM, rfl, kOf_at (hM p hpM)⟩
  have back : ∀ p ∈ M, V.ref p.1 ∈ ys := fun p hpM => hp.mem_iff.mpr (List.mem_map.mpr ⟨p, hpM, rfl⟩)
  refine ⟨ys.map fun y => (adr y, kOf H y), ?_, ?_, fun r => ?_, ?_, ?_⟩
  · unfold refs
    rw [List.map_map]
    refine Eq.trans (List.map_id ys).symm (List.map_congr_left fun y hy => ?_)
    obtain ⟨p, _, rfl, _⟩ := each y hy
    rfl
  · intro q hq
    obtain ⟨y, hy, e⟩ := List.mem_map.mp hq
    obtain ⟨p, hpM, rfl, k⟩ := each y hy
    subst e
    show H p.1 = some (.tup [.int (kOf H (.ref p.1)).1, .int (kOf H (.ref p.1)).2])
    rw [k]
    exact hM p hpM
  · unfold rws
    rw [List.map_map, List.mem_map, List.mem_map]
    constructor
    · rintro ⟨y, hy, e⟩
      obtain ⟨p, hpM, rfl, k⟩ := each y hy
      exact ⟨p, hpM, by rw [← e]; exact k.symm⟩
    · rintro ⟨p, hpM, e⟩
      exact ⟨.ref p.1, back p hpM, by rw [← e]; exact kOf_at (hM p hpM)⟩
  · rw [List.length_map, hp.length_eq, refs_len]
  · unfold rws
    rw [List.map_map]
    rfl
theorem jstep_len : ∀ (acc : List Row) (r : Row), (jstep acc r).length ≤ acc.length + 1
  | [], r => Nat.le_refl _
  | q :: t, r => by
    show (if r.1 ≤ q.2 + 1 then (q.1, if r.2 > q.2 then r.2 else q.2) :: t else r :: q :: t).length ≤ _
    split
    · exact Nat.le_succ _
    · exact Nat.le_refl _
theorem jfold_len : ∀ (l acc : List Row), (l.foldl jstep acc).length ≤ acc.length + l.length
  | [], acc => Nat.le_refl _
  | r :: l, acc => by
    have h1 := jfold_len l (jstep acc r)
    have h2 := jstep_len acc r
    show (l.foldl jstep (jstep acc r)).length ≤ _
    rw [List.length_cons]
    omega
theorem ixN_last (n : Nat) : ixN (n + 1) (-1) = some n := by
  unfold ixN
  rw [if_neg (by omega), if_pos (by omega)]
  congr 1
  omega
theorem set_last (xs : List V) (v u : V) : (xs ++ [v]).set xs.length u = xs ++ [u] := by
  rw [List.set_append_right _ _ (Nat.le_refl _), Nat.sub_self]
  rfl
def rTupOf (K : PySem.W.Frag) : List V → Hp → VK → Prop := fun xs H Q => ∃ p ys, xs = [.ref p] ∧ ((SqL K H p ys ∧ ∀ l, H l = none → Q (.ref l) (upd H l (.tup ys))) ∨ (SqT K H p ys ∧ Q (.ref p) H))
theorem call_tupOf {X : Cx} (K : PySem.W.Frag) (h : X.K = K) : CallR X (.type "tuple") (rTupOf K) := by
  subst h
  exact call_tuple_of
theorem yesT {σ : L2.St} {H : Hp} {A B : Hp → Prop} (h : A H) : tYes σ H (fun b H3 => if b = true then A H3 else B H3) := by
  show if true = true then A H else B H
  rw [if_pos rfl]
  exact h
theorem same_upd {H H' : Hp} {b : Addr} {u : HO} (s : Same H H') (h : H b = none) : Same H (upd H' b u) := fun c v e => by rw [upd_ne (ne_of_none e h)]; exact s c v e
theorem same_lay {H : Hp} {q : Addr} {o : HO} (h : H q = none) : Same H (upd H q o) := fun b x e => by rw [upd_ne (ne_of_none e h)]; exact e
theorem sameT {K : PySem.W.Frag} {H H' : Hp} {a : Addr} {xs : List V} (e : Same H H') (h : SqT K H a xs) : SqT K H' a xs := by
  rcases h with (h | ⟨o, h⟩) | h
  · exact .inl (.inl (e _ _ h))
  · exact .inl (.inr ⟨o, e _ _ h⟩)
  · exact .inr h
def spJoined (K : PySem.W.Frag) : Sp := fun vs H Q _ => ∃ (a : Addr) (L : List ARow), vs = [.ref a] ∧ (SqL K H a (refs L) ∨ SqT K H a (refs L)) ∧ L.length ≤ 1000 ∧ PairsAt H L ∧ (∀ r ∈ rws L, r.1 ≤ r.2) ∧
  ∀ (t : Addr) (M : List ARow) (H' : Hp), Same H H' → H t = none → H' t = some (.tup (refs M)) → AtR H' M → Nf (rws M) → (∀ x, mem (rws M) x ↔ mem (rws L) x) → M.length ≤ L.length → Q (.ref t) H'
section
variable {P : Program} {w : World} {K : PySem.W.Frag} {mg : Str → Option Value} {base : Heap}
theorem scJ : FnScope ["stretches", "rows", "first", "last", "stretch"] ["stretches"] (defScope sJoined) := ⟨rfl, rfl, rfl, by decide +kernel, rfl, by decide +kernel, by decide +kernel⟩
theorem small_l {n : Nat} (h : n ≤ 1000) : n ≤ sizeLine := Nat.le_of_lt (small1000 h)
theorem ok_joined {f C : Addr} {fd : FuncData} (F : Fun K "_joined" "_joined" sJoined f fd) (T : PTxt K mg C) : FnOk P w K mg base CX0 1 f fd ["stretches"] (spJoined K) := by
  refine F.ok scJ (fun vs H Q E h => ?_) (fun cdv A outer s H vs Q E hr h => ?_)
  · obtain ⟨a, L, rfl, _⟩ := h
    rfl
  · obtain ⟨a, L, rfl, hS, hlen, hP, hok, q⟩ := h
    have nd := scJ.nd
    refine ⟨_, pss_cons (ps_set (i := 1) nd rfl (.inl rfl) (pe_lst pa_nil))
      (pss_cons (ps_for PassesOwn.never rfl (pi_list (pe_callB cr_sortedPO (by rfl) T.zSort bt_sorted (pa_cons
            (pe_lc (own := [("stretch", 4)]) (g := gName 4) (tt := tYes) rfl nd (pi_or (pi_list (pv 0)) (pi_tup (pv 0))) (blkOk_by (N := ["stretches", "rows", "first", "last", "stretch"]) (sc := defScope sJoined) (by decide +kernel))
              (fun _ _ _ _ _ => pg_name (i := 4) nd rfl (.inl rfl)) (fun _ _ _ _ _ => pts_nil) (fun _ _ _ _ _ => pe_callTy (call_tupOf K rfl) (by rfl) T.zTup bt_tup (pa_cons (pv 4) pa_nil))) pa_nil)))
          (pg_tup rfl (pgs_cons (pg_name (i := 2) nd rfl (.inl rfl)) (pgs_cons (pg_name (i := 3) nd rfl (.inl rfl)) pgs_nil)))
        (pss_one (ps_if (PW.pt (pw_and (pt_truth (pv 1) (by intro _; rfl)) (pw_and1 (pt_cmpR op_le (pv 2) (pe_op op_add (pe_ix ix_tup (pe_ix ix_list (pv 1) (pe_un un_neg pe_int) (fun _ _ => rfl)) pe_int (fun _ _ => rfl)) pe_int) (nomark _)))))
          (pss_one (ps_asg (pe_tup (pa_cons (pe_ix ix_tup (pe_ix ix_list (pv 1) (pe_un un_neg pe_int) (fun _ _ => rfl)) pe_int (fun _ _ => rfl))
              (pa_cons (pe_callB (call_max2 rfl) (by rfl) T.zMax bt_max (pa_cons (pe_ix ix_tup (pe_ix ix_list (pv 1) (pe_un un_neg pe_int) (fun _ _ => rfl)) pe_int (fun _ _ => rfl)) (pa_cons (pv 3) pa_nil))) pa_nil)))
            (pg_sub (pv 1) (pe_un un_neg pe_int) set_list)))
          (pss_one (ps_expr (pe_bm PySem.F.plainAttrs_list PySem.F.slot_list_append PySem.F.type_list_append mt_append (pv 1) (pa_cons (pe_tup (pa_cons (pv 2) (pa_cons (pv 3) pa_nil))) pa_nil)))))))
      (pss_one (ps_ret (pe_callTy call_tuple_of (by rfl) T.zTup bt_tup (pa_cons (pv 1) pa_nil))))), ?_⟩
    refine ⟨Nat.zero_le _, fun o no => ?_⟩
    have S1 : Same H (upd H o (.lst [])) := fun b u e => by rw [upd_ne (ne_of_none e no)]; exact e
    rcases hS with hS | hS
    · refine .inl ⟨_, rfl, a, rfl, ⟨_, S1.seq hS⟩, fun D hD => lc_list (K := K) (a := a) (xs := refs L) (fun i H2 => ∃ M : List ARow, H2 D = some (.lst (refs M)) ∧ AtR H2 M ∧ rws M = (rws L).take i ∧ Same (upd H o (.lst [])) H2)
        ⟨[], upd_same, (fun _ z => nomatch z), rfl, same_lay hD⟩ (fun i H2 _ ⟨_, _, _, _, s⟩ => s.seq (S1.seq hS)) ?_ ?_⟩
      · intro i x H2 hx hI
        obtain ⟨M, hD2, hM, eM, s2⟩ := hI
        obtain ⟨p, hp, hpL, rfl⟩ := refs_get hx
        have hil : i < L.length := (List.getElem?_eq_some_iff.mp hp).1
        have hlM : M.length = i := by
          rw [← rws_len M, eM, List.length_take, rws_len]
          omega
        have e1 : (rws L).take (i + 1) = (rws L).take i ++ [p.2] := by rw [List.take_add_one, rws_get hp]; rfl
        have nDp : ∀ q ∈ M, q.1 ≠ D := fun q hq => ne_of (hM q hq) hD2 (by intro z; cases z)
        refine ⟨rfl, yesT ?_⟩
        refine ⟨_, rfl, p.1, [.int p.2.1, .int p.2.2], rfl, ?_⟩
        rcases hP p hpL with e | e
        · have e3 := s2 _ _ (S1 _ _ e)
          refine .inr ⟨.inl (.inl e3), refs M, hD2, small1000 (by rw [refs_len, hlM]; omega), M ++ [p], ?_, ?_, ?_, same_upd s2 hD⟩
          · rw [upd_same, refs_snoc]
          · intro q hq
            rcases List.mem_append.mp hq with k | k
            · rw [upd_ne (nDp q k)]; exact hM q k
            · rw [List.mem_singleton.mp k, upd_ne (ne_of e3 hD2 (by intro z; cases z))]; exact e3
          · rw [rws_snoc, eM, e1]
        · have e3 := s2 _ _ (S1 _ _ e)
          refine .inl ⟨.inl (.inl e3), fun l hl => ?_⟩
          have nDl : D ≠ l := ne_of_none hD2 hl
          have s3 := same_lay (o := .tup [.int p.2.1, .int p.2.2]) hl
          refine ⟨refs M, s3 _ _ hD2, small1000 (by rw [refs_len, hlM]; omega), M ++ [(l, p.2)], ?_, ?_, ?_, same_upd (s2.trans s3) hD⟩
          · rw [upd_same, refs_snoc]
          · intro q hq
            rcases List.mem_append.mp hq with k | k
            · rw [upd_ne (nDp q k)]; exact s3 _ _ (hM q k)
            · rw [List.mem_singleton.mp k, upd_ne nDl.symm, upd_same]
          · rw [rws_snoc, eM, e1]
      · intro H2 hI
        obtain ⟨M, hD2, hM, eM, s2⟩ := hI
        rw [refs_len, List.take_of_length_le (by rw [rws_len]; exact Nat.le_refl _)] at eM
        have no2 : H2 o = some (.lst []) := s2 _ _ upd_same
        have lM : M.length = L.length := by rw [← rws_len M, eM, rws_len]
        -- sorted
        refine ⟨D, refs M, kOf H2, rfl, .inl (.inl hD2), fun y hy => ?_, fun ys p hs hb np => ?_⟩
        · unfold refs at hy
          obtain ⟨z, hz, rfl⟩ := List.mem_map.mp hy
          exact ⟨z.1, rfl, by rw [kOf_at (hM z hz)]; exact hM z hz⟩
        obtain ⟨S, rfl, hSA, hSm, hSl, hSk⟩ := refs_perm hM hb.perm
        have hso : (rws S).Pairwise fun r s => r.1 ≤ s.1 := by
          rw [hSk]
          refine List.pairwise_map.mpr (hs.imp fun {x y} hxy => ?_)
          have := SrtO.lexB_no.mp hxy
          omega
        have hSok : ∀ r ∈ rws S, r.1 ≤ r.2 := fun r hr => hok r (by rw [← eM]; exact (hSm r).mp hr)
        obtain ⟨hnf, hme⟩ := jfold_ok hSok hso
        have s3 := same_lay (o := .lst (refs S)) np
        have nop : o ≠ p := ne_of_none no2 np
        refine ⟨p, rfl, ⟨_, .inl (.inl upd_same)⟩, for_list (K := K) (a := p) (xs := refs S) (fun i σ H' => ∃ f l, ∃ A : List ARow, σ = [some (.ref a), some (.ref o), f, l, none] ∧ H' o = some (.lst (refs A)) ∧ AtR H' A ∧ rws A = (((rws S).take i).foldl jstep []).reverse ∧ Fre o (upd H2 p (.lst (refs S))) H' ∧ A.length ≤ i)
          ⟨none, none, [], rfl, by rw [upd_ne nop]; exact no2, (fun _ z => nomatch z), rfl, Fre.refl _ _, Nat.le_refl _⟩ (fun i σ H' _ ⟨_, _, _, _, _, _, _, fr, _⟩ => .inl (.inl (fr _ _ upd_same nop.symm))) ?_ ?_⟩
        · rintro i y σ H' hy ⟨f, l, A, rfl, hoA, hA, eA, fr, hAl⟩
          obtain ⟨z, hz, hzS, rfl⟩ := refs_get hy
          have hil : i < S.length := (List.getElem?_eq_some_iff.mp hz).1
          have ez : H' z.1 = some (.tup [.int z.2.1, .int z.2.2]) := fr _ _ (s3 _ _ (hSA z hzS)) (ne_of (hSA z hzS) no2 (by intro q; cases q))
          have e1 : ((rws S).take (i + 1)).foldl jstep [] = jstep (((rws S).take i).foldl jstep []) z.2 := by
            rw [List.take_add_one, rws_get hz, List.foldl_append]
            rfl
          have nAo : ∀ q ∈ A, q.1 ≠ o := fun q hq => ne_of (hA q hq) hoA (by intro w; cases w)
          refine ⟨z.1, _, rfl, .inl (.inl ez), rfl, _, _, rfl, _, _, rfl, rfl, ?_⟩
          refine ⟨_, rfl, !(refs A).isEmpty, .inl ⟨refs A, .inl (.inl hoA), rfl⟩, ?_⟩
          -- the row goes to the end
          have app : ∀ (hj : jstep (((rws S).take i).foldl jstep []) z.2 = z.2 :: ((rws S).take i).foldl jstep []) (T : Addr), H' T = none →
              ∃ f' l', ∃ A' : List ARow, [some (V.ref a), some (.ref o), some (.int z.2.1), some (.int z.2.2), none] = [some (.ref a), some (.ref o), f', l', none] ∧ (upd (upd H' T (.tup [.int z.2.1, .int z.2.2])) o (.lst (refs A ++ [.ref T]))) o = some (.lst (refs A')) ∧ AtR (upd (upd H' T (.tup [.int z.2.1, .int z.2.2])) o (.lst (refs A ++ [.ref T]))) A' ∧
                rws A' = (((rws S).take (i + 1)).foldl jstep []).reverse ∧ Fre o (upd H2 p (.lst (refs S))) (upd (upd H' T (.tup [.int z.2.1, .int z.2.2])) o (.lst (refs A ++ [.ref T]))) ∧ A'.length ≤ i + 1 := by
            intro hj Tn hT
            have s4 := same_lay (o := .tup [.int z.2.1, .int z.2.2]) hT
            have noT : Tn ≠ o := by
              intro e
              rw [e] at hT
              rw [hT] at hoA
              cases hoA
            refine ⟨_, _, A ++ [(Tn, z.2)], rfl, by rw [upd_same, refs_snoc], ?_, ?_, (fr.trans (fun b u e _ => s4 b u e)).trans Fre.put, by rw [List.length_append]; exact Nat.succ_le_succ hAl⟩
            · intro q hq
              rcases List.mem_append.mp hq with k | k
              · rw [upd_ne (nAo q k)]; exact s4 _ _ (hA q k)
              · rw [List.mem_singleton.mp k, upd_ne noT, upd_same]
            · rw [rws_snoc, eA, e1, hj, List.reverse_cons]
          have alen : (refs A).length < sizeLine := small1000 (by rw [refs_len]; omega)
          have two : 2 ≤ sizeLine := by decide
          cases hacc : ((rws S).take i).foldl jstep [] with
          | nil =>
            have eA0 : A = [] := by
              rw [hacc] at eA
              exact List.map_eq_nil_iff.mp eA
            refine ite2 (fun k => ?_) (fun _ => iteF ?_)
            · rw [eA0] at k
              exact absurd k (by decide)
            · refine ⟨_, rfl, .inl ⟨rfl, _, .inl (.inl hoA)⟩, _, rfl, _, rfl, two, fun Tn hT => ?_⟩
              refine ⟨o, refs A, _, rfl, rfl, same_lay hT _ _ hoA, alen, ?_⟩
              exact app (by rw [hacc]; rfl) Tn hT
          | cons q0 t0 =>
            have eA1 : rws A = t0.reverse ++ [q0] := by rw [eA, hacc, List.reverse_cons]
            obtain ⟨B, A2, rfl, eB, eA2⟩ := List.map_eq_append_iff.mp eA1
            obtain ⟨⟨aq, q1⟩, A3, rfl, eq1, eA3⟩ := List.map_eq_cons_iff.mp eA2
            obtain rfl := List.map_eq_nil_iff.mp eA3
            obtain rfl : q1 = q0 := eq1
            have haq : H' aq = some (.tup [.int q1.1, .int q1.2]) := hA (aq, q1) (List.mem_append_right _ (List.mem_singleton.mpr rfl))
            rw [refs_snoc] at hoA
            have hSo : SqL K H' o (refs B ++ [.ref aq]) := .inl (.inl hoA)
            have hSq : SqT K H' aq [.int q1.1, .int q1.2] := .inl (.inl haq)
            have g0 : atI [V.int q1.1, .int q1.2] 0 = some (.int q1.1) := atI_nat (j := 0) rfl
            have g1 : atI [V.int q1.1, .int q1.2] 1 = some (.int q1.2) := atI_nat (j := 1) rfl
            have gl : atI (refs B ++ [V.ref aq]) (-1) = some (.ref aq) := atI_last _ _
            refine ite2 (fun _ => ?_) (fun k => ?_)
            · refine ⟨_, rfl, _, rfl, 1, rfl, o, _, -1, _, rfl, rfl, hSo, gl, aq, _, 1, _, rfl, rfl, hSq, g1, _, _, rfl, rfl, _, _, rfl, rfl, _, rfl, ite2 (fun c => ?_) (fun c => ?_)⟩
              · have hc : z.2.1 ≤ q1.2 + 1 := of_decide_eq_true c
                refine ⟨_, rfl, 1, rfl, o, _, -1, _, rfl, rfl, hSo, gl, aq, _, 0, _, rfl, rfl, hSq, g0, _, rfl, 1, rfl, o, _, -1, _, rfl, rfl, hSo, gl, aq, _, 1, _, rfl, rfl, hSq, g1, _, rfl, _, _, rfl, two, fun Tn hT => ?_⟩
                have s4 := same_lay (o := .tup [.int q1.1, .int (if z.2.2 > q1.2 then z.2.2 else q1.2)]) hT
                have noT : Tn ≠ o := by
                  intro e
                  rw [e] at hT
                  rw [hT] at hoA
                  cases hoA
                have ixe : ixN (refs B ++ [V.ref aq]).length (-1) = some (refs B).length := by
                  rw [List.length_append]
                  exact ixN_last _
                refine ⟨_, rfl, 1, rfl, o, _, -1, _, rfl, rfl, s4 _ _ hoA, ixe, ?_⟩
                refine ⟨_, _, B ++ [(Tn, (q1.1, if z.2.2 > q1.2 then z.2.2 else q1.2))], rfl, by rw [upd_same, set_last, refs_snoc], ?_, ?_, (fr.trans (fun b u e _ => s4 b u e)).trans Fre.put, ?_⟩
                · intro q hq
                  rcases List.mem_append.mp hq with k | k
                  · rw [upd_ne (nAo q (List.mem_append_left _ k))]; exact s4 _ _ (hA q (List.mem_append_left _ k))
                  · rw [List.mem_singleton.mp k, upd_ne noT, upd_same]
                · rw [rws_snoc, e1, hacc]
                  show rws B ++ [(q1.1, if z.2.2 > q1.2 then z.2.2 else q1.2)] = (if z.2.1 ≤ q1.2 + 1 then (q1.1, if z.2.2 > q1.2 then z.2.2 else q1.2) :: t0 else z.2 :: q1 :: t0).reverse
                  rw [if_pos hc, List.reverse_cons]
                  exact congrArg (· ++ [(q1.1, if z.2.2 > q1.2 then z.2.2 else q1.2)]) eB
                · rw [List.length_append] at hAl ⊢
                  exact Nat.le_succ_of_le hAl
              · have hc : ¬ z.2.1 ≤ q1.2 + 1 := fun w => c (decide_eq_true w)
                refine ⟨_, rfl, .inl ⟨rfl, _, .inl (.inl hoA)⟩, _, rfl, _, rfl, two, fun Tn hT => ?_⟩
                refine ⟨o, _, _, rfl, rfl, same_lay hT _ _ hoA, by rw [← refs_snoc]; exact alen, ?_⟩
                rw [← refs_snoc]
                refine app ?_ Tn hT
                rw [hacc]
                show (if z.2.1 ≤ q1.2 + 1 then (q1.1, if z.2.2 > q1.2 then z.2.2 else q1.2) :: t0 else z.2 :: q1 :: t0) = z.2 :: q1 :: t0
                rw [if_neg hc]
            · exfalso
              apply k
              rw [refs_snoc]
              simp
        · rintro σ H' ⟨f, l, A, rfl, hoA, hA, eA, fr, hAl⟩
          rw [refs_len, List.take_of_length_le (by rw [rws_len]; exact Nat.le_refl _)] at eA
          have eN : rws A = (jfold (rws S)).reverse := eA
          refine ⟨_, rfl, o, refs A, rfl, .inl ⟨.inl (.inl hoA), fun t ht => ?_⟩⟩
          have s5 := same_lay (o := .tup (refs A)) ht
          have s6 : Same H H' := fun b u e => fr b u (s3 b u (s2 b u (S1 b u e))) (ne_of_none e no)
          refine q t A _ (s6.trans s5) (s6.free ht) upd_same (hA.same s5) (by rw [eN]; exact hnf) (fun x => ?_) ?_
          · rw [eN, hme x, ← eM]
            exact mem_same hSm x
          · rw [refs_len] at hAl
            omega
    · refine .inr ⟨_, rfl, a, rfl, ⟨_, sameT S1 hS⟩, fun D hD => lc_tup (K := K) (a := a) (xs := refs L) (fun i H2 => ∃ M : List ARow, H2 D = some (.lst (refs M)) ∧ AtR H2 M ∧ rws M = (rws L).take i ∧ Same (upd H o (.lst [])) H2)
        ⟨[], upd_same, (fun _ z => nomatch z), rfl, same_lay hD⟩ (fun i H2 _ ⟨_, _, _, _, s⟩ => sameT s (sameT S1 hS)) ?_ ?_⟩
      · intro i x H2 hx hI
        obtain ⟨M, hD2, hM, eM, s2⟩ := hI
        obtain ⟨p, hp, hpL, rfl⟩ := refs_get hx
        have hil : i < L.length := (List.getElem?_eq_some_iff.mp hp).1
        have hlM : M.length = i := by
          rw [← rws_len M, eM, List.length_take, rws_len]
          omega
        have e1 : (rws L).take (i + 1) = (rws L).take i ++ [p.2] := by rw [List.take_add_one, rws_get hp]; rfl
        have nDp : ∀ q ∈ M, q.1 ≠ D := fun q hq => ne_of (hM q hq) hD2 (by intro z; cases z)
        refine ⟨rfl, yesT ?_⟩
        refine ⟨_, rfl, p.1, [.int p.2.1, .int p.2.2], rfl, ?_⟩
        rcases hP p hpL with e | e
        · have e3 := s2 _ _ (S1 _ _ e)
          refine .inr ⟨.inl (.inl e3), refs M, hD2, small1000 (by rw [refs_len, hlM]; omega), M ++ [p], ?_, ?_, ?_, same_upd s2 hD⟩
          · rw [upd_same, refs_snoc]
          · intro q hq
            rcases List.mem_append.mp hq with k | k
            · rw [upd_ne (nDp q k)]; exact hM q k
            · rw [List.mem_singleton.mp k, upd_ne (ne_of e3 hD2 (by intro z; cases z))]; exact e3
          · rw [rws_snoc, eM, e1]
        · have e3 := s2 _ _ (S1 _ _ e)
          refine .inl ⟨.inl (.inl e3), fun l hl => ?_⟩
          have nDl : D ≠ l := ne_of_none hD2 hl
          have s3 := same_lay (o := .tup [.int p.2.1, .int p.2.2]) hl
          refine ⟨refs M, s3 _ _ hD2, small1000 (by rw [refs_len, hlM]; omega), M ++ [(l, p.2)], ?_, ?_, ?_, same_upd (s2.trans s3) hD⟩
          · rw [upd_same, refs_snoc]
          · intro q hq
            rcases List.mem_append.mp hq with k | k
            · rw [upd_ne (nDp q k)]; exact s3 _ _ (hM q k)
            · rw [List.mem_singleton.mp k, upd_ne nDl.symm, upd_same]
          · rw [rws_snoc, eM, e1]
      · intro H2 hI
        obtain ⟨M, hD2, hM, eM, s2⟩ := hI
        rw [refs_len, List.take_of_length_le (by rw [rws_len]; exact Nat.le_refl _)] at eM
        have no2 : H2 o = some (.lst []) := s2 _ _ upd_same
        have lM : M.length = L.length := by rw [← rws_len M, eM, rws_len]
        -- sorted
        refine ⟨D, refs M, kOf H2, rfl, .inl (.inl hD2), fun y hy => ?_, fun ys p hs hb np => ?_⟩
        · unfold refs at hy
          obtain ⟨z, hz, rfl⟩ := List.mem_map.mp hy
          exact ⟨z.1, rfl, by rw [kOf_at (hM z hz)]; exact hM z hz⟩
        obtain ⟨S, rfl, hSA, hSm, hSl, hSk⟩ := refs_perm hM hb.perm
        have hso : (rws S).Pairwise fun r s => r.1 ≤ s.1 := by
          rw [hSk]
          refine List.pairwise_map.mpr (hs.imp fun {x y} hxy => ?_)
          have := SrtO.lexB_no.mp hxy
          omega
        have hSok : ∀ r ∈ rws S, r.1 ≤ r.2 := fun r hr => hok r (by rw [← eM]; exact (hSm r).mp hr)
        obtain ⟨hnf, hme⟩ := jfold_ok hSok hso
        have s3 := same_lay (o := .lst (refs S)) np
        have nop : o ≠ p := ne_of_none no2 np
        refine ⟨p, rfl, ⟨_, .inl (.inl upd_same)⟩, for_list (K := K) (a := p) (xs := refs S) (fun i σ H' => ∃ f l, ∃ A : List ARow, σ = [some (.ref a), some (.ref o), f, l, none] ∧ H' o = some (.lst (refs A)) ∧ AtR H' A ∧ rws A = (((rws S).take i).foldl jstep []).reverse ∧ Fre o (upd H2 p (.lst (refs S))) H' ∧ A.length ≤ i)
          ⟨none, none, [], rfl, by rw [upd_ne nop]; exact no2, (fun _ z => nomatch z), rfl, Fre.refl _ _, Nat.le_refl _⟩ (fun i σ H' _ ⟨_, _, _, _, _, _, _, fr, _⟩ => .inl (.inl (fr _ _ upd_same nop.symm))) ?_ ?_⟩
        · rintro i y σ H' hy ⟨f, l, A, rfl, hoA, hA, eA, fr, hAl⟩
          obtain ⟨z, hz, hzS, rfl⟩ := refs_get hy
          have hil : i < S.length := (List.getElem?_eq_some_iff.mp hz).1
          have ez : H' z.1 = some (.tup [.int z.2.1, .int z.2.2]) := fr _ _ (s3 _ _ (hSA z hzS)) (ne_of (hSA z hzS) no2 (by intro q; cases q))
          have e1 : ((rws S).take (i + 1)).foldl jstep [] = jstep (((rws S).take i).foldl jstep []) z.2 := by
            rw [List.take_add_one, rws_get hz, List.foldl_append]
            rfl
          have nAo : ∀ q ∈ A, q.1 ≠ o := fun q hq => ne_of (hA q hq) hoA (by intro w; cases w)
          refine ⟨z.1, _, rfl, .inl (.inl ez), rfl, _, _, rfl, _, _, rfl, rfl, ?_⟩
          refine ⟨_, rfl, !(refs A).isEmpty, .inl ⟨refs A, .inl (.inl hoA), rfl⟩, ?_⟩
          -- the row goes to the end
          have app : ∀ (hj : jstep (((rws S).take i).foldl jstep []) z.2 = z.2 :: ((rws S).take i).foldl jstep []) (T : Addr), H' T = none →
              ∃ f' l', ∃ A' : List ARow, [some (V.ref a), some (.ref o), some (.int z.2.1), some (.int z.2.2), none] = [some (.ref a), some (.ref o), f', l', none] ∧ (upd (upd H' T (.tup [.int z.2.1, .int z.2.2])) o (.lst (refs A ++ [.ref T]))) o = some (.lst (refs A')) ∧ AtR (upd (upd H' T (.tup [.int z.2.1, .int z.2.2])) o (.lst (refs A ++ [.ref T]))) A' ∧
                rws A' = (((rws S).take (i + 1)).foldl jstep []).reverse ∧ Fre o (upd H2 p (.lst (refs S))) (upd (upd H' T (.tup [.int z.2.1, .int z.2.2])) o (.lst (refs A ++ [.ref T]))) ∧ A'.length ≤ i + 1 := by
            intro hj Tn hT
            have s4 := same_lay (o := .tup [.int z.2.1, .int z.2.2]) hT
            have noT : Tn ≠ o := by
              intro e
              rw [e] at hT
              rw [hT] at hoA
              cases hoA
            refine ⟨_, _, A ++ [(Tn, z.2)], rfl, by rw [upd_same, refs_snoc], ?_, ?_, (fr.trans (fun b u e _ => s4 b u e)).trans Fre.put, by rw [List.length_append]; exact Nat.succ_le_succ hAl⟩
            · intro q hq
              rcases List.mem_append.mp hq with k | k
              · rw [upd_ne (nAo q k)]; exact s4 _ _ (hA q k)
              · rw [List.mem_singleton.mp k, upd_ne noT, upd_same]
            · rw [rws_snoc, eA, e1, hj, List.reverse_cons]
          have alen : (refs A).length < sizeLine := small1000 (by rw [refs_len]; omega)
          have two : 2 ≤ sizeLine := by decide
          cases hacc : ((rws S).take i).foldl jstep [] with
          | nil =>
            have eA0 : A = [] := by
              rw [hacc] at eA
              exact List.map_eq_nil_iff.mp eA
            refine ite2 (fun k => ?_) (fun _ => iteF ?_)
            · rw [eA0] at k
              exact absurd k (by decide)
            · refine ⟨_, rfl, .inl ⟨rfl, _, .inl (.inl hoA)⟩, _, rfl, _, rfl, two, fun Tn hT => ?_⟩
              refine ⟨o, refs A, _, rfl, rfl, same_lay hT _ _ hoA, alen, ?_⟩
              exact app (by rw [hacc]; rfl) Tn hT
          | cons q0 t0 =>
            have eA1 : rws A = t0.reverse ++ [q0] := by rw [eA, hacc, List.reverse_cons]
            obtain ⟨B, A2, rfl, eB, eA2⟩ := List.map_eq_append_iff.mp eA1
            obtain ⟨⟨aq, q1⟩, A3, rfl, eq1, eA3⟩ := List.map_eq_cons_iff.mp eA2
            obtain rfl := List.map_eq_nil_iff.mp eA3
            obtain rfl : q1 = q0 := eq1
            have haq : H' aq = some (.tup [.int q1.1, .int q1.2]) := hA (aq, q1) (List.mem_append_right _ (List.mem_singleton.mpr rfl))
            rw [refs_snoc] at hoA
            have hSo : SqL K H' o (refs B ++ [.ref aq]) := .inl (.inl hoA)
            have hSq : SqT K H' aq [.int q1.1, .int q1.2] := .inl (.inl haq)
            have g0 : atI [V.int q1.1, .int q1.2] 0 = some (.int q1.1) := atI_nat (j := 0) rfl
            have g1 : atI [V.int q1.1, .int q1.2] 1 = some (.int q1.2) := atI_nat (j := 1) rfl
            have gl : atI (refs B ++ [V.ref aq]) (-1) = some (.ref aq) := atI_last _ _
            refine ite2 (fun _ => ?_) (fun k => ?_)
            · refine ⟨_, rfl, _, rfl, 1, rfl, o, _, -1, _, rfl, rfl, hSo, gl, aq, _, 1, _, rfl, rfl, hSq, g1, _, _, rfl, rfl, _, _, rfl, rfl, _, rfl, ite2 (fun c => ?_) (fun c => ?_)⟩
              · have hc : z.2.1 ≤ q1.2 + 1 := of_decide_eq_true c
                refine ⟨_, rfl, 1, rfl, o, _, -1, _, rfl, rfl, hSo, gl, aq, _, 0, _, rfl, rfl, hSq, g0, _, rfl, 1, rfl, o, _, -1, _, rfl, rfl, hSo, gl, aq, _, 1, _, rfl, rfl, hSq, g1, _, rfl, _, _, rfl, two, fun Tn hT => ?_⟩
                have s4 := same_lay (o := .tup [.int q1.1, .int (if z.2.2 > q1.2 then z.2.2 else q1.2)]) hT
                have noT : Tn ≠ o := by
                  intro e
                  rw [e] at hT
                  rw [hT] at hoA
                  cases hoA
                have ixe : ixN (refs B ++ [V.ref aq]).length (-1) = some (refs B).length := by
                  rw [List.length_append]
                  exact ixN_last _
                refine ⟨_, rfl, 1, rfl, o, _, -1, _, rfl, rfl, s4 _ _ hoA, ixe, ?_⟩
                refine ⟨_, _, B ++ [(Tn, (q1.1, if z.2.2 > q1.2 then z.2.2 else q1.2))], rfl, by rw [upd_same, set_last, refs_snoc], ?_, ?_, (fr.trans (fun b u e _ => s4 b u e)).trans Fre.put, ?_⟩
                · intro q hq
                  rcases List.mem_append.mp hq with k | k
                  · rw [upd_ne (nAo q (List.mem_append_left _ k))]; exact s4 _ _ (hA q (List.mem_append_left _ k))
                  · rw [List.mem_singleton.mp k, upd_ne noT, upd_same]
                · rw [rws_snoc, e1, hacc]
                  show rws B ++ [(q1.1, if z.2.2 > q1.2 then z.2.2 else q1.2)] = (if z.2.1 ≤ q1.2 + 1 then (q1.1, if z.2.2 > q1.2 then z.2.2 else q1.2) :: t0 else z.2 :: q1 :: t0).reverse
                  rw [if_pos hc, List.reverse_cons]
                  exact congrArg (· ++ [(q1.1, if z.2.2 > q1.2 then z.2.2 else q1.2)]) eB
                · rw [List.length_append] at hAl ⊢
                  exact Nat.le_succ_of_le hAl
              · have hc : ¬ z.2.1 ≤ q1.2 + 1 := fun w => c (decide_eq_true w)
                refine ⟨_, rfl, .inl ⟨rfl, _, .inl (.inl hoA)⟩, _, rfl, _, rfl, two, fun Tn hT => ?_⟩
                refine ⟨o, _, _, rfl, rfl, same_lay hT _ _ hoA, by rw [← refs_snoc]; exact alen, ?_⟩
                rw [← refs_snoc]
                refine app ?_ Tn hT
                rw [hacc]
                show (if z.2.1 ≤ q1.2 + 1 then (q1.1, if z.2.2 > q1.2 then z.2.2 else q1.2) :: t0 else z.2 :: q1 :: t0) = z.2 :: q1 :: t0
                rw [if_neg hc]
            · exfalso
              apply k
              rw [refs_snoc]
              simp
        · rintro σ H' ⟨f, l, A, rfl, hoA, hA, eA, fr, hAl⟩
          rw [refs_len, List.take_of_length_le (by rw [rws_len]; exact Nat.le_refl _)] at eA
          have eN : rws A = (jfold (rws S)).reverse := eA
          refine ⟨_, rfl, o, refs A, rfl, .inl ⟨.inl (.inl hoA), fun t ht => ?_⟩⟩
          have s5 := same_lay (o := .tup (refs A)) ht
          have s6 : Same H H' := fun b u e => fr b u (s3 b u (s2 b u (S1 b u e))) (ne_of_none e no)
          refine q t A _ (s6.trans s5) (s6.free ht) upd_same (hA.same s5) (by rw [eN]; exact hnf) (fun x => ?_) ?_
          · rw [eN, hme x, ← eM]
            exact mem_same hSm x
          · rw [refs_len] at hAl
            omega
end
end OR

namespace OR
open PySem PySem.Spec PyProof.Rows L2
/-! ### counts before, and __init__ -/
def tot (l : List Row) : Int := l.foldl (fun t r => t + r.2 - r.1 + 1) 0
def befs (l : List Row) : List Int := (List.range l.length).map fun j => tot (l.take j)
theorem tot_snoc (l : List Row) (r : Row) : tot (l ++ [r]) = tot l + r.2 - r.1 + 1 := by
  unfold tot
  rw [List.foldl_append]
  rfl
def spCounts (K : PySem.W.Frag) : Sp := fun vs H Q _ => ∃ (t : Addr) (M : List ARow), vs = [.ref t] ∧ H t = some (.tup (refs M)) ∧ AtR H M ∧ M.length ≤ 1000 ∧
  ∀ (b : Addr) (H' : Hp), Same H H' → H b = none → H' b = some (.tup ((befs (rws M)).map V.int)) → Q (.ref b) H'
/-- an instance of Places with these rows -/
theorem kFS : ¬ (("_firsts" : Str) = "stretches") := by decide +kernel
theorem kBS : ¬ (("_before" : Str) = "stretches") := by decide +kernel
theorem kBF : ¬ (("_before" : Str) = "_firsts") := by decide +kernel
def pFl (t f b : Addr) : List (Str × V) := putF "_before" (.ref b) (putF "_firsts" (.ref f) (putF "stretches" (.ref t) []))
theorem pFl_s (t f b : Addr) : (pFl t f b).lookup ("stretches" : Str) = some (.ref t) := by
  unfold pFl
  rw [lookup_putF, if_neg (fun e => kBS e.symm), lookup_putF, if_neg (fun e => kFS e.symm), lookup_putF, if_pos rfl]
theorem pFl_f (t f b : Addr) : (pFl t f b).lookup ("_firsts" : Str) = some (.ref f) := by
  unfold pFl
  rw [lookup_putF, if_neg (fun e => kBF e.symm), lookup_putF, if_pos rfl]
theorem pFl_b (t f b : Addr) : (pFl t f b).lookup ("_before" : Str) = some (.ref b) := by
  unfold pFl
  rw [lookup_putF, if_pos rfl]
theorem pFl_no (t f b : Addr) {m : Str} (h1 : ¬ m = "_before") (h2 : ¬ m = "_firsts") (h3 : ¬ m = "stretches") : (pFl t f b).lookup m = none := by
  unfold pFl
  rw [lookup_putF, if_neg h1, lookup_putF, if_neg h2, lookup_putF, if_neg h3]
  rfl
structure IsP (C : Addr) (H : Hp) (x : Addr) (l : List Row) : Prop where
  nf : Nf l
  ex : ∃ (dx t f b : Addr) (M : List ARow), H x = some (.ins C dx (pFl t f b)) ∧ H t = some (.tup (refs M)) ∧ AtR H M ∧ rws M = l ∧ H f = some (.tup (l.map fun r => V.int r.1)) ∧ H b = some (.tup ((befs l).map V.int)) ∧ M.length ≤ 1000
theorem IsP.same {C : Addr} {H H' : Hp} {x : Addr} {l : List Row} (h : IsP C H x l) (s : Same H H') : IsP C H' x l := by
  obtain ⟨nf, dx, t, f, b, M, h1, h2, h3, h4, h5, h6, h7⟩ := h
  exact ⟨nf, dx, t, f, b, M, s _ _ h1, s _ _ h2, h3.same s, h4, s _ _ h5, s _ _ h6, h7⟩
/-- enumerate, turn by turn -/
theorem for_enum {K : PySem.W.Frag} {a : Addr} {xs : List V} {g : TG} {tb : TS} {D : Ends} {σ : L2.St} {H : Hp} (Pv : Nat → L2.St → Hp → Prop) (h0 : Pv 0 σ H) (hl : ∀ i σ H, i ≤ xs.length → Pv i σ H → SqL K H a xs)
    (hs : ∀ i x σ H T, xs[i]? = some x → Pv i σ H → H T = none → g (.ref T) σ (upd H T (.tup [.int (i : Nat), x])) fun σ2 H2 => tb { D with nx := Pv (i + 1), ct := Pv (i + 1), bk := D.nx } σ2 H2) (hd : ∀ σ H, Pv xs.length σ H → D.nx σ H) :
    ∃ W : Nat → Nat → L2.St → Hp → Prop, (∃ m, W 0 m σ H) ∧ ∀ i m σ H, W i m σ H →
      ((Ite K a).stop i H ∧ D.nx σ H) ∨ ((Ite K a).go i H ∧ ∃ N : L2.St → Hp → Prop, (∀ σ' H', N σ' H' → ∃ m', m' < m ∧ W (i + 1) m' σ' H') ∧ ∀ x H', (Ite K a).yld i H x H' → g x σ H' fun σ2 H2 => tb { D with nx := N, ct := N, bk := D.nx } σ2 H2) := by
  refine ⟨fun i m σ H => m = xs.length - i ∧ i ≤ xs.length ∧ Pv i σ H, ⟨xs.length, by simp, Nat.zero_le _, h0⟩, ?_⟩
  rintro i m σ H ⟨rfl, hi, p⟩
  have q := hl i σ H hi p
  by_cases hlt : i < xs.length
  · refine .inr ⟨⟨xs, xs[i], q, by simp [hlt]⟩, Pv (i + 1), fun σ' H' p' => ⟨xs.length - (i + 1), by omega, rfl, hlt, p'⟩, fun v H' y => ?_⟩
    obtain ⟨T, x, rfl, hT, rfl, hx⟩ := y
    exact hs i x σ H T (hx xs q) p hT
  · obtain rfl : i = xs.length := by omega
    exact .inl ⟨⟨xs, q, Nat.le_refl _⟩, hd σ H p⟩
theorem for_enumT {K : PySem.W.Frag} {a : Addr} {xs : List V} {g : TG} {tb : TS} {D : Ends} {σ : L2.St} {H : Hp} (Pv : Nat → L2.St → Hp → Prop) (h0 : Pv 0 σ H) (hl : ∀ i σ H, i ≤ xs.length → Pv i σ H → SqT K H a xs)
    (hs : ∀ i x σ H T, xs[i]? = some x → Pv i σ H → H T = none → g (.ref T) σ (upd H T (.tup [.int (i : Nat), x])) fun σ2 H2 => tb { D with nx := Pv (i + 1), ct := Pv (i + 1), bk := D.nx } σ2 H2) (hd : ∀ σ H, Pv xs.length σ H → D.nx σ H) :
    ∃ W : Nat → Nat → L2.St → Hp → Prop, (∃ m, W 0 m σ H) ∧ ∀ i m σ H, W i m σ H →
      ((IteT K a).stop i H ∧ D.nx σ H) ∨ ((IteT K a).go i H ∧ ∃ N : L2.St → Hp → Prop, (∀ σ' H', N σ' H' → ∃ m', m' < m ∧ W (i + 1) m' σ' H') ∧ ∀ x H', (IteT K a).yld i H x H' → g x σ H' fun σ2 H2 => tb { D with nx := N, ct := N, bk := D.nx } σ2 H2) := by
  refine ⟨fun i m σ H => m = xs.length - i ∧ i ≤ xs.length ∧ Pv i σ H, ⟨xs.length, by simp, Nat.zero_le _, h0⟩, ?_⟩
  rintro i m σ H ⟨rfl, hi, p⟩
  have q := hl i σ H hi p
  by_cases hlt : i < xs.length
  · refine .inr ⟨⟨xs, xs[i], q, by simp [hlt]⟩, Pv (i + 1), fun σ' H' p' => ⟨xs.length - (i + 1), by omega, rfl, hlt, p'⟩, fun v H' y => ?_⟩
    obtain ⟨T, x, rfl, hT, rfl, hx⟩ := y
    exact hs i x σ H T (hx xs q) p hT
  · obtain rfl : i = xs.length := by omega
    exact .inl ⟨⟨xs, q, Nat.le_refl _⟩, hd σ H p⟩
def spPlInit (K : PySem.W.Frag) (C : Addr) : Sp := fun vs H Q _ => ∃ (x dx a : Addr) (L : List ARow), vs = [.ref x, .ref a] ∧ H x = some (.ins C dx []) ∧ (SqL K H a (refs L) ∨ SqT K H a (refs L)) ∧ L.length ≤ 1000 ∧ PairsAt H L ∧ (∀ r ∈ rws L, okRow r = true) ∧
  ∀ (l : List Row) (H' : Hp), (∀ c o, H c = some o → c ≠ x → H' c = some o) → IsP C H' x l → (∀ z, mem l z ↔ mem (rws L) z) → l.length ≤ L.length → Q .non H'
theorem okRow_le {r : Row} (h : okRow r = true) : r.1 ≤ r.2 := by
  unfold okRow at h
  simp only [Bool.and_eq_true, decide_eq_true_eq] at h
  exact h.2.2
section
variable {P : Program} {w : World} {K : PySem.W.Frag} {mg : Str → Option Value} {base : Heap}
theorem scC : FnScope ["stretches", "counts", "total", "first", "last"] ["stretches"] (defScope sCounts) := ⟨rfl, rfl, rfl, by decide +kernel, rfl, by decide +kernel, by decide +kernel⟩
theorem ok_counts {f C : Addr} {fd : FuncData} (F : Fun K "_counts_before" "_counts_before" sCounts f fd) (T : PTxt K mg C) : FnOk P w K mg base CX0 1 f fd ["stretches"] (spCounts K) := by
  refine F.ok scC (fun vs H Q E h => ?_) (fun cdv A outer s H vs Q E hr h => ?_)
  · obtain ⟨t, M, rfl, _⟩ := h
    rfl
  · obtain ⟨t, M, rfl, ht, hM, hlen, q⟩ := h
    have nd := scC.nd
    refine ⟨_, pss_cons (ps_set (i := 1) nd rfl (.inl rfl) (pe_lst pa_nil))
      (pss_cons (ps_set (i := 2) nd rfl (.inl rfl) pe_int)
      (pss_cons (ps_for PassesOwn.never rfl (pi_tup (pv 0)) (pg_tup rfl (pgs_cons (pg_name (i := 3) nd rfl (.inl rfl)) (pgs_cons (pg_name (i := 4) nd rfl (.inl rfl)) pgs_nil)))
        (pss_cons (ps_expr (pe_bm PySem.F.plainAttrs_list PySem.F.slot_list_append PySem.F.type_list_append mt_append (pv 1) (pa_cons (pv 2) pa_nil)))
        (pss_one (ps_set (i := 2) nd rfl (.inl rfl) (pe_op op_add (pe_op op_sub (pe_op op_add (pv 2) (pv 4)) (pv 3)) pe_int)))))
      (pss_one (ps_ret (pe_callTy call_tuple_of (by rfl) T.zTup bt_tup (pa_cons (pv 1) pa_nil)))))), ?_⟩
    refine ⟨Nat.zero_le _, fun o no => ?_⟩
    have s1 := same_lay (o := .lst []) no
    refine ⟨_, rfl, t, rfl, ⟨_, .inl (.inl (s1 _ _ ht))⟩, for_tup (K := K) (a := t) (xs := refs M) (fun i σ H' => ∃ f l, σ = [some (.ref t), some (.ref o), some (.int (tot ((rws M).take i))), f, l] ∧ H' o = some (.lst (((List.range i).map fun j => tot ((rws M).take j)).map V.int)) ∧ Fre o (upd H o (.lst [])) H')
      ⟨none, none, rfl, upd_same, Fre.refl _ _⟩ (fun i σ H' _ ⟨_, _, _, _, fr⟩ => .inl (.inl (fr _ _ (s1 _ _ ht) (ne_of_none ht no)))) ?_ ?_⟩
    · rintro i y σ H' hy ⟨f, l, rfl, ho, fr⟩
      obtain ⟨z, hz, hzM, rfl⟩ := refs_get hy
      have hil : i < M.length := (List.getElem?_eq_some_iff.mp hz).1
      have ez : H' z.1 = some (.tup [.int z.2.1, .int z.2.2]) := fr _ _ (s1 _ _ (hM z hzM)) (ne_of_none (hM z hzM) no)
      refine ⟨z.1, _, rfl, .inl (.inl ez), rfl, _, _, rfl, _, _, rfl, rfl, ?_⟩
      refine ⟨_, rfl, .inl ⟨rfl, _, .inl (.inl ho)⟩, _, rfl, o, _, _, rfl, rfl, ho, small1000 (by rw [List.length_map, List.length_map, List.length_range]; omega), ?_⟩
      refine ⟨_, rfl, _, rfl, _, _, rfl, rfl, _, rfl, _, _, rfl, rfl, _, _, rfl, rfl, ?_⟩
      have e1 : (rws M).take (i + 1) = (rws M).take i ++ [z.2] := by rw [List.take_add_one, rws_get hz]; rfl
      refine ⟨some (.int z.2.1), some (.int z.2.2), ?_, ?_, fr.trans Fre.put⟩
      · rw [e1, tot_snoc]
        rfl
      · rw [upd_same, List.range_succ, List.map_append, List.map_append]
        rfl
    · rintro σ H' ⟨f, l, rfl, ho, fr⟩
      refine ⟨_, rfl, o, _, rfl, .inl ⟨.inl (.inl ho), fun b hb => ?_⟩⟩
      have s2 := same_lay (o := .tup (((List.range (refs M).length).map fun j => tot ((rws M).take j)).map V.int)) hb
      have s3 : Same H H' := fun c u e => fr c u (s1 c u e) (ne_of_none e no)
      refine q b _ (s3.trans s2) (s3.free hb) ?_
      rw [upd_same]
      unfold befs
      rw [rws_len, refs_len]
theorem scPI : FnScope ["self", "stretches", "index", "stretch", "first", "_"] ["self", "stretches"] (defScope sPlInit) := ⟨rfl, rfl, rfl, by decide +kernel, rfl, by decide +kernel, by decide +kernel⟩
theorem ok_plinit {f C : Addr} {fd : FuncData} {dvs : List V} (F : FunD K "__init__" "Places.__init__" (defArgs sPlInit) (defBody sPlInit) (defScope sPlInit) dvs [] f fd) (T : PTxt K mg C) (S : Cl P w K mg base 3 "_is_stretch" ["value"] spIsStretchP)
    (J : Cl P w K mg base 1 "_joined" ["stretches"] (spJoined K)) (B : Cl P w K mg base 1 "_counts_before" ["stretches"] (spCounts K)) : FnOk P w K mg base CX0 4 f fd ["self", "stretches"] (spPlInit K C) := by
  refine F.ok scPI (fun vs H Q E h => ?_) (fun cdv A outer s H vs Q E hr h => ?_)
  · obtain ⟨x, dx, a, L, rfl, _⟩ := h
    rfl
  · obtain ⟨x, dx, a, L, rfl, hx, hS, hlen, hP, hok, q⟩ := h
    have nd := scPI.nd
    have hb := PSs.nox (X := cxOf CX0 P w K mg base ["self", "stretches", "index", "stretch", "first", "_"] "Places.__init__" (defScope sPlInit) f cdv A outer s H E) (st := defBody sPlInit) (pss_cons (ps_for PassesOwn.never rfl (pi_or (pi_enum (by rfl) T.zEnum (pa_cons (pv 1) pa_nil)) (pi_enumT (by rfl) T.zEnum (pa_cons (pv 1) pa_nil)))
          (pg_tup rfl (pgs_cons (pg_name (i := 2) nd rfl (.inl rfl)) (pgs_cons (pg_name (i := 3) nd rfl (.inl rfl)) pgs_nil)))
        (pss_one (ps_if (pt_not (pt_val (pe_cl S hr (by decide) (by rfl) (pa_cons (pv 3) pa_nil)))) (pss_one ps_never) pss_nil)))
      (pss_cons (ps_fld (pv 0) (pe_cl J hr (by decide) (by rfl) (pa_cons (pv 1) pa_nil)) rfl)
      (pss_cons (ps_fld (pv 0) (pe_callTy call_tuple_of (by rfl) T.zTup bt_tup (pa_cons
          (pe_lc (own := [("first", 4), ("_", 5)]) (g := gTup K 2 (gCons (gName 4) (gCons (gName 5) gNil))) (tt := tYes) rfl nd (pi_tup (pe_fld (pv 0) rfl)) (blkOk_by (N := ["self", "stretches", "index", "stretch", "first", "_"]) (sc := defScope sPlInit) (by decide +kernel))
            (fun _ _ _ _ _ => pg_tup rfl (pgs_cons (pg_name (i := 4) nd rfl (.inl rfl)) (pgs_cons (pg_name (i := 5) nd rfl (.inl rfl)) pgs_nil))) (fun _ _ _ _ _ => pts_nil) (fun _ _ _ _ _ => pv 4)) pa_nil)) rfl)
      (pss_one (ps_fld (pv 0) (pe_cl B hr (by decide) (by rfl) (pa_cons (pe_fld (pv 0) rfl) pa_nil)) rfl)))))
    refine ⟨_, hb, ?_⟩
    clear hb
    -- what follows the loop
    have after : ∀ (σ : L2.St) (H1 : Hp) (i1 s1 : Option V), σ = [some (.ref x), some (.ref a), i1, s1, none, none] → Same H H1 → (tSeq (sFld K (tVar 0) (tCall (spJoined K) [] E0 (tCons (tVar 1) tNil)) "stretches")
        (tSeq (sFld K (tVar 0) (tCB (fun xs H Q => ∃ p ys, xs = [V.ref p] ∧ ((SqL K H p ys ∧ ∀ l, H l = none → Q (.ref l) (upd H l (.tup ys))) ∨ (SqT K H p ys ∧ Q (.ref p) H))) (tCons (tLc (iTup K (tFld K (tVar 0) "stretches")) (gTup K 2 (gCons (gName 4) (gCons (gName 5) gNil))) tYes (tVar 4) [4, 5]) tNil)) "_firsts")
        (sFld K (tVar 0) (tCall (spCounts K) [] E0 (tCons (tFld K (tVar 0) "stretches") tNil)) "_before"))) { nx := fun _ H' => Q .non H', rt := Q } σ H1 := by
      rintro σ H1 i1 s1 rfl S1
      have hS1 : SqL K H1 a (refs L) ∨ SqT K H1 a (refs L) := hS.elim (fun e => .inl (S1.seq e)) fun e => .inr (sameT S1 e)
      refine ⟨_, rfl, a, L, rfl, hS1, hlen, hP.same S1, fun r hr => okRow_le (hok r hr), fun t M H2 S2 nt ht hM hnf hme hlM => ?_⟩
      have hx2 := S2 _ _ (S1 _ _ hx)
      refine ⟨_, rfl, x, C, dx, [], rfl, hx2, T.cl, T.nS, (by show 0 < 1000; decide), ?_⟩
      have ntx : t ≠ x := ne_of ht hx2 (by intro z; cases z)
      have nMx : ∀ p ∈ M, p.1 ≠ x := fun p hp => ne_of (hM p hp) hx2 (by intro z; cases z)
      -- firsts
      generalize hH3 : upd H2 x (.ins C dx (putF "stretches" (.ref t) [])) = H3
      have hx3 : H3 x = some (.ins C dx (putF "stretches" (.ref t) [])) := by rw [← hH3, upd_same]
      have ht3 : H3 t = some (.tup (refs M)) := by rw [← hH3, upd_ne ntx]; exact ht
      have hM3 : AtR H3 M := fun p hp => by rw [← hH3, upd_ne (nMx p hp)]; exact hM p hp
      have f3 : ∀ c o, H c = some o → c ≠ x → H3 c = some o := fun c o e n => by rw [← hH3, upd_ne n]; exact S2 _ _ (S1 _ _ e)
      have lk : (putF "stretches" (V.ref t) []).lookup ("stretches" : Str) = some (V.ref t) := by rw [lookup_putF, if_pos rfl]
      refine ⟨_, rfl, x, C, dx, _, _, rfl, hx3, T.cl, T.nS, lk, t, rfl, ⟨_, .inl (.inl ht3)⟩, fun D hD => lc_tup (K := K) (a := t) (xs := refs M) (fun i H4 => H4 D = some (.lst ((rws M).take i |>.map fun r => V.int r.1)) ∧ Same H3 H4)
        ⟨upd_same, same_lay hD⟩ (fun i H4 _ ⟨_, s⟩ => .inl (.inl (s _ _ ht3))) ?_ ?_⟩
      · rintro i y H4 hy ⟨hD4, s4⟩
        obtain ⟨z, hz, hzM, rfl⟩ := refs_get hy
        have hil : i < M.length := (List.getElem?_eq_some_iff.mp hz).1
        have ez := s4 _ _ (hM3 z hzM)
        refine ⟨z.1, _, rfl, .inl (.inl ez), rfl, _, _, rfl, _, _, rfl, rfl, rfl, yesT ?_⟩
        refine ⟨_, rfl, _, hD4, small1000 (by rw [List.length_map, List.length_take]; omega), ?_, same_upd s4 hD⟩
        have e1 : (rws M).take (i + 1) = (rws M).take i ++ [z.2] := by rw [List.take_add_one, rws_get hz]; rfl
        rw [upd_same, e1, List.map_append]
        rfl
      · rintro H4 ⟨hD4, s4⟩
        rw [refs_len, List.take_of_length_le (by rw [rws_len]; exact Nat.le_refl _)] at hD4
        refine ⟨D, _, rfl, .inl ⟨.inl (.inl hD4), fun f nf => ?_⟩⟩
        have s5 := same_lay (o := .tup ((rws M).map fun r => V.int r.1)) nf
        have s35 := s4.trans s5
        have hx5 := s35 _ _ hx3
        refine ⟨_, rfl, x, C, dx, _, rfl, hx5, T.cl, T.nF, (by show 1 < 1000; decide), ?_⟩
        have nfx : f ≠ x := by
          intro e
          rw [e] at nf
          rw [s4 _ _ hx3] at nf
          cases nf
        generalize hH6 : upd (upd H4 f (.tup ((rws M).map fun r => V.int r.1))) x (.ins C dx (putF "_firsts" (.ref f) (putF "stretches" (.ref t) []))) = H6
        have hx6 : H6 x = some (.ins C dx (putF "_firsts" (.ref f) (putF "stretches" (.ref t) []))) := by rw [← hH6, upd_same]
        have ht6 : H6 t = some (.tup (refs M)) := by rw [← hH6, upd_ne ntx]; exact s35 _ _ ht3
        have hM6 : AtR H6 M := fun p hp => by rw [← hH6, upd_ne (nMx p hp)]; exact s35 _ _ (hM3 p hp)
        have hf6 : H6 f = some (.tup ((rws M).map fun r => V.int r.1)) := by rw [← hH6, upd_ne nfx, upd_same]
        have f6 : ∀ c o, H c = some o → c ≠ x → H6 c = some o := fun c o e n => by rw [← hH6, upd_ne n]; exact s35 _ _ (f3 c o e n)
        have lk6 : (putF "_firsts" (V.ref f) (putF "stretches" (V.ref t) [])).lookup ("stretches" : Str) = some (V.ref t) := by
          rw [lookup_putF, if_neg (fun e => kFS e.symm), lookup_putF, if_pos rfl]
        refine ⟨_, rfl, x, C, dx, _, _, rfl, hx6, T.cl, T.nS, lk6, t, M, rfl, ht6, hM6, Nat.le_trans hlM hlen, fun b H7 s7 nb hb => ?_⟩
        have hx7 := s7 _ _ hx6
        refine ⟨_, rfl, x, C, dx, _, rfl, hx7, T.cl, T.nB, (by show 2 < 1000; decide), ?_⟩
        have nbx : b ≠ x := ne_of hb hx7 (by intro z; cases z)
        refine q (rws M) _ (fun c o e n => by rw [upd_ne n]; exact s7 _ _ (f6 c o e n)) ⟨hnf, dx, t, f, b, M, upd_same, ?_, fun p hp => ?_, rfl, ?_, ?_, Nat.le_trans hlM hlen⟩ hme (by rw [rws_len]; exact hlM)
        · rw [upd_ne ntx]; exact s7 _ _ ht6
        · rw [upd_ne (nMx p hp)]; exact s7 _ _ (hM6 p hp)
        · rw [upd_ne nfx]; exact s7 _ _ hf6
        · rw [upd_ne nbx]; exact hb
    rcases hS with hS' | hS'
    · refine .inl ⟨_, rfl, a, refs L, rfl, hS', for_enum (K := K) (a := a) (xs := refs L) (fun i σ H' => ∃ i1 s1, σ = [some (.ref x), some (.ref a), i1, s1, none, none] ∧ Same H H')
        ⟨none, none, rfl, Same.refl _⟩ (fun i σ H' _ ⟨_, _, _, s⟩ => s.seq hS') ?_ ?_⟩
      · rintro i y σ H' Tn hy ⟨i1, s1, rfl, S1⟩ hT
        obtain ⟨z, hz, hzL, rfl⟩ := refs_get hy
        have s2 := same_lay (o := .tup [.int (i : Nat), .ref z.1]) hT
        have pz := (hP.same (S1.trans s2)) z hzL
        have okz : okRow z.2 = true := hok z.2 (mem_rws.mpr ⟨z.1, hzL⟩)
        refine ⟨Tn, _, rfl, .inl (.inl upd_same), rfl, _, _, rfl, _, _, rfl, rfl, ?_⟩
        refine ⟨_, rfl, z.1, z.2, rfl, pz, fun H'' S3 => ⟨_, rfl, ?_⟩⟩
        rw [okz]
        exact iteF ⟨_, _, rfl, (S1.trans s2).trans S3⟩
      · rintro σ H' ⟨i1, s1, rfl, S1⟩
        exact after _ _ i1 s1 rfl S1
    · refine .inr ⟨_, rfl, a, refs L, rfl, hS', for_enumT (K := K) (a := a) (xs := refs L) (fun i σ H' => ∃ i1 s1, σ = [some (.ref x), some (.ref a), i1, s1, none, none] ∧ Same H H')
        ⟨none, none, rfl, Same.refl _⟩ (fun i σ H' _ ⟨_, _, _, s⟩ => sameT s hS') ?_ ?_⟩
      · rintro i y σ H' Tn hy ⟨i1, s1, rfl, S1⟩ hT
        obtain ⟨z, hz, hzL, rfl⟩ := refs_get hy
        have s2 := same_lay (o := .tup [.int (i : Nat), .ref z.1]) hT
        have pz := (hP.same (S1.trans s2)) z hzL
        have okz : okRow z.2 = true := hok z.2 (mem_rws.mpr ⟨z.1, hzL⟩)
        refine ⟨Tn, _, rfl, .inl (.inl upd_same), rfl, _, _, rfl, _, _, rfl, rfl, ?_⟩
        refine ⟨_, rfl, z.1, z.2, rfl, pz, fun H'' S3 => ⟨_, rfl, ?_⟩⟩
        rw [okz]
        exact iteF ⟨_, _, rfl, (S1.trans s2).trans S3⟩
      · rintro σ H' ⟨i1, s1, rfl, S1⟩
        exact after _ _ i1 s1 rfl S1
end
end OR

namespace OR
open PySem PySem.Spec PyProof.Rows L2
/-! ### deep data made of rows -/
def rowD (r : Row) : PyData := .tuple [.int r.1, .int r.2]
theorem dp_row {K : PySem.W.Frag} {H : Hp} {a : Addr} {r : Row} (h : H a = some (.tup [.int r.1, .int r.2])) : Dp K H (.ref a) (rowD r) := .tup (.inl (.inl h)) (.cons (.int _) (.cons (.int _) .nil))
theorem dp_rows {K : PySem.W.Frag} {H : Hp} : ∀ {L : List ARow}, AtR H L → DpAll K H (refs L) ((rws L).map rowD)
  | [], _ => .nil
  | p :: L, h => .cons (dp_row (h p List.mem_cons_self)) (dp_rows fun q hq => h q (List.mem_cons_of_mem _ hq))
theorem lay_rows : ∀ l : List Row, PyData.canLayAll0 (l.map rowD) = true
  | [] => rfl
  | r :: l => by
    show (PyData.canLay0 (rowD r) && PyData.canLayAll0 (l.map rowD)) = true
    rw [lay_rows l]
    rfl
theorem dep_rows : ∀ l : List Row, PyData.depthAll (l.map rowD) ≤ 1
  | [] => Nat.zero_le _
  | r :: l => by
    show max (PyData.depth (rowD r)) (PyData.depthAll (l.map rowD)) ≤ 1
    have := dep_rows l
    have e : PyData.depth (rowD r) = 1 := rfl
    omega
theorem shp_tup (l : List Row) : SeqAt.shaped (.tuple (l.map rowD)) = true := by
  unfold SeqAt.shaped
  rw [show PyData.canLay0 (.tuple (l.map rowD)) = true from lay_rows l, Bool.true_and]
  refine decide_eq_true ?_
  show PyData.depthAll (l.map rowD) + 1 ≤ 64
  have := dep_rows l
  omega
theorem shp_lst (l : List Row) : SeqAt.shaped (.list (l.map rowD)) = true := by
  unfold SeqAt.shaped
  rw [show PyData.canLay0 (.list (l.map rowD)) = true from lay_rows l, Bool.true_and]
  refine decide_eq_true ?_
  show PyData.depthAll (l.map rowD) + 1 ≤ 64
  have := dep_rows l
  omega
theorem eqv_row (r s : Row) : PyData.eqv (rowD r) (rowD s) = decide (r = s) := by
  show ((r.1 == s.1) && ((r.2 == s.2) && true)) = decide (r = s)
  rw [Bool.and_true]
  by_cases h : r = s
  · subst h
    simp
  · rw [decide_eq_false h]
    by_cases h1 : r.1 = s.1
    · have h2 : r.2 ≠ s.2 := fun e => h (Prod.ext h1 e)
      simp [h2]
    · simp [h1]
theorem eqv_rows : ∀ l m : List Row, PyData.eqvAll (l.map rowD) (m.map rowD) = decide (l = m)
  | [], [] => by simp [PyData.eqvAll]
  | [], _ :: _ => by simp [PyData.eqvAll]
  | _ :: _, [] => by simp [PyData.eqvAll]
  | r :: l, s :: m => by
    show (PyData.eqv (rowD r) (rowD s) && PyData.eqvAll (l.map rowD) (m.map rowD)) = decide (r :: l = s :: m)
    rw [eqv_row, eqv_rows l m]
    by_cases h1 : r = s
    · by_cases h2 : l = m
      · simp [h1, h2]
      · simp [h1, h2]
    · simp [h1]
theorem AtR.frm {H H' : Hp} {L : List ARow} {p : Addr} {n : Nat} (h : AtR H L) (f : Frm p H H') (P : Pen H p n) : AtR H' L := fun q hq => by
  obtain ⟨c, ns, k, l, hp, _⟩ := P
  exact f _ _ (h q hq) (ne_of (h q hq) hp (by intro z; cases z))
theorem Frm.free {p q : Addr} {H H' : Hp} {n : Nat} (f : Frm p H H') (P : Pen H' p n) (h : H' q = none) : H q = none := by
  obtain ⟨c, ns, k, l, hp, _⟩ := P
  cases e : H q with
  | none => rfl
  | some o =>
    by_cases ep : q = p
    · rw [ep, hp] at h
      cases h
    · rw [f q o e ep] at h
      cases h
theorem frmS {p : Addr} {H H' : Hp} (s : Same H H') : Frm p H H' := ⟨fun b o e _ => s b o e, fun c ⟨k, l, e⟩ => ⟨k, l, s _ _ e⟩⟩
theorem Pen.same' {H H' : Hp} {p : Addr} {n : Nat} (P : Pen H p n) (s : Same H H') : Pen H' p n := by
  obtain ⟨c, ns, k, l, h1, h2, h⟩ := P
  exact ⟨c, ns, k, l, s _ _ h1, s _ _ h2, h⟩
/-! ### the law's drawing of rows -/
def spSpot : Sp := fun vs H Q _ => ∃ (p : Addr) (n : Nat), vs = [.ref p] ∧ Pen H p n ∧ n ≤ 900000 ∧ ∀ (r : Int) (H' : Hp), placeB r = true → Pen H' p (n + 2) → Frm p H H' → Q (.int r) H'
def spDrawn : Sp := fun vs H Q _ => ∃ (p : Addr) (m n : Nat), vs = [.ref p, .int m] ∧ m ≤ 20 ∧ Pen H p n ∧ n ≤ 700000 ∧
  ∀ (a : Addr) (L : List ARow) (H' : Hp), H a = none → H' a = some (.lst (refs L)) → AtR H' L → (∀ r ∈ rws L, okRow r = true) → L.length ≤ m → Pen H' p (n + 1000) → Frm p H H' → Q (.ref a) H'
theorem place_of {r : Int} (h0 : 0 ≤ r) (h1 : r ≤ lastP) : placeB r = true := by
  unfold placeB
  rw [decide_eq_true h0, decide_eq_true h1]
  rfl
theorem place_iff {r : Int} (h : placeB r = true) : 0 ≤ r ∧ r ≤ lastP := by
  unfold placeB at h
  simp only [Bool.and_eq_true, decide_eq_true_eq] at h
  exact h
theorem okRow_of {a b : Int} (h0 : 0 ≤ a) (h1 : a ≤ b) (h2 : b ≤ lastP) : okRow (a, b) = true := by
  unfold okRow
  rw [place_of (r := a) h0 (Int.le_trans h1 h2), place_of (r := b) (Int.le_trans h0 h1) h2, Bool.true_and, Bool.true_and]
  exact decide_eq_true h1
theorem okRow_iff {r : Row} (h : okRow r = true) : 0 ≤ r.1 ∧ r.1 ≤ r.2 ∧ r.2 ≤ lastP := by
  unfold okRow at h
  rw [Bool.and_eq_true, Bool.and_eq_true, decide_eq_true_eq] at h
  exact ⟨(place_iff h.1).1, h.2.2, (place_iff h.2.1).2⟩
structure Bd (mg : Str → Option Value) : Prop where
  range : mg "range" = none
  min : mg "min" = none
  max : mg "max" = none
  int : mg "int" = none
  len : mg "len" = none
  list : mg "list" = none
  set : mg "set" = none
  sorted : mg "sorted" = none
section
variable {P : Program} {w : World} {K : PySem.W.Frag} {mg : Str → Option Value} {base : Heap}
theorem scSpot : FnScope ["_law_pen_here", "_law_way"] ["_law_pen_here"] (defScope sSpot) := ⟨rfl, rfl, rfl, by decide +kernel, rfl, by decide +kernel, by decide +kernel⟩
theorem ok_spot {f : Addr} {fd : FuncData} (F : Fun K "_law_spot" "_law_spot" sSpot f fd) (D : Cl P w K mg base 1 "_law_draw" ["_law_pen_here", "_law_many"] spDraw) : FnOk P w K mg base CX0 2 f fd ["_law_pen_here"] spSpot := by
  refine F.ok scSpot (fun vs H Q E h => ?_) (fun cdv A outer s H vs Q E hr h => ?_)
  · obtain ⟨p, n, rfl, _⟩ := h
    rfl
  · obtain ⟨p, n, rfl, hP, hn, q⟩ := h
    have nd := scSpot.nd
    refine ⟨_, pss_cons (ps_set (i := 1) nd rfl (.inl rfl) (pe_cl D hr (by decide) (by rfl) (pa_cons (pv 0) (pa_cons pe_int pa_nil))))
      (pss_cons (ps_if (pt_cmpR op_lt (pv 1) pe_int (nomark _)) (pss_one (ps_ret (pe_cl D hr (by decide) (by rfl) (pa_cons (pv 0) (pa_cons (pe_ix ix_list (pe_lst (pa_cons pe_int (pa_cons pe_int pa_nil))) (pv 1) (fun _ _ => rfl)) pa_nil))))) pss_nil)
      (pss_cons (ps_if (pt_cmpR op_eq (pv 1) pe_int (nomark _)) (pss_one (ps_ret (pe_cl D hr (by decide) (by rfl) (pa_cons (pv 0) (pa_cons (pe_op op_add (pe_op op_pow pe_int pe_int) pe_int) pa_nil))))) pss_nil)
      (pss_one (ps_ret (pe_ifExp (pt_cmpR op_eq (pv 1) pe_int (nomark _)) (pe_op op_sub (pe_op op_pow pe_int pe_int) (pe_cl D hr (by decide) (by rfl) (pa_cons (pv 0) (pa_cons pe_int pa_nil))))
        (pe_op op_add (pe_op op_pow pe_int pe_int) (pe_cl D hr (by decide) (by rfl) (pa_cons (pv 0) (pa_cons pe_int pa_nil))))))))), ?_⟩
    have hpow : CPow 10 30 := ⟨by decide, by decide, by decide⟩
    have hpow15 : CPow 10 15 := ⟨by decide, by decide, by decide⟩
    have eL : lastP = 10 ^ 30 := rfl
    refine ⟨_, rfl, p, 5, n, rfl, by decide, by decide, hP, by omega, fun way H1 w0 w5 P1 F1 => ?_⟩
    refine ⟨_, rfl, _, _, rfl, rfl, _, rfl, ite2 (fun c => ?_) (fun _ => ?_)⟩
    · have hw : way < 2 := of_decide_eq_true c
      refine ⟨_, rfl, by show 2 ≤ sizeLine; decide, fun l hl => ?_⟩
      obtain ⟨m, hm, hm0, hm1⟩ : ∃ m : Int, atI [V.int 9, V.int 60] way = some (.int m) ∧ 0 < m ∧ m ≤ 60 := by
        have : way = 0 ∨ way = 1 := by omega
        rcases this with e | e <;> subst e
        · exact ⟨9, atI_nat (j := 0) rfl, by decide, by decide⟩
        · exact ⟨60, atI_nat (j := 1) rfl, by decide, by decide⟩
      have hmb : m.natAbs < 2 ^ 200 := Nat.lt_of_le_of_lt (show m.natAbs ≤ 60 by omega) (by decide)
      refine ⟨_, rfl, l, _, way, _, rfl, rfl, .inl (.inl upd_same), hm, p, m, n + 1, rfl, hm0, hmb, P1.new hl, by omega, fun r H2 r0 r1 P2 F2 => ?_⟩
      exact q r H2 (place_of r0 (by rw [eL]; omega)) P2 (F1.trans ((Frm.new hl).trans F2))
    refine ⟨_, rfl, rfl, _, rfl, ite2 (fun _ => ?_) (fun _ => ?_)⟩
    · refine ⟨_, rfl, _, _, rfl, rfl, hpow, _, _, rfl, rfl, p, _, n + 1, rfl, by decide, by decide, P1, by omega, fun r H2 r0 r1 P2 F2 => ?_⟩
      have r1' : r < 10 ^ 30 + 1 := r1
      exact q r H2 (place_of r0 (by rw [eL]; omega)) P2 (F1.trans F2)
    refine ⟨_, rfl, rfl, _, rfl, ite2 (fun _ => ?_) (fun _ => ?_)⟩
    · refine ⟨_, _, rfl, rfl, hpow, _, rfl, p, 9, n + 1, rfl, by decide, by decide, P1, by omega, fun r H2 r0 r1 P2 F2 => ⟨_, _, rfl, rfl, ?_⟩⟩
      refine q _ H2 (place_of ?_ ?_) P2 (F1.trans F2)
      · show (0 : Int) ≤ 10 ^ 30 - r
        omega
      · show (10 : Int) ^ 30 - r ≤ 10 ^ 30
        omega
    · refine ⟨_, _, rfl, rfl, hpow15, _, rfl, p, 99, n + 1, rfl, by decide, by decide, P1, by omega, fun r H2 r0 r1 P2 F2 => ⟨_, _, rfl, rfl, ?_⟩⟩
      refine q _ H2 (place_of ?_ ?_) P2 (F1.trans F2)
      · show (0 : Int) ≤ 10 ^ 15 + r
        omega
      · show (10 : Int) ^ 15 + r ≤ 10 ^ 30
        omega
theorem scDn : FnScope ["_law_pen_here", "_law_most", "_law_found", "_law_k", "_law_first", "_law_size"] ["_law_pen_here", "_law_most"] (defScope sDrawn) := ⟨rfl, rfl, rfl, by decide +kernel, rfl, by decide +kernel, by decide +kernel⟩
theorem ok_drawn {f : Addr} {fd : FuncData} (F : Fun K "_law_drawn" "_law_drawn" sDrawn f fd) (B : Bd mg) (D : Cl P w K mg base 1 "_law_draw" ["_law_pen_here", "_law_many"] spDraw) (C : Cl P w K mg base 2 "_law_pick" ["_law_pen_here", "_law_items"] (spPick K))
    (S : Cl P w K mg base 2 "_law_spot" ["_law_pen_here"] spSpot) : FnOk P w K mg base CX0 3 f fd ["_law_pen_here", "_law_most"] spDrawn := by
  refine F.ok scDn (fun vs H Q E h => ?_) (fun cdv A outer s H vs Q E hr h => ?_)
  · obtain ⟨p, m, n, rfl, _⟩ := h
    rfl
  · obtain ⟨p, m, n, rfl, hm, hP, hn, q⟩ := h
    have nd := scDn.nd
    have hu64 : (A.deeper (envOfC "_law_drawn" (defScope sDrawn) s.heap.objs.size f cdv)).units + 64 < cLine := hr.units
    refine ⟨_, pss_cons (ps_set (i := 2) nd rfl (.inl rfl) (pe_lst pa_nil))
      (pss_cons (ps_for PassesOwn.never rfl (pi_range1 (by rfl) B.range (pa_cons (pe_cl D hr (by decide) (by rfl) (pa_cons (pv 0) (pa_cons (pe_op op_add (pv 1) pe_int) pa_nil))) pa_nil)) (pg_name (i := 3) nd rfl (.inl rfl))
        (pss_cons (ps_set (i := 4) nd rfl (.inl rfl) (pe_cl S hr (by decide) (by rfl) (pa_cons (pv 0) pa_nil)))
        (Evl.pss_cut (ps_if (PW.pt (pw_and (pt_cmpR (op_neD hu64) (pv 2) (pe_lst pa_nil) (nomark _)) (pw_and1 (pt_cmpR op_eq (pe_cl D hr (by decide) (by rfl) (pa_cons (pv 0) (pa_cons pe_int pa_nil))) pe_int (nomark _)))))
          (pss_one (ps_set (i := 4) nd rfl (.inl rfl) (pe_callB (call_min2 rfl) (by rfl) B.min bt_min (pa_cons (pe_op op_pow pe_int pe_int) (pa_cons (pe_callTy call_int1 (by rfl) B.int bt_int (pa_cons
            (pe_op op_add (pe_ix ix_tup (pe_cl C hr (by decide) (by rfl) (pa_cons (pv 0) (pa_cons (pv 2) pa_nil))) pe_int (fun _ _ => rfl)) (pe_cl C hr (by decide) (by rfl) (pa_cons (pv 0) (pa_cons (pe_lst (pa_cons pe_int (pa_cons pe_int (pa_cons pe_int (pa_cons pe_int (pa_cons pe_int pa_nil)))))) pa_nil)))) pa_nil)) pa_nil))))) pss_nil)
        (pss_cons (ps_set (i := 5) nd rfl (.inl rfl) (pe_cl C hr (by decide) (by rfl) (pa_cons (pv 0) (pa_cons (pe_lst (pa_cons pe_int (pa_cons pe_int (pa_cons pe_int (pa_cons pe_int (pa_cons (pe_cl D hr (by decide) (by rfl) (pa_cons (pv 0) (pa_cons pe_int pa_nil)))
            (pa_cons (pe_cl D hr (by decide) (by rfl) (pa_cons (pv 0) (pa_cons (pe_op op_pow pe_int pe_int) pa_nil))) pa_nil))))))) pa_nil))))
        (pss_one (ps_expr (pe_bm PySem.F.plainAttrs_list PySem.F.slot_list_append PySem.F.type_list_append mt_append (pv 2) (pa_cons (pe_tup (pa_cons (pv 4) (pa_cons (pe_callB (call_min2 rfl) (by rfl) B.min bt_min (pa_cons (pe_op op_pow pe_int pe_int)
            (pa_cons (pe_callTy call_int1 (by rfl) B.int bt_int (pa_cons (pe_op op_add (pv 4) (pv 5)) pa_nil)) pa_nil))) pa_nil))) pa_nil))))))))
      (pss_one (ps_ret (pv 2)))), ?_⟩
    have hpow : CPow 10 30 := ⟨by decide, by decide, by decide⟩
    have eL : lastP = 10 ^ 30 := rfl
    obtain ⟨c0, hc0, hcn⟩ := hP.cells
    refine ⟨Nat.zero_le _, fun a0 na => ?_⟩
    have nca0 : c0 ≠ a0 := fun e => hcn (by rw [e]; exact na)
    have P0 := hP.new (o := .lst []) na
    refine ⟨_, rfl, _, rfl, _, _, rfl, rfl, p, _, n, rfl, by omega, Nat.lt_of_le_of_lt (show ((m : Int) + 1).natAbs ≤ 21 by omega) (by decide), P0, by omega, fun r H1 r0 r1 P1 F1 => ?_⟩
    have a1 : H1 a0 = some (.lst []) := F1.lst P0 upd_same
    refine ⟨r, rfl, by omega, by omega, for_range (n := r.toNat) (fun i σ H' => ∃ s3 s4 s5, ∃ L : List ARow, σ = [some (.ref p), some (.int m), some (.ref a0), s3, s4, s5] ∧ H' a0 = some (.lst (refs L)) ∧ AtR H' L ∧ (∀ r ∈ rws L, okRow r = true) ∧ L.length = i ∧ Pen H' p (n + 1 + 20 * i) ∧ Frm p H H')
      ⟨none, none, none, [], rfl, a1, (fun _ z => nomatch z), (fun _ z => nomatch z), rfl, P1, (Frm.new na).trans F1⟩ ?_ ?_⟩
    · rintro i σ H' hi ⟨s3, s4, s5, L, rfl, ha, hA, hok, hlen, hPn, hF⟩
      have hi20 : i < 20 := by omega
      -- first
      refine ⟨_, rfl, p, _, rfl, hPn, by omega, fun fst H2 hf P2 F2 => ?_⟩
      have ha2 : H2 a0 = some (.lst (refs L)) := F2.lst hPn ha
      have hA2 := hA.frm F2 hPn
      have hF2 := hF.trans F2
      refine ⟨fun σ'' H'' => ∃ fst : Int, σ'' = [some (.ref p), some (.int m), some (.ref a0), some (.int (0 + i)), some (.int fst), s5] ∧ placeB fst = true ∧ H'' a0 = some (.lst (refs L)) ∧ AtR H'' L ∧ Pen H'' p (n + 1 + 20 * i + 5) ∧ Frm p H H'', ?_, ?_⟩
      · refine ⟨_, rfl, Nat.zero_le _, fun e he => ?_⟩
        have se := same_lay (o := .lst []) he
        have ha3 := se _ _ ha2
        have hA3 := hA2.same se
        have P3 := P2.same' se
        have hF3 := hF2.trans (frmS se)
        refine ⟨.list ((rws L).map rowD), .list [], .lst (.inl (.inl ha3)) (dp_rows hA3), .lst (.inl (.inl upd_same)) .nil, shp_lst _, rfl, _, rfl, ?_⟩
        refine ite2 (fun hne => ?_) (fun _ => iteF ⟨fst, rfl, hf, ha3, hA3, P3.mono (by omega), hF3⟩)
        have hL0 : 0 < L.length := by
          cases L with
          | nil => exact absurd hne (by decide)
          | cons _ _ => exact Nat.succ_pos _
        refine ⟨_, rfl, p, 2, _, rfl, by decide, by decide, P3, by omega, fun c H4 _ _ P4 F4 => ?_⟩
        have ha4 : H4 a0 = some (.lst (refs L)) := F4.lst P3 ha3
        have hA4 := hA3.frm F4 P3
        have hF4 := hF3.trans F4
        refine ⟨rfl, _, rfl, ite2 (fun _ => ?_) (fun _ => ⟨fst, rfl, hf, ha4, hA4, P4.mono (by omega), hF4⟩)⟩
        refine ⟨_, _, rfl, rfl, hpow, _, rfl, _, rfl, p, a0, refs L, _, rfl, .inl (.inl ha4), by rw [refs_len]; exact hL0, by rw [refs_len]; omega, P4, by omega, fun v H5 hv P5 F5 => ?_⟩
        obtain ⟨z, hz, rfl⟩ := List.mem_map.mp hv
        have ha5 : H5 a0 = some (.lst (refs L)) := F5.lst P4 ha4
        have hA5 := hA4.frm F5 P4
        have okz := okRow_iff (hok z.2 (mem_rws.mpr ⟨z.1, hz⟩))
        refine ⟨z.1, _, 1, .int z.2.2, rfl, rfl, .inl (.inl (hA5 z hz)), atI_nat (j := 1) rfl, _, rfl, by show 5 ≤ sizeLine; decide, fun l2 hl2 => ?_⟩
        refine ⟨p, l2, _, _, rfl, .inl (.inl upd_same), by show 0 < 5; decide, by show 5 ≤ 1000; decide, P5.new hl2, by omega, fun v2 H6 hv2 P6 F6 => ?_⟩
        obtain ⟨j, rfl, hj0, hj1⟩ : ∃ j : Int, v2 = .int j ∧ 0 ≤ j ∧ j ≤ 3 := by
          simp only [List.mem_cons, List.not_mem_nil, or_false] at hv2
          rcases hv2 with e | e | e | e | e <;> subst e <;> exact ⟨_, rfl, by decide, by decide⟩
        have s2 := same_lay (o := .lst [.int 0, .int 1, .int 1, .int 2, .int 3]) hl2
        have ha6 : H6 a0 = some (.lst (refs L)) := F6.lst (P5.new hl2) (s2 _ _ ha5)
        refine ⟨_, _, rfl, rfl, .inl ⟨_, rfl, _, _, rfl, ?_⟩⟩
        refine ⟨_, rfl, place_of ?_ ?_, ha6, (hA5.same s2).frm F6 (P5.new hl2), P6.mono (by omega), ((hF4.trans F5).trans (frmS s2)).trans F6⟩
        · show (0 : Int) ≤ (if z.2.2 + j < 10 ^ 30 then z.2.2 + j else 10 ^ 30)
          split <;> omega
        · show (if z.2.2 + j < 10 ^ 30 then z.2.2 + j else 10 ^ 30) ≤ (10 : Int) ^ 30
          split <;> omega
      clear hf ha2 hA2 hF2 F2 P2
      rintro σ'' H3 ⟨fst, rfl, hf, ha3, hA3, P3, hF3⟩
      -- size
      refine ⟨_, rfl, _, rfl, p, 9, _, rfl, by decide, by decide, P3, by omega, fun r1 H4 h10 _ P4 F4 => ?_⟩
      refine ⟨_, rfl, _, _, rfl, rfl, hpow, p, _, _, rfl, by decide, by decide, P4, by omega, fun r2 H5 h20 _ P5 F5 => ?_⟩
      refine ⟨by show 6 ≤ sizeLine; decide, fun l hl => ?_⟩
      refine ⟨p, l, _, _, rfl, .inl (.inl upd_same), by show 0 < 6; decide, by show 6 ≤ 1000; decide, P5.new hl, by omega, fun v H6 hv P6 F6 => ?_⟩
      obtain ⟨sz, rfl, hsz⟩ : ∃ sz : Int, v = .int sz ∧ 0 ≤ sz := by
        simp only [List.mem_cons, List.not_mem_nil, or_false] at hv
        rcases hv with e | e | e | e | e | e <;> subst e <;> exact ⟨_, rfl, by omega⟩
      have sl := same_lay (o := .lst [.int 0, .int 0, .int 1, .int 2, .int r1, .int r2]) hl
      have FF : Frm p H3 H6 := ((F4.trans F5).trans (frmS sl)).trans F6
      have ha6 : H6 a0 = some (.lst (refs L)) := FF.lst P3 ha3
      have hA6 := hA3.frm FF P3
      have hf2 := place_iff hf
      have hfe : fst ≤ 10 ^ 30 := hf2.2
      refine ⟨_, rfl, .inl ⟨rfl, _, .inl (.inl ha6)⟩, _, rfl, _, _, rfl, rfl, hpow, _, rfl, _, rfl, _, _, rfl, rfl, .inl ⟨_, rfl, _, _, rfl, by show 2 ≤ sizeLine; decide, fun T hT => ?_⟩⟩
      have sT := same_lay (o := .tup [.int fst, .int (if fst + sz < 10 ^ (30 : Int).toNat then fst + sz else 10 ^ (30 : Int).toNat)]) hT
      have nTa : T ≠ a0 := by
        intro e
        rw [e, ha6] at hT
        cases hT
      refine ⟨a0, _, _, rfl, rfl, sT _ _ ha6, small1000 (by rw [refs_len]; omega), ?_⟩
      have nLa : ∀ q ∈ L, q.1 ≠ a0 := fun q hq => ne_of (hA6 q hq) ha6 (by intro z; cases z)
      refine ⟨_, _, _, L ++ [(T, (fst, if fst + sz < 10 ^ (30 : Int).toNat then fst + sz else 10 ^ (30 : Int).toNat))], rfl, by rw [upd_same, refs_snoc], ?_, ?_, by rw [List.length_append, hlen]; rfl, ?_, ?_⟩
      · intro q hq
        rcases List.mem_append.mp hq with k | k
        · rw [upd_ne (nLa q k)]; exact sT _ _ (hA6 q k)
        · rw [List.mem_singleton.mp k, upd_ne nTa, upd_same]
      · intro x hx
        rw [rws_snoc] at hx
        rcases List.mem_append.mp hx with k | k
        · exact hok x k
        · rw [List.mem_singleton.mp k]
          refine okRow_of hf2.1 ?_ ?_
          · show fst ≤ (if fst + sz < 10 ^ 30 then fst + sz else 10 ^ 30)
            split <;> omega
          · show (if fst + sz < 10 ^ 30 then fst + sz else 10 ^ 30) ≤ (10 : Int) ^ 30
            split <;> omega
      · exact ((P6.same' sT).put (((hF3.trans FF).trans (frmS sT)).ce c0 hc0) (sT _ _ ha6) nca0).mono (by omega)
      · refine ⟨fun b o e nb => ?_, fun c hc => ?_⟩
        · rw [upd_ne (ne_of_none e na)]
          exact sT _ _ (FF _ _ (hF3 _ _ e nb) nb)
        · obtain ⟨k, l', e⟩ := ((hF3.trans FF).trans (frmS sT)).ce c hc
          exact ⟨k, l', by rw [upd_ne (ne_of e (sT _ _ ha6) (by intro z; cases z))]; exact e⟩
    · rintro σ H' ⟨s3, s4, s5, L, rfl, ha, hA, hok, hl, hPn, hF⟩
      exact ⟨_, rfl, q a0 L H' na ha hA hok (by omega) (hPn.mono (by omega)) hF⟩
end
end OR

namespace OR
open PySem PySem.Spec PyProof.Rows L2
/-! ### the law's own merging -/
theorem bt_set : bootBuiltins ("set" : Str) = some (.type "set") := by decide +kernel
theorem ok_of_mem {l m : List Row} (hn : Nf m) (h : ∀ x, mem m x ↔ mem l x) (hl : ∀ r ∈ l, okRow r = true) : ∀ r ∈ m, okRow r = true := fun r hr => by
  have hle := hn.ok r hr
  obtain ⟨q1, hq1, a1, b1⟩ := (h r.1).mp ⟨r, hr, Int.le_refl _, hle⟩
  obtain ⟨q2, hq2, a2, b2⟩ := (h r.2).mp ⟨r, hr, hle, Int.le_refl _⟩
  have o1 := okRow_iff (hl q1 hq1)
  have o2 := okRow_iff (hl q2 hq2)
  exact okRow_of (a := r.1) (b := r.2) (by omega) hle (by omega)
theorem call_setO {X : Cx} (K : PySem.W.Frag) (P : Program) (w : World) (hK : X.K = K) (hP : X.prog = P) (hw : X.w = w) (hc : X.calm = true) (hu : X.A.units + 64 < cLine) : CallR X (.type "set") (rSetOfT K P w) := by
  subst hK hP hw
  exact cr_setOfT hc hu
def spMerged (K : PySem.W.Frag) : Sp := fun vs H Q _ => ∃ (a : Addr) (L : List ARow), vs = [.ref a] ∧ SqL K H a (refs L) ∧ AtR H L ∧ (∀ r ∈ rws L, okRow r = true) ∧ L.length < 64 ∧
  ∀ (o : Addr) (M : List ARow) (H' : Hp), Same H H' → H o = none → H' o = some (.lst (refs M)) → AtR H' M → Nf (rws M) → (∀ x, mem (rws M) x ↔ mem (rws L) x) → M.length < 64 → Q (.ref o) H'
/-- an arrangement of some of the rows, as lists of integers -/
def ilist (L : List ARow) : List (Addr × List Int) := L.map fun p => (p.1, [p.2.1, p.2.2])
theorem refs_ilist (L : List ARow) : (ilist L).map (fun p => V.ref p.1) = refs L := by
  unfold ilist refs
  rw [List.map_map]
  rfl
theorem of_ilist : ∀ {L' : List (Addr × List Int)} {L : List ARow}, (∀ q ∈ L', q ∈ ilist L) → ∃ S : List ARow, L' = ilist S ∧ ∀ p ∈ S, p ∈ L
  | [], _, _ => ⟨[], rfl, fun _ z => nomatch z⟩
  | q :: L', L, h => by
    obtain ⟨S, e, hS⟩ := of_ilist (L' := L') (L := L) fun z hz => h z (List.mem_cons_of_mem _ hz)
    have hq := h q List.mem_cons_self
    unfold ilist at hq
    obtain ⟨p, hp, rfl⟩ := List.mem_map.mp hq
    refine ⟨p :: S, by rw [e]; rfl, fun z hz => ?_⟩
    rcases List.mem_cons.mp hz with k | k
    · rw [k]; exact hp
    · exact hS z k
theorem bd_row {r : Row} (h : okRow r = true) : TS.Bd (lastP + 1) [r.1, r.2] := fun m hm => by
  have o := okRow_iff h
  simp only [List.mem_cons, List.not_mem_nil, or_false] at hm
  rcases hm with rfl | rfl <;> constructor <;> omega
section
variable {P : Program} {w : World} {K : PySem.W.Frag} {mg : Str → Option Value} {base : Heap}
theorem scMg : FnScope ["_law_rows", "_law_found", "_law_first", "_law_last", "_law_before"] ["_law_rows"] (defScope sMerged) := ⟨rfl, rfl, rfl, by decide +kernel, rfl, by decide +kernel, by decide +kernel⟩
theorem ok_merged {f : Addr} {fd : FuncData} (F : Fun K "_law_merged" "_law_merged" sMerged f fd) (B : Bd mg) : FnOk P w K mg base CX0 1 f fd ["_law_rows"] (spMerged K) := by
  refine F.ok scMg (fun vs H Q E h => ?_) (fun cdv A outer s H vs Q E hr h => ?_)
  · obtain ⟨a, L, rfl, _⟩ := h
    rfl
  · obtain ⟨a, L, rfl, hS, hA0, hok, hlen, q⟩ := h
    have nd := scMg.nd
    have hu64 : (A.deeper (envOfC "_law_merged" (defScope sMerged) s.heap.objs.size f cdv)).units + 64 < cLine := hr.units
    refine ⟨_, pss_cons (ps_set (i := 1) nd rfl (.inl rfl) (pe_lst pa_nil))
      (pss_cons (ps_for PassesOwn.never rfl (pi_list (pe_callB (cr_sortedT rfl) (by rfl) B.sorted bt_sorted (pa_cons (pe_callTy (call_setO K P w rfl rfl rfl rfl hu64) (by rfl) B.set bt_set (pa_cons (pv 0) pa_nil)) pa_nil)))
          (pg_tup rfl (pgs_cons (pg_name (i := 2) nd rfl (.inl rfl)) (pgs_cons (pg_name (i := 3) nd rfl (.inl rfl)) pgs_nil)))
        (pss_one (ps_if (PW.pt (pw_and (pt_cmpR (op_neD hu64) (pv 1) (pe_lst pa_nil) (nomark _)) (pw_and1 (pt_cmpR op_le (pv 2) (pe_op op_add (pe_ix ix_tup (pe_ix ix_list (pv 1) (pe_un un_neg pe_int) (fun _ _ => rfl)) pe_int (fun _ _ => rfl)) pe_int) (nomark _)))))
          (pss_cons (ps_set (i := 4) nd rfl (.inl rfl) (pe_bm0 PySem.F.plainAttrs_list PySem.F.slot_list_pop PySem.F.type_list_pop mt_pop (pv 1)))
          (pss_one (ps_expr (pe_bm PySem.F.plainAttrs_list PySem.F.slot_list_append PySem.F.type_list_append mt_append (pv 1) (pa_cons (pe_tup (pa_cons (pe_ix ix_tup (pv 4) pe_int (fun _ _ => rfl))
              (pa_cons (pe_callB (call_max2 rfl) (by rfl) B.max bt_max (pa_cons (pe_callTy call_int1 (by rfl) B.int bt_int (pa_cons (pe_ix ix_tup (pv 4) pe_int (fun _ _ => rfl)) pa_nil)) (pa_cons (pe_callTy call_int1 (by rfl) B.int bt_int (pa_cons (pv 3) pa_nil)) pa_nil))) pa_nil))) pa_nil)))))
          (pss_one (ps_expr (pe_bm PySem.F.plainAttrs_list PySem.F.slot_list_append PySem.F.type_list_append mt_append (pv 1) (pa_cons (pe_tup (pa_cons (pv 2) (pa_cons (pv 3) pa_nil))) pa_nil)))))))
      (pss_one (ps_ret (pv 1)))), ?_⟩
    refine ⟨Nat.zero_le _, fun o no => ?_⟩
    have S1 := same_lay (o := .lst []) no
    have hA1 := hA0.same S1
    refine ⟨_, rfl, a, ilist L, rfl, by rw [refs_ilist]; exact S1.seq hS, fun p hp => ?_, by unfold ilist; rw [List.length_map]; exact hlen, fun u L1 nu h1 h2 => ?_⟩
    · unfold ilist at hp
      obtain ⟨z, hz, rfl⟩ := List.mem_map.mp hp
      exact .inl (.inl (hA1 z hz))
    have S2 := S1.trans (same_lay (o := SetTO P w u L1) nu)
    have hA2 := hA0.same S2
    obtain ⟨Z, rfl, hZ⟩ := of_ilist h1
    refine ⟨u, ilist Z, 2, lastP + 1, rfl, upd_same, fun p hp => ?_, by decide, fun p hp => ?_, fun L' d hperm hnd hlt hsort nd2 => ?_⟩
    · unfold ilist at hp
      obtain ⟨z, hz, rfl⟩ := List.mem_map.mp hp
      exact .inl (.inl (hA2 z (hZ z hz)))
    · unfold ilist at hp
      obtain ⟨z, hz, rfl⟩ := List.mem_map.mp hp
      exact ⟨rfl, bd_row (hok z.2 (mem_rws.mpr ⟨z.1, hZ z hz⟩))⟩
    obtain ⟨S, rfl, hSL⟩ := of_ilist (L := L) fun y hy => h1 y (hperm.mem_iff.mp hy)
    have S3 := S2.trans (same_lay (o := .lst ((ilist S).map fun q => V.ref q.1)) nd2)
    have hSA : AtR (upd (upd (upd H o (.lst [])) u (SetTO P w u (ilist Z))) d (.lst ((ilist S).map fun q => V.ref q.1))) S := fun p hp => S3 _ _ (hA0 p (hSL p hp))
    have hSlen : S.length < 64 := by
      unfold ilist at hlt
      rw [List.length_map] at hlt
      exact hlt
    have hSm : ∀ r, r ∈ rws S ↔ r ∈ rws L := fun r => by
      constructor
      · intro hr
        obtain ⟨a', ha'⟩ := mem_rws.mp hr
        exact mem_rws.mpr ⟨a', hSL _ ha'⟩
      · intro hr
        obtain ⟨a', ha'⟩ := mem_rws.mp hr
        have k1 := h2 (a', [r.1, r.2]) (by unfold ilist; exact List.mem_map.mpr ⟨(a', r), ha', rfl⟩)
        obtain ⟨y, hy, e⟩ := List.mem_map.mp k1
        have hy2 := hperm.mem_iff.mpr hy
        unfold ilist at hy2
        obtain ⟨z, hz, rfl⟩ := List.mem_map.mp hy2
        injection e with e1 e2
        injection e2 with e2 _
        exact mem_rws.mpr ⟨z.1, by rw [← Prod.ext e1 e2]; exact hz⟩
    have hso : (rws S).Pairwise fun r s => r.1 ≤ s.1 := by
      unfold ilist at hsort
      have := List.pairwise_map.mp hsort
      unfold rws
      refine List.pairwise_map.mpr (List.Pairwise.imp_of_mem (fun {x y} hx hy hxy => ?_) this)
      exact code_first (bd_row (hok x.2 ((hSm x.2).mp (mem_rws.mpr ⟨x.1, hx⟩)))) (bd_row (hok y.2 ((hSm y.2).mp (mem_rws.mpr ⟨y.1, hy⟩)))) hxy
    have hSok : ∀ r ∈ rws S, r.1 ≤ r.2 := fun r hr => okRow_le (hok r ((hSm r).mp hr))
    obtain ⟨hnf, hme⟩ := jfold_ok hSok hso
    rw [refs_ilist] at S3 hSA ⊢
    generalize hH5 : upd (upd (upd H o (.lst [])) u (SetTO P w u (ilist Z))) d (.lst (refs S)) = H5
    rw [hH5] at S3 hSA
    have nuo : o ≠ u := ne_of_none upd_same nu
    have nod : o ≠ d := by
      intro e
      rw [← e, upd_ne nuo, upd_same] at nd2
      cases nd2
    have ho5 : H5 o = some (.lst []) := by rw [← hH5, upd_ne nod, upd_ne nuo, upd_same]
    have hd5 : H5 d = some (.lst (refs S)) := by rw [← hH5, upd_same]
    have two : 2 ≤ sizeLine := by decide
    refine ⟨d, rfl, ⟨_, .inl (.inl hd5)⟩, for_list (K := K) (a := d) (xs := refs S) (fun i σ H' => ∃ f l b, ∃ A : List ARow, σ = [some (.ref a), some (.ref o), f, l, b] ∧ H' o = some (.lst (refs A)) ∧ AtR H' A ∧ rws A = (((rws S).take i).foldl jstep []).reverse ∧ Fre o H5 H' ∧ A.length ≤ i)
      ⟨none, none, none, [], rfl, ho5, (fun _ z => nomatch z), rfl, Fre.refl _ _, Nat.le_refl _⟩ (fun i σ H' _ ⟨_, _, _, _, _, _, _, _, fr, _⟩ => .inl (.inl (fr _ _ hd5 nod.symm))) ?_ ?_⟩
    · rintro i y σ H' hy ⟨f, l, b, A, rfl, hoA, hA, eA, fr, hAl⟩
      obtain ⟨z, hz, hzS, rfl⟩ := refs_get hy
      have hil : i < S.length := (List.getElem?_eq_some_iff.mp hz).1
      have ez : H' z.1 = some (.tup [.int z.2.1, .int z.2.2]) := fr _ _ (hSA z hzS) (ne_of (hSA z hzS) ho5 (by intro q; cases q))
      have e1 : ((rws S).take (i + 1)).foldl jstep [] = jstep (((rws S).take i).foldl jstep []) z.2 := by
        rw [List.take_add_one, rws_get hz, List.foldl_append]
        rfl
      have nAo : ∀ q ∈ A, q.1 ≠ o := fun q hq => ne_of (hA q hq) hoA (by intro w; cases w)
      refine ⟨z.1, _, rfl, .inl (.inl ez), rfl, _, _, rfl, _, _, rfl, rfl, ?_⟩
      -- found != []
      refine ⟨_, rfl, Nat.zero_le _, fun v hv => ?_⟩
      have sv := same_lay (o := .lst []) hv
      have hoV := sv _ _ hoA
      have hAV := hA.same sv
      have frV : Fre o H5 (upd H' v (.lst [])) := fr.trans fun b u e _ => sv b u e
      refine ⟨.list ((rws A).map rowD), .list [], .lst (.inl (.inl hoV)) (dp_rows hAV), .lst (.inl (.inl upd_same)) .nil, shp_lst _, rfl, _, rfl, ?_⟩
      generalize hHv : upd H' v (.lst []) = Hv
      rw [hHv] at hoV hAV frV
      have nAv : ∀ q ∈ A, q.1 ≠ o := nAo
      have alen : (refs A).length < sizeLine := small1000 (by rw [refs_len]; omega)
      have app : ∀ (b' : Option V) (_ : jstep (((rws S).take i).foldl jstep []) z.2 = z.2 :: ((rws S).take i).foldl jstep []) (T : Addr), Hv T = none →
          ∃ f' l' b'', ∃ A' : List ARow, [some (V.ref a), some (.ref o), some (.int z.2.1), some (.int z.2.2), b'] = [some (.ref a), some (.ref o), f', l', b''] ∧ (upd (upd Hv T (.tup [.int z.2.1, .int z.2.2])) o (.lst (refs A ++ [.ref T]))) o = some (.lst (refs A')) ∧ AtR (upd (upd Hv T (.tup [.int z.2.1, .int z.2.2])) o (.lst (refs A ++ [.ref T]))) A' ∧
            rws A' = (((rws S).take (i + 1)).foldl jstep []).reverse ∧ Fre o H5 (upd (upd Hv T (.tup [.int z.2.1, .int z.2.2])) o (.lst (refs A ++ [.ref T]))) ∧ A'.length ≤ i + 1 := by
        intro b' hj Tn hT
        have s4 := same_lay (o := .tup [.int z.2.1, .int z.2.2]) hT
        have noT : Tn ≠ o := by
          intro e
          rw [e, hoV] at hT
          cases hT
        refine ⟨_, _, _, A ++ [(Tn, z.2)], rfl, by rw [upd_same, refs_snoc], ?_, ?_, (frV.trans (fun b u e _ => s4 b u e)).trans Fre.put, by rw [List.length_append]; exact Nat.succ_le_succ hAl⟩
        · intro q hq
          rcases List.mem_append.mp hq with k | k
          · rw [upd_ne (nAo q k)]; exact s4 _ _ (hAV q k)
          · rw [List.mem_singleton.mp k, upd_ne noT, upd_same]
        · rw [rws_snoc, eA, e1, hj, List.reverse_cons]
      cases hacc : ((rws S).take i).foldl jstep [] with
      | nil =>
        have eA0 : A = [] := by
          rw [hacc] at eA
          exact List.map_eq_nil_iff.mp eA
        refine ite2 (fun k => ?_) (fun _ => iteF ?_)
        · rw [eA0] at k
          exact absurd k (by decide)
        · refine ⟨_, rfl, .inl ⟨rfl, _, .inl (.inl hoV)⟩, _, rfl, _, rfl, two, fun Tn hT => ?_⟩
          refine ⟨o, refs A, _, rfl, rfl, same_lay hT _ _ hoV, alen, ?_⟩
          exact app b (by rw [hacc]; rfl) Tn hT
      | cons q0 t0 =>
        have eA1 : rws A = t0.reverse ++ [q0] := by rw [eA, hacc, List.reverse_cons]
        obtain ⟨B', A2, rfl, eB, eA2⟩ := List.map_eq_append_iff.mp eA1
        obtain ⟨⟨aq, q1⟩, A3, rfl, eq1, eA3⟩ := List.map_eq_cons_iff.mp eA2
        obtain rfl := List.map_eq_nil_iff.mp eA3
        obtain rfl : q1 = q0 := eq1
        have haq : Hv aq = some (.tup [.int q1.1, .int q1.2]) := hAV (aq, q1) (List.mem_append_right _ (List.mem_singleton.mpr rfl))
        have hoW := hoV
        rw [refs_snoc] at hoV
        have hSo : SqL K Hv o (refs B' ++ [.ref aq]) := .inl (.inl hoV)
        have hSq : SqT K Hv aq [.int q1.1, .int q1.2] := .inl (.inl haq)
        have g0 : atI [V.int q1.1, .int q1.2] 0 = some (.int q1.1) := atI_nat (j := 0) rfl
        have g1 : atI [V.int q1.1, .int q1.2] 1 = some (.int q1.2) := atI_nat (j := 1) rfl
        have gl : atI (refs B' ++ [V.ref aq]) (-1) = some (.ref aq) := atI_last _ _
        refine ite2 (fun _ => ?_) (fun k => ?_)
        · refine ⟨_, rfl, _, rfl, 1, rfl, o, _, -1, _, rfl, rfl, hSo, gl, aq, _, 1, _, rfl, rfl, hSq, g1, _, _, rfl, rfl, _, _, rfl, rfl, _, rfl, ite2 (fun c => ?_) (fun c => ?_)⟩
          · have hc : z.2.1 ≤ q1.2 + 1 := of_decide_eq_true c
            -- before = found.pop()
            refine ⟨_, rfl, .inl ⟨rfl, _, .inl (.inl hoV)⟩, o, _, .ref aq, rfl, rfl, hoV, ?_, ?_⟩
            · rw [List.length_append, List.getElem?_append_right (by simp)]
              simp
            rw [List.dropLast_concat]
            have nqo : aq ≠ o := ne_of haq hoV (by intro w; cases w)
            have haq2 : (upd Hv o (.lst (refs B'))) aq = some (.tup [.int q1.1, .int q1.2]) := by rw [upd_ne nqo]; exact haq
            have hSq2 : SqT K (upd Hv o (.lst (refs B'))) aq [.int q1.1, .int q1.2] := .inl (.inl haq2)
            refine ⟨_, rfl, .inl ⟨rfl, _, .inl (.inl upd_same)⟩, _, rfl, aq, _, 0, _, rfl, rfl, hSq2, g0, _, rfl, aq, _, 1, _, rfl, rfl, hSq2, g1, .inl ⟨_, rfl, _, rfl, .inl ⟨_, rfl, _, _, rfl, two, fun Tn hT => ?_⟩⟩⟩
            have s4 := same_lay (o := .tup [.int q1.1, .int (if z.2.2 > q1.2 then z.2.2 else q1.2)]) hT
            have noT : Tn ≠ o := by
              intro e
              rw [e, upd_same] at hT
              cases hT
            refine ⟨o, _, _, rfl, rfl, s4 _ _ upd_same, small1000 (by rw [refs_len]; rw [List.length_append] at hAl; omega), ?_⟩
            refine ⟨_, _, _, B' ++ [(Tn, (q1.1, if z.2.2 > q1.2 then z.2.2 else q1.2))], rfl, by rw [upd_same, refs_snoc], ?_, ?_, ((frV.trans Fre.put).trans (fun b u e _ => s4 b u e)).trans Fre.put, ?_⟩
            · intro q hq
              rcases List.mem_append.mp hq with k | k
              · have nq := nAo q (List.mem_append_left _ k)
                rw [upd_ne nq]
                refine s4 _ _ ?_
                rw [upd_ne nq]
                exact hAV q (List.mem_append_left _ k)
              · rw [List.mem_singleton.mp k, upd_ne noT, upd_same]
            · rw [rws_snoc, e1, hacc]
              show rws B' ++ [(q1.1, if z.2.2 > q1.2 then z.2.2 else q1.2)] = (if z.2.1 ≤ q1.2 + 1 then (q1.1, if z.2.2 > q1.2 then z.2.2 else q1.2) :: t0 else z.2 :: q1 :: t0).reverse
              rw [if_pos hc, List.reverse_cons]
              exact congrArg (· ++ [(q1.1, if z.2.2 > q1.2 then z.2.2 else q1.2)]) eB
            · rw [List.length_append] at hAl ⊢
              exact Nat.le_succ_of_le hAl
          · have hc : ¬ z.2.1 ≤ q1.2 + 1 := fun w => c (decide_eq_true w)
            refine ⟨_, rfl, .inl ⟨rfl, _, .inl (.inl hoV)⟩, _, rfl, _, rfl, two, fun Tn hT => ?_⟩
            refine ⟨o, _, _, rfl, rfl, same_lay hT _ _ hoV, by rw [← refs_snoc]; exact alen, ?_⟩
            rw [← refs_snoc]
            refine app b ?_ Tn hT
            rw [hacc]
            show (if z.2.1 ≤ q1.2 + 1 then (q1.1, if z.2.2 > q1.2 then z.2.2 else q1.2) :: t0 else z.2 :: q1 :: t0) = z.2 :: q1 :: t0
            rw [if_neg hc]
        · exfalso
          apply k
          show (!PyData.eqvAll ((rws (B' ++ [(aq, q1)])).map rowD) []) = true
          rw [rws_snoc, List.map_append]
          cases (rws B').map rowD <;> rfl
    · rintro σ H' ⟨f, l, b, A, rfl, hoA, hA, eA, fr, hAl⟩
      rw [refs_len, List.take_of_length_le (by rw [rws_len]; exact Nat.le_refl _)] at eA
      have eN : rws A = (jfold (rws S)).reverse := eA
      have s6 : Same H H' := fun b u e => fr b u (S3 b u e) (ne_of_none e no)
      refine ⟨_, rfl, q o A H' s6 no hoA hA (by rw [eN]; exact hnf) (fun x => ?_) ?_⟩
      · rw [eN, hme x]
        exact mem_same hSm x
      · rw [refs_len] at hAl
        omega
end
end OR

namespace OR
open PySem PySem.Spec PyProof.Rows L2
/-! ### own ==, !=, bool -/
section
variable {prog : Program} {w : World} {A : Around} {E : Value → Shared → Prop} {s : Shared} {K : PySem.W.Frag} {x C L f : Addr} {h₀ : Heap} {m : Str → Option Value} {ox : Obj} {od : Option Obj} {b tb : Value}
theorem ifBound_ne {M : Model} {args : List Value} {Q : Option Value → Shared → Prop} (X : K.In s.heap) (I : PySem.W.InstAt s.heap x ox C od) (hs : PySem.W.findIn K (.ref C) "__ne__" = some (some (.builtin "object.__ne__")))
    (h : wpAny M A (call (.builtin "object.__ne__") (.ref x :: args)) (fun v => Q (some v)) E s) : wpAny M A (callSpecialIfBound? (.ref x) "__ne__" args) Q E s := by
  simp only [callSpecialIfBound?, bindSpecialIfBound?]
  refine wpAny_holding (wpAny_bind (wpAny_bind (wpAny_bind (I.type.here ((PySem.W.looks_findIn X hs).here ?_)))))
  simp only [PySem.F.cmp_object.ne.bind]
  refine wpAny_bind (wpAny_askSetting (wpAny_ite ?_))
  have fin : wpAny M A (call (.builtin "object.__ne__") ([.ref x] ++ args) >>= fun v => pure (some v)) Q E s := wpAny_bind (wpAny_mono h (fun v s' h' => wpAny_pure h') fun _ _ h' => h')
  split
  · exact wpAny_bind (wpAny_pure (wpAny_pure fin))
  · exact wpAny_tryCatch (wpAny_bind (wpAny_pure (wpAny_pure fin)))
theorem check_ne {M : Model} {Q : Unit → Shared → Prop} (X : K.In s.heap) (I : PySem.W.InstAt s.heap x ox C od) (hm : PySem.W.mroIn K C (.type "object") = some true) (hq : Q () s) :
    wpAny M A (PySem.checkBuiltinCall "object.__ne__" ⟨[.ref x, b], []⟩) Q E s := by
  have hsig : ∃ sig, Manifest.signature? "object.__ne__" = sig := ⟨_, rfl⟩
  obtain ⟨sig, hsig⟩ := hsig
  have ha := PySem.F.cmpArgs_ne (.ref x) b
  unfold argsOk at ha
  simp only [PySem.checkBuiltinCall, PySem.F.cmpKind_ne, PySem.F.cmpSplit_ne]
  refine wpAny_bind (m := PySem.isInstance _ _) ?_
  unfold PySem.isInstance
  refine wpAny_bind (I.type.here ((PySem.W.looks_mroIn X hm).here ?_))
  rw [hsig] at ha ⊢
  cases sig with
  | none => exact wpAny_pure hq
  | some sg =>
    have h2 : Bind.checkArgs "object.__ne__" sg ⟨[.ref x, b], []⟩ = pure () := ha
    show wpAny M A (Bind.checkArgs "object.__ne__" sg ⟨[.ref x, b], []⟩) Q E _
    rw [h2]; exact wpAny_pure hq
/-- x != b by the own == of x -/
theorem ne_K {Q : Value → Shared → Prop} (hu : A.units + 1 < cLine) (F : PyProof.Rows.Fr h₀ L s.heap m) (X₀ : K.In h₀) (I : PySem.W.InstAt s.heap x ox C od) (hb : PySem.W.Looks (model prog w) s.heap (typeOf b) tb) (hn : PySem.W.notFirst K C tb = true)
    (h1 : PySem.W.findIn K (.ref C) "__ne__" = some (some (.builtin "object.__ne__"))) (hm : PySem.W.mroIn K C (.type "object") = some true) (hs : PySem.W.findIn K (.ref C) "__eq__" = some (some (.ref f))) (hf : PySem.W.isFn K (.ref f) = true)
    (h : wpAny (model prog w) A.in1 (call (.ref f) [.ref x, b]) (fun v s' => ∃ k, v = .bool k ∧ Q (.bool (!k)) s') E s) : wpAny (model prog w) A (richCompare .NotEq (.ref x) b) Q E s := by
  have X := X₀.keeps F.keep
  have entry : wpAny (model prog w) A.in1 (Builtin.«object.__ne__» ⟨[.ref x, b], []⟩) (fun r s' => ∃ k, r = .done (.ret (.bool (!k))) ∧ Q (.bool (!k)) s') E s := by
    unfold Builtin.«object.__ne__»
    refine wpAny_bind (m := PySem.slotArgs "__ne__" 1 _) (wpAny_pure ?_)
    refine wpAny_bind (wpAny_cRoomFor hu ?_)
    refine wpAny_bind (m := callSpecialIfBound? (.ref x) (Str.ofString "__eq__") [b]) (PySem.W.ifBound_K X I hs hf (wpAny_mono h (fun r s' hr => ?_) fun _ _ e => e))
    obtain ⟨k, rfl, hq⟩ := hr
    refine wpAny_bind (m := truthy (.bool k)) (wpAny_truthy_bool ?_)
    exact wpAny_pure ⟨k, rfl, hq⟩
  have one : wpAny (model prog w) A (tryCompare (.ref x) "__ne__" b) (fun r s' => ∃ v, r = some v ∧ Q v s') E s := by
    unfold tryCompare
    refine wpAny_bind (ifBound_ne X I h1 (wpAny_call (codeAny_call_builtin PySem.F.cmp_object.ne.plain PySem.F.cmpEntry_ne (check_ne X I hm (wpAny_mono entry (fun r s' z => ?_) fun _ _ e => e)))))
    obtain ⟨k, rfl, hq⟩ := z
    exact wpAny_pure ⟨_, rfl, hq⟩
  unfold richCompare
  simp only [oneThing_ref]
  refine wpAny_holding (wpAny_bind (wpAny_cRoomFor (by omega) ?_))
  refine wpAny_bind (I.type.here (wpAny_bind (hb.here ?_)))
  split
  · rename_i q
    have e : PySem.W.subIn K tb (.ref C) = some false := by
      rcases Bool.or_eq_true_iff.mp hn with e | e
      · rw [beq_iff_eq.mp e] at q; simp at q
      · exact beq_iff_eq.mp e
    refine wpAny_bind ((PySem.W.looks_subIn X e).here ?_)
    simp only [Bool.false_eq_true, if_false]
    refine wpAny_bind (wpAny_mono one (fun r s' z => ?_) fun _ _ e => e)
    obtain ⟨v, rfl, hq⟩ := z
    exact wpAny_pure hq
  · refine wpAny_bind (wpAny_pure ?_)
    simp only [Bool.false_eq_true, if_false]
    refine wpAny_bind (wpAny_mono one (fun r s' z => ?_) fun _ _ e => e)
    obtain ⟨v, rfl, hq⟩ := z
    exact wpAny_pure hq
theorem bool_truth {v : Value} {Q : Value → Shared → Prop} (h : wpAny (model prog w) A.in1.in1 (truthy v) (fun b s' => Q (.bool b) s') E s) : wpAny (model prog w) A (call (.type "bool") [v]) Q E s := by
  refine PySem.callType_codes (T := "bool") (Bi := Builtin.«object.__init__») (Q₁ := fun r s₁ => ∃ b, r = Value.bool b ∧ Q r s₁) PySem.F.called_bool (PySem.F.typeCall_bool_1 _) PySem.F.entry_object_init ?_ ?_
  · refine codeAny_of_tree ?_
    show wpAny _ A.in1.in1 (do checkBuiltinCall "bool.__new__" ⟨[.type "bool", v], []⟩; again (.builtin "bool.__new__" ⟨[.type "bool", v], []⟩)) _ _ s
    refine wpAny_bind (wpAny_of_eq (PySem.F.newCall_bool_1 _) (wpAny_pure ⟨plainId_quiet (by decide +kernel) _, codeAny_builtin PySem.F.entry_bool_new ?_⟩))
    rw [Around.under_plainId (by decide +kernel) _]
    unfold Builtin.«bool.__new__»
    refine wpAny_bind (wpAny_of_eq (a := true) (by first | rfl | kernel_rfl | (unfold isType; rw [isSubtype_type]; kernel_rfl)) ?_)
    refine PySem.W.KFB.if_not rfl ?_
    refine wpAny_bind (wpAny_of_eq (a := true) PySem.F.conv_sub_bool ?_)
    refine PySem.W.KFB.if_not rfl ?_
    refine wpAny_bind (wpAny_of_eq (a := [v]) rfl ?_)
    refine wpAny_bind (wpAny_mono h (fun b s' hq => ?_) fun _ _ e => e)
    exact wpAny_pure ⟨b, rfl, hq⟩
  · rintro obj s₁ ⟨b, rfl, hq⟩
    exact ⟨rfl, PySem.F.args_object_init_2 _ _, object_init_meets PySem.F.called_bool.init.lookup PySem.F.called_bool.made (by decide) prog w A.in1 _ s₁ ⟨rfl, rfl, hq⟩⟩
end
section
variable {X : Cx} {n : Nat} {C : Addr} {sp : Sp}
/-- what stands on the right: an instance of the class, or a value of a type that is no class below -/
def RightOf (K : PySem.W.Frag) (C : Addr) (H : Hp) (y : V) : Prop := ∃ tb, TyX K H y tb ∧ PySem.W.notFirst K C tb = true
/-- x == y by the own == of x -/
def rEqO (K : PySem.W.Frag) (C : Addr) (sp : Sp) : R2 := fun x y H Q => ∃ a dx fs, x = .ref a ∧ H a = some (.ins C dx fs) ∧ RightOf K C H y ∧ sp [x, y] H Q E0
theorem op_eqO (K : PySem.W.Frag) (hK : X.K = K) (m : Md X.prog X.w X.K X.mg X.base n C "__eq__" sp) (hr : Room n X.A) : OpR X (compareOp .Eq) (rEqO K C sp) := by
  subst hK
  intro pins s σ H x y v u Q I rx ry h
  obtain ⟨f, F, hs, hf, _⟩ := m.ex
  obtain ⟨a, dx, fs, rfl, ha, ⟨tb, hy, hn⟩, q⟩ := h
  cases (show v = Value.ref a from rx)
  obtain ⟨mA, J, _⟩ := ins_get I.hok ha
  obtain ⟨od, J, _⟩ := J.look
  obtain ⟨Pk, hk, hp, _⟩ := kit_of I ry hy
  obtain ⟨m, hF⟩ := I.fr
  refine PySem.W.cmp_K (op := .Eq) (tb := tb) hr.units0 hF I.ok.mod.kin J (hk.ty _ _ I.kIn hp) hn hs hf ?_
  refine wpAny_mono (wpAny_call (run_fnR (us := [.ref a, u]) (vs := [.ref a, y]) F hr pass0 I (.cons rfl (.cons ry .nil)) q)) (fun w s' z => ?_) fun _ _ x => x
  obtain ⟨z', H', I', rz, qz⟩ := z
  exact SlX.cmpback rz ⟨z', H', I', rz, qz⟩
/-- x != y by the own == of x -/
def rNeO (K : PySem.W.Frag) (C : Addr) (sp : Sp) : R2 := fun x y H Q => ∃ a dx fs, x = .ref a ∧ H a = some (.ins C dx fs) ∧ RightOf K C H y ∧ sp [x, y] H (fun z H' => ∃ k, z = .bl k ∧ Q (.bl (!k)) H') E0
theorem op_neO (K : PySem.W.Frag) (hK : X.K = K) (m : Md X.prog X.w X.K X.mg X.base n C "__eq__" sp) (h1 : PySem.W.findIn X.K (.ref C) "__ne__" = some (some (.builtin "object.__ne__"))) (hm : PySem.W.mroIn X.K C (.type "object") = some true) (hr : Room (n + 1) X.A) : OpR X (compareOp .NotEq) (rNeO K C sp) := by
  subst hK
  intro pins s σ H x y v u Q I rx ry h
  obtain ⟨f, F, hs, hf, _⟩ := m.ex
  obtain ⟨a, dx, fs, rfl, ha, ⟨tb, hy, hn⟩, q⟩ := h
  cases (show v = Value.ref a from rx)
  obtain ⟨mA, J, _⟩ := ins_get I.hok ha
  obtain ⟨od, J, _⟩ := J.look
  obtain ⟨Pk, hk, hp, _⟩ := kit_of I ry hy
  obtain ⟨m, hF⟩ := I.fr
  refine ne_K (tb := tb) (by have := hr.units; omega) hF I.ok.mod.kin J (hk.ty _ _ I.kIn hp) hn h1 hm hs hf ?_
  refine wpAny_mono (wpAny_call (SlX.run_at (us := [.ref a, u]) (ws := [.ref a, y]) F hr.in1 I.env0.in1 pass0 I (.cons rfl (.cons ry .nil)) q)) (fun w s' z => ?_) fun _ _ x => x
  obtain ⟨z', H', I', rz, k, ek, qz⟩ := z
  subst ek
  cases (show w = Value.bool k from rz)
  exact ⟨k, rfl, .bl (!k), H', I', rfl, qz⟩
/-- the truth of x by its own bool -/
def rTruO (C : Addr) (sp : Sp) : V → Hp → (Bool → Hp → Prop) → Prop := fun x H Q => ∃ a dx fs, x = .ref a ∧ H a = some (.ins C dx fs) ∧ sp [x] H (fun z H' => ∃ k, z = .bl k ∧ Q k H') E0
theorem tru_own (m : Md X.prog X.w X.K X.mg X.base n C "__bool__" sp) (hr : Room n X.A) : TruR X (rTruO C sp) := by
  intro pins s σ H x v Q I rx h
  obtain ⟨f, F, hs, hf, _⟩ := m.ex
  obtain ⟨a, dx, fs, rfl, ha, q⟩ := h
  cases (show v = Value.ref a from rx)
  obtain ⟨mA, J, _⟩ := ins_get I.hok ha
  obtain ⟨od, J, _⟩ := J.look
  obtain ⟨m, hF⟩ := I.fr
  refine PySem.W.truthy_K hF I.ok.mod.kin J hs hf ?_
  refine wpAny_mono (wpAny_call (run_fnR (us := [.ref a]) (vs := [.ref a]) F hr pass0 I (.cons rfl .nil) q)) (fun w s' z => ?_) fun _ _ x => x
  obtain ⟨z', H', I', rz, k, ek, qz⟩ := z
  subst ek
  cases (show w = Value.bool k from rz)
  exact ⟨H', I', qz⟩
/-- bool(x) by its own bool -/
def rBoolO (C : Addr) (sp : Sp) : List V → Hp → VK → Prop := fun xs H Q => ∃ a dx fs, xs = [.ref a] ∧ H a = some (.ins C dx fs) ∧ sp xs H (fun z H' => ∃ k, z = .bl k ∧ Q z H') E0
theorem call_boolO (m : Md X.prog X.w X.K X.mg X.base n C "__bool__" sp) (hr : Room (n + 2) X.A) : CallR X (.type "bool") (rBoolO C sp) := by
  intro pins s σ H xs us Q I r h
  obtain ⟨f, F, hs, hf, _⟩ := m.ex
  obtain ⟨a, dx, fs, rfl, ha, q⟩ := h
  obtain ⟨u, rfl, ru⟩ := r.one
  cases (show u = Value.ref a from ru)
  obtain ⟨mA, J, _⟩ := ins_get I.hok ha
  obtain ⟨od, J, _⟩ := J.look
  obtain ⟨m, hF⟩ := I.fr
  have hr2 : Room n X.A.in1.in1 := (show Room (n + 1) X.A.in1 from Room.in1 hr).in1
  refine bool_truth (PySem.W.truthy_K hF I.ok.mod.kin J hs hf ?_)
  refine wpAny_mono (wpAny_call (SlX.run_at (us := [.ref a]) (ws := [.ref a]) F hr2 I.env0.in1.in1 pass0 I (.cons rfl .nil) q)) (fun w s' z => ?_) fun _ _ x => x
  obtain ⟨z', H', I', rz, k, ek, qz⟩ := z
  subst ek
  cases (show w = Value.bool k from rz)
  exact ⟨.bl k, H', I', rfl, qz⟩
/-- bool(a tuple) -/
theorem call_boolT (K : PySem.W.Frag) (hK : X.K = K) : CallR X (.type "bool") (fun xs H Q => ∃ (a : Addr) (zs : List V), xs = [.ref a] ∧ SqT K H a zs ∧ Q (.bl (!zs.isEmpty)) H) := by
  subst hK
  intro pins s σ H xs us Q I r h
  obtain ⟨a, zs, rfl, hq, q⟩ := h
  obtain rfl := Vals.ref1 r
  obtain ⟨its, rv, pl, hz⟩ := I.tuple hq
  have hl := line63
  have hlen := rv.length
  exact bool_truth (truthy_tuple pl (by simp only [List.size_toArray]; omega) ⟨.bl (!zs.isEmpty), H, I.tok _, by rw [isEmpty_of rv]; rfl, q⟩)
end
end OR

namespace OR
open PySem PySem.Spec PyProof.Rows L2
/-! ### Places: made, compared, its truth -/
structure PMk' (P : Program) (w : World) (K : PySem.W.Frag) (mg : Str → Option Value) (base : Heap) (C : Addr) : Prop where
  T : PTxt K mg C
  made : ∃ f fd t0, Mk K C f ∧ FnOk P w K mg base CX0 4 f fd ["self", "stretches"] (spPlInit K C) ∧ Binds K fd ["self", "stretches"] [] ∧ Binds K fd ["self", "stretches"] [.ref t0] ∧ ∀ H : Hp, SqT K H t0 []
def tMkP (K : PySem.W.Frag) (C : Addr) (t : TA) : TE := fun σ H Q => t σ H fun vs H1 => ∃ (a : Addr) (L : List ARow), vs = [.ref a] ∧ (SqL K H1 a (refs L) ∨ SqT K H1 a (refs L)) ∧ L.length ≤ 1000 ∧ PairsAt H1 L ∧ (∀ r ∈ rws L, okRow r = true) ∧
  ∀ (x : Addr) (l : List Row) (H' : Hp), H1 x = none → IsP C H' x l → (∀ z, mem l z ↔ mem (rws L) z) → l.length ≤ L.length → Same H1 H' → Q (.ref x) H'
def tMkP0 (C : Addr) : TE := fun σ H Q => ∀ (x : Addr) (H' : Hp), H x = none → IsP C H' x [] → Same H H' → Q (.ref x) H'
theorem made_same {C x dx : Addr} {H H' : Hp} (nx : H x = none) (ndx : H dx = none) (hs : ∀ c o, (upd (upd H dx (.own x)) x (.ins C dx [])) c = some o → c ≠ x → H' c = some o) : Same H H' := fun c o e => by
  have ncx : c ≠ x := ne_of_none e nx
  refine hs c o ?_ ncx
  rw [upd_ne ncx, upd_ne (ne_of_none e ndx)]
  exact e
theorem pe_mkP {X : Cx} (K : PySem.W.Frag) (hK : X.K = K) {C : Addr} {j : Nat} {e : Expr} {es : List Expr} {t : TA} {p pos : Pos} (M : PMk' X.prog X.w X.K X.mg X.base C) (hr : Room j X.A) (hj : 5 ≤ j) (hg : Gl X "Places") (ha : PA X (e :: es) t)
    (he : starEach (e :: es) X.env = (false, eval e X.env) :: starEach es X.env := by rfl) (hpl : (backTo pos (starEach es X.env)).any (·.1) = false := by rfl) : PE X (.Call (.Name "Places" p) (e :: es) [] pos) (tMkP K C t) := by
  subst hK
  obtain ⟨f, fd, t0, mk, F, hb, _⟩ := M.made
  refine ⟨fun pins s σ H Q I h => ?_⟩
  refine wpAny_Call_Name_kw (ld_glob I hg M.T.mgC ?_ (by decide))
  refine PySem.W.callWith_K (h₀ := X.base) I.ok.mod.kin mk.kp (thn (ha.run pos pins s σ H _ I h) fun us s1 ⟨vs, H1, I1, r, q⟩ => ⟨I1.kIn, ?_⟩) he hpl
  obtain ⟨a, L, rfl, hS, hlen, hP, hok, q⟩ := q
  refine run_make mk F (hr.mono hj) hb .nil pass0 I1 r fun x dx nx ndx nex => ?_
  have S1 : Same H1 (upd (upd H1 dx (.own x)) x (.ins C dx [])) := fun c o e => by rw [upd_ne (ne_of_none e nx), upd_ne (ne_of_none e ndx)]; exact e
  exact ⟨x, dx, a, L, rfl, upd_same, hS.elim (fun e => .inl (S1.seq e)) (fun e => .inr (sameT S1 e)), hlen, hP.same S1, hok, fun l H' hs hp hme hle => ⟨rfl, q x l H' nx hp hme hle (made_same nx ndx hs)⟩⟩
theorem pe_mkP0 {X : Cx} {C : Addr} {j : Nat} {p pos : Pos} (M : PMk' X.prog X.w X.K X.mg X.base C) (hr : Room j X.A) (hj : 5 ≤ j) (hg : Gl X "Places") : PE X (.Call (.Name "Places" p) [] [] pos) (tMkP0 C) := by
  obtain ⟨f, fd, t0, mk, F, _, hb, ht⟩ := M.made
  refine ⟨fun pins s σ H Q I q => ?_⟩
  refine wpAny_Call_Name_kw (ld_glob I hg M.T.mgC ?_ (by decide))
  refine PySem.W.callWith_K0 I.kIn mk.kp (run_make (us := []) (vs := []) (dvs := [.ref t0]) mk F (hr.mono hj) hb (.cons rfl .nil) pass0 I .nil fun x dx nx ndx nex => ?_)
  refine ⟨x, dx, t0, [], rfl, upd_same, .inr (ht _), Nat.zero_le _, (fun _ z => nomatch z), (fun _ z => nomatch z), fun l H' hs hp hme _ => ⟨rfl, ?_⟩⟩
  have el : l = [] := Nf.unique hp.nf Nf.nil hme
  subst el
  exact q x H' nx hp (made_same nx ndx hs)
def spPlEq (K : PySem.W.Frag) (C : Addr) : Sp := fun vs H Q _ => ∃ x l y, vs = [.ref x, y] ∧ IsP C H x l ∧ ((∃ b m, y = .ref b ∧ IsP C H b m ∧ Q (.bl (decide (l = m))) H) ∨ (∃ T : String, TyX K H y (.type T) ∧ PySem.W.kitOne K (.type T) (.ref C) = some false ∧ Q (.bl false) H))
def spPlBool (C : Addr) : Sp := fun vs H Q _ => ∃ x l, vs = [.ref x] ∧ IsP C H x l ∧ Q (.bl (!l.isEmpty)) H
section
variable {P : Program} {w : World} {K : PySem.W.Frag} {mg : Str → Option Value} {base : Heap}
theorem tyP {C : Addr} (T : PTxt K mg C) {H : Hp} {x dx : Addr} {fs : List (Str × V)} (hx : H x = some (.ins C dx fs)) : TyX K H (.ref x) (.ref C) := .base (.ins hx T.cl T.isi.ca T.isi.cn T.isi.ct T.isi.cm)
theorem scEq : FnScope ["self", "other"] ["self", "other"] (defScope sPlEq) := ⟨rfl, rfl, rfl, by decide +kernel, rfl, by decide +kernel, by decide +kernel⟩
theorem ok_pleq {f C : Addr} {fd : FuncData} (F : Fun K "__eq__" "Places.__eq__" sPlEq f fd) (T : PTxt K mg C) : FnOk P w K mg base CX0 1 f fd ["self", "other"] (spPlEq K C) := by
  refine F.ok scEq (fun vs H Q E h => ?_) (fun cdv A outer s H vs Q E hr h => ?_)
  · obtain ⟨x, l, y, rfl, _⟩ := h
    rfl
  · obtain ⟨x, l, y, rfl, ⟨_, dx, t, fi, b, M, hx, ht, hM, rfl, _⟩, h⟩ := h
    have hu64 : (A.deeper (envOfC "Places.__eq__" (defScope sPlEq) s.heap.objs.size f cdv)).units + 64 < cLine := hr.units
    refine ⟨_, pss_one (ps_ret (pe_and (pe_callB call_isi (by rfl) T.zIsi bt_isi (pa_cons (pv 1) (pa_cons (pe_glob (v := .ref C) (by rfl) T.mgC rfl) pa_nil)))
      (pe_one (pe_cmpR (op_eqD hu64) (pe_fld (pv 0) rfl) (pe_fld (pv 1) rfl) (nomark _))))), ?_⟩
    rcases h with ⟨y, m, rfl, ⟨_, dy, t2, f2, b2, M2, hy, ht2, hM2, rfl, _⟩, q⟩ | ⟨ty, hT, hk, q⟩
    · refine ⟨_, rfl, .ref y, .ref C, _, _, true, rfl, .own C, tyP T hy, T.kPP, true, rfl, iteT ?_⟩
      refine ⟨_, rfl, x, C, dx, _, _, rfl, hx, T.cl, T.nS, pFl_s _ _ _, _, rfl, y, C, dy, _, _, rfl, hy, T.cl, T.nS, pFl_s _ _ _, .tuple ((rws M).map rowD), .tuple ((rws M2).map rowD), .tup (.inl (.inl ht)) (dp_rows hM), .tup (.inl (.inl ht2)) (dp_rows hM2), shp_tup _, shp_tup _, ?_⟩
      have e : PyData.eqv (.tuple ((rws M).map rowD)) (.tuple ((rws M2).map rowD)) = decide (rws M = rws M2) := eqv_rows _ _
      rw [e]
      exact q
    · exact ⟨_, rfl, y, .ref C, _, _, false, rfl, .own C, hT, hk, false, rfl, iteF q⟩
theorem scBo : FnScope ["self"] ["self"] (defScope sPlBool) := ⟨rfl, rfl, rfl, by decide +kernel, rfl, by decide +kernel, by decide +kernel⟩
theorem ok_plbool {f C : Addr} {fd : FuncData} (F : Fun K "__bool__" "Places.__bool__" sPlBool f fd) (T : PTxt K mg C) : FnOk P w K mg base CX0 1 f fd ["self"] (spPlBool C) := by
  refine F.ok scBo (fun vs H Q E h => ?_) (fun cdv A outer s H vs Q E hr h => ?_)
  · obtain ⟨x, l, rfl, _⟩ := h
    rfl
  · obtain ⟨x, l, rfl, ⟨_, dx, t, fi, b, M, hx, ht, hM, rfl, _⟩, q⟩ := h
    refine ⟨_, pss_one (ps_ret (pe_callTy (call_boolT K rfl) (by rfl) T.zBool bt_bool (pa_cons (pe_fld (pv 0) rfl) pa_nil))), ?_⟩
    refine ⟨_, rfl, x, C, dx, _, _, rfl, hx, T.cl, T.nS, pFl_s _ _ _, t, refs M, rfl, .inl (.inl ht), ?_⟩
    have e : (refs M).isEmpty = (rws M).isEmpty := by cases M <;> rfl
    rw [e]
    exact q
end
end OR

namespace OR
open PySem PySem.Spec PyProof.Rows L2
/-! ### maths of what rows have in common, and of their gaps -/
def mx (x y : Int) : Int := if y > x then y else x
def mn (x y : Int) : Int := if y < x then y else x
theorem mx_ok (x y : Int) : x ≤ mx x y ∧ y ≤ mx x y ∧ (mx x y = x ∨ mx x y = y) := by
  unfold mx
  split <;> omega
theorem mn_ok (x y : Int) : mn x y ≤ x ∧ mn x y ≤ y ∧ (mn x y = x ∨ mn x y = y) := by
  unfold mn
  split <;> omega
def com1 (r s : Row) : List Row := if mx r.1 s.1 ≤ mn r.2 s.2 then [(mx r.1 s.1, mn r.2 s.2)] else []
def com : List Row → List Row → List Row
  | [], _ => []
  | _ :: _, [] => []
  | r :: a, s :: b => com1 r s ++ (if r.2 < s.2 then com a (s :: b) else com (r :: a) b)
termination_by a b => a.length + b.length
theorem com_nil (b : List Row) : com [] b = [] := by rw [com]
theorem com_nil2 : ∀ a : List Row, com a [] = []
  | [] => by rw [com]
  | _ :: _ => by rw [com]
theorem com_cons (r s : Row) (a b : List Row) : com (r :: a) (s :: b) = com1 r s ++ (if r.2 < s.2 then com a (s :: b) else com (r :: a) b) := by rw [com]
theorem mem_one (r : Row) (z : Int) : mem [r] z ↔ (r.1 ≤ z ∧ z ≤ r.2) := by
  rw [mem_cons]
  exact ⟨fun k => k.elim id fun h => absurd h (mem_nil _), .inl⟩
theorem com1_mem (r s : Row) (z : Int) : mem (com1 r s) z ↔ ((r.1 ≤ z ∧ z ≤ r.2) ∧ (s.1 ≤ z ∧ z ≤ s.2)) := by
  have h1 := mx_ok r.1 s.1
  have h2 := mn_ok r.2 s.2
  unfold com1
  split
  · rw [mem_one]
    dsimp only
    omega
  · constructor
    · exact fun h => absurd h (mem_nil _)
    · omega
theorem com_mem (a b : List Row) (ha : Nf a) (hb : Nf b) (z : Int) : mem (com a b) z ↔ mem a z ∧ mem b z := by
  match a, b, ha, hb with
  | [], b, _, _ =>
    rw [com_nil]
    exact ⟨fun h => absurd h (mem_nil _), fun h => absurd h.1 (mem_nil _)⟩
  | r :: a, [], _, _ =>
    rw [com_nil2]
    exact ⟨fun h => absurd h (mem_nil _), fun h => absurd h.2 (mem_nil _)⟩
  | r :: a, s :: b, ha, hb =>
    rw [com_cons, mem_append, com1_mem]
    have ra : mem a z → r.2 + 1 < z := fun h => ha.behind h
    have sb : mem b z → s.2 + 1 < z := fun h => hb.behind h
    split
    · rename_i hlt
      rw [com_mem a (s :: b) ha.tail hb z, mem_cons, mem_cons]
      constructor
      · rintro (⟨h1, h2⟩ | ⟨h1, h2⟩)
        · exact ⟨.inl h1, .inl h2⟩
        · exact ⟨.inr h1, h2⟩
      · rintro ⟨h1 | h1, h2 | h2⟩
        · exact .inl ⟨h1, h2⟩
        · have := sb h2
          omega
        · exact .inr ⟨h1, .inl h2⟩
        · exact .inr ⟨h1, .inr h2⟩
    · rename_i hlt
      rw [com_mem (r :: a) b ha hb.tail z, mem_cons, mem_cons]
      constructor
      · rintro (⟨h1, h2⟩ | ⟨h1, h2⟩)
        · exact ⟨.inl h1, .inl h2⟩
        · exact ⟨h1, .inr h2⟩
      · rintro ⟨h1 | h1, h2 | h2⟩
        · exact .inl ⟨h1, h2⟩
        · exact .inr ⟨.inl h1, h2⟩
        · have := ra h1
          omega
        · exact .inr ⟨.inr h1, h2⟩
termination_by a.length + b.length
theorem com1_ok {r s : Row} (hr : okRow r = true) (hs : okRow s = true) : ∀ q ∈ com1 r s, okRow q = true := fun q hq => by
  have o1 := okRow_iff hr
  have o2 := okRow_iff hs
  have h1 := mx_ok r.1 s.1
  have h2 := mn_ok r.2 s.2
  unfold com1 at hq
  split at hq
  · rw [List.mem_singleton.mp hq]
    exact okRow_of (by omega) (by omega) (by omega)
  · cases hq
theorem com_ok (a b : List Row) (ha : ∀ r ∈ a, okRow r = true) (hb : ∀ r ∈ b, okRow r = true) : ∀ q ∈ com a b, okRow q = true := by
  match a, b, ha, hb with
  | [], b, _, _ =>
    rw [com_nil]
    exact fun _ h => nomatch h
  | r :: a, [], _, _ =>
    rw [com_nil2]
    exact fun _ h => nomatch h
  | r :: a, s :: b, ha, hb =>
    intro q hq
    rw [com_cons] at hq
    rcases List.mem_append.mp hq with k | k
    · exact com1_ok (ha r List.mem_cons_self) (hb s List.mem_cons_self) q k
    · split at k
      · exact com_ok a (s :: b) (fun q hq => ha q (List.mem_cons_of_mem _ hq)) hb q k
      · exact com_ok (r :: a) b ha (fun q hq => hb q (List.mem_cons_of_mem _ hq)) q k
termination_by a.length + b.length
theorem com1_len (r s : Row) : (com1 r s).length ≤ 1 := by
  unfold com1
  split
  · exact Nat.le_refl _
  · exact Nat.zero_le _
theorem com_len (a b : List Row) : (com a b).length ≤ a.length + b.length := by
  match a, b with
  | [], b =>
    rw [com_nil]
    exact Nat.zero_le _
  | r :: a, [] =>
    rw [com_nil2]
    exact Nat.zero_le _
  | r :: a, s :: b =>
    rw [com_cons, List.length_append]
    have h0 := com1_len r s
    split
    · have h1 := com_len a (s :: b)
      simp only [List.length_cons] at h1 ⊢
      omega
    · have h1 := com_len (r :: a) b
      simp only [List.length_cons] at h1 ⊢
      omega
termination_by a.length + b.length
def gp : Int → List Row → List Row
  | s, [] => if s ≤ lastP then [(s, lastP)] else []
  | s, r :: a => (if s < r.1 then [(s, r.1 - 1)] else []) ++ gp (r.2 + 1) a
theorem gp_mem : ∀ (a : List Row) (s : Int), Nf a → (∀ r ∈ a, s ≤ r.1) → (∀ r ∈ a, r.2 ≤ lastP) → ∀ z, mem (gp s a) z ↔ (s ≤ z ∧ z ≤ lastP ∧ ¬ mem a z)
  | [], s, _, _, _, z => by
    unfold gp
    split
    · rw [mem_one]
      exact ⟨fun h => ⟨h.1, h.2, mem_nil _⟩, fun h => ⟨h.1, h.2.1⟩⟩
    · exact ⟨fun h => absurd h (mem_nil _), fun h => by omega⟩
  | r :: a, s, n, h1, h2, z => by
    have ih := gp_mem a (r.2 + 1) n.tail (fun q hq => by have := (List.pairwise_cons.mp n.gap).1 q hq; omega) (fun q hq => h2 q (List.mem_cons_of_mem _ hq)) z
    have hr := n.head
    have hs := h1 r List.mem_cons_self
    have hl := h2 r List.mem_cons_self
    have hb : mem a z → r.2 + 1 < z := fun h => n.behind h
    unfold gp
    rw [mem_append, ih, mem_cons]
    have e : mem (if s < r.1 then [(s, r.1 - 1)] else []) z ↔ (s ≤ z ∧ z ≤ r.1 - 1) := by
      split
      · rw [mem_one]
      · exact ⟨fun h => absurd h (mem_nil _), fun h => by omega⟩
    rw [e]
    by_cases hm : mem a z
    · have := hb hm
      constructor
      · rintro (h | h)
        · omega
        · exact absurd hm h.2.2
      · rintro ⟨_, _, h⟩
        exact absurd (Or.inr hm) h
    · constructor
      · rintro (h | h)
        · exact ⟨by omega, by omega, fun k => k.elim (fun k => by omega) hm⟩
        · exact ⟨by omega, h.2.1, fun k => k.elim (fun k => by omega) hm⟩
      · rintro ⟨k1, k2, k3⟩
        by_cases hz : z ≤ r.1 - 1
        · exact .inl ⟨k1, hz⟩
        · refine .inr ⟨?_, k2, hm⟩
          have : ¬ (r.1 ≤ z ∧ z ≤ r.2) := fun k => k3 (.inl k)
          omega
theorem gp_lo : ∀ (a : List Row) (s : Int), Nf a → (∀ r ∈ a, s ≤ r.1) → ∀ q ∈ gp s a, s ≤ q.1
  | [], s, _, _, q, hq => by
    unfold gp at hq
    split at hq
    · rw [List.mem_singleton.mp hq]
      exact Int.le_refl _
    · cases hq
  | r :: a, s, n, h1, q, hq => by
    have hr := n.head
    have hs := h1 r List.mem_cons_self
    unfold gp at hq
    rcases List.mem_append.mp hq with k | k
    · split at k
      · rw [List.mem_singleton.mp k]
        exact Int.le_refl _
      · cases k
    · have := gp_lo a (r.2 + 1) n.tail (fun q hq => by have := (List.pairwise_cons.mp n.gap).1 q hq; omega) q k
      omega
theorem gp_nf : ∀ (a : List Row) (s : Int), Nf a → (∀ r ∈ a, s ≤ r.1) → Nf (gp s a)
  | [], s, _, _ => by
    unfold gp
    split
    · exact ⟨fun q hq => by rw [List.mem_singleton.mp hq]; assumption, List.pairwise_singleton _ _⟩
    · exact Nf.nil
  | r :: a, s, n, h1 => by
    have hr := n.head
    have hg : ∀ q ∈ a, r.2 + 1 ≤ q.1 := fun q hq => by have := (List.pairwise_cons.mp n.gap).1 q hq; omega
    have ih := gp_nf a (r.2 + 1) n.tail hg
    have lo := gp_lo a (r.2 + 1) n.tail hg
    unfold gp
    split
    · refine ⟨fun q hq => ?_, List.pairwise_cons.mpr ⟨fun q hq => ?_, ih.gap⟩⟩
      · rcases List.mem_cons.mp hq with k | k
        · rw [k]
          dsimp only
          omega
        · exact ih.ok q k
      · have := lo q hq
        dsimp only
        omega
    · exact ih
theorem gp_ok : ∀ (a : List Row) (s : Int), 0 ≤ s → (∀ r ∈ a, okRow r = true) → ∀ q ∈ gp s a, okRow q = true
  | [], s, h0, _, q, hq => by
    unfold gp at hq
    split at hq
    · rw [List.mem_singleton.mp hq]
      exact okRow_of h0 (by assumption) (Int.le_refl _)
    · cases hq
  | r :: a, s, h0, h1, q, hq => by
    have o := okRow_iff (h1 r List.mem_cons_self)
    unfold gp at hq
    rcases List.mem_append.mp hq with k | k
    · split at k
      · rw [List.mem_singleton.mp k]
        exact okRow_of h0 (by omega) (by omega)
      · cases k
    · exact gp_ok a (r.2 + 1) (by omega) (fun q hq => h1 q (List.mem_cons_of_mem _ hq)) q k
theorem gp_len : ∀ (a : List Row) (s : Int), (gp s a).length ≤ a.length + 1
  | [], s => by
    unfold gp
    split
    · exact Nat.le_refl _
    · exact Nat.zero_le _
  | r :: a, s => by
    have ih := gp_len a (r.2 + 1)
    unfold gp
    rw [List.length_append]
    split
    · simp only [List.length_cons, List.length_nil]
      omega
    · simp only [List.length_cons, List.length_nil]
      omega
end OR

namespace OR
open PySem PySem.Spec PyProof.Rows L2
/-! ### _common, _gaps -/
/-- an item of a list or a tuple -/
def rIxA (K : PySem.W.Frag) : R2 := fun x y H Q => ∃ p xs i v, x = .ref p ∧ y = .int i ∧ (SqL K H p xs ∨ SqT K H p xs) ∧ atI xs i = some v ∧ Q v H
theorem ix_any {X : Cx} (K : PySem.W.Frag) (hK : X.K = K) : IxR X (rIxA K) := by
  subst hK
  intro value slice pins s σ H x y v u Q I rx ry h hs
  obtain ⟨p, xs, i, z, hx, hy, hq | hq, he, q⟩ := h
  · exact ix_list value slice pins s σ H x y v u Q I rx ry ⟨p, xs, i, z, hx, hy, hq, he, q⟩ hs
  · exact ix_tup value slice pins s σ H x y v u Q I rx ry ⟨p, xs, i, z, hx, hy, hq, he, q⟩ hs
def SqA (K : PySem.W.Frag) (H : Hp) (a : Addr) (xs : List V) : Prop := SqL K H a xs ∨ SqT K H a xs
theorem SqA.same {K : PySem.W.Frag} {H H' : Hp} {a : Addr} {xs : List V} (h : SqA K H a xs) (s : Same H H') : SqA K H' a xs := h.elim (fun e => .inl (s.seq e)) fun e => .inr (sameT s e)
theorem refs_at {L : List ARow} {i : Nat} {z : ARow} (h : L[i]? = some z) : atI (refs L) (i : Int) = some (.ref z.1) := atI_nat (by unfold refs; rw [List.getElem?_map, h]; rfl)
theorem drop_at {L : List ARow} {i : Nat} {z : ARow} (h : L[i]? = some z) : (rws L).drop i = z.2 :: (rws L).drop (i + 1) := by
  have e := rws_get h
  have hl := (List.getElem?_eq_some_iff.mp e).1
  rw [List.drop_eq_getElem_cons hl]
  rw [(List.getElem?_eq_some_iff.mp e).2]
def spCommon (K : PySem.W.Frag) : Sp := fun vs H Q _ => ∃ (a b : Addr) (L M : List ARow), vs = [.ref a, .ref b] ∧ SqA K H a (refs L) ∧ SqA K H b (refs M) ∧ AtR H L ∧ AtR H M ∧ L.length + M.length ≤ 1000 ∧
  ∀ (o : Addr) (N : List ARow) (H' : Hp), H o = none → H' o = some (.lst (refs N)) → AtR H' N → rws N = com (rws L) (rws M) → Same H H' → Q (.ref o) H'
def spGaps (K : PySem.W.Frag) : Sp := fun vs H Q _ => ∃ (a : Addr) (L : List ARow), vs = [.ref a] ∧ SqT K H a (refs L) ∧ AtR H L ∧ L.length < 1000 ∧
  ∀ (o : Addr) (N : List ARow) (H' : Hp), H o = none → H' o = some (.lst (refs N)) → AtR H' N → rws N = gp 0 (rws L) → Same H H' → Q (.ref o) H'
abbrev Q4 := Addr × Row × Int × Int
def refs4 (N : List Q4) : List V := N.map fun z => .ref z.1
def rws4 (N : List Q4) : List Row := N.map fun z => z.2.1
def At4 (H : Hp) (N : List Q4) : Prop := ∀ z ∈ N, H z.1 = some (.tup [.int z.2.1.1, .int z.2.1.2, .int z.2.2.1, .int z.2.2.2])
theorem refs4_len (N : List Q4) : (refs4 N).length = N.length := by unfold refs4; rw [List.length_map]
theorem rws4_len (N : List Q4) : (rws4 N).length = N.length := by unfold rws4; rw [List.length_map]
theorem refs4_snoc (N : List Q4) (z : Q4) : refs4 (N ++ [z]) = refs4 N ++ [.ref z.1] := by unfold refs4; rw [List.map_append]; rfl
theorem rws4_snoc (N : List Q4) (z : Q4) : rws4 (N ++ [z]) = rws4 N ++ [z.2.1] := by unfold rws4; rw [List.map_append]; rfl
theorem refs4_get {N : List Q4} {i : Nat} {y : V} (h : (refs4 N)[i]? = some y) : ∃ z, N[i]? = some z ∧ z ∈ N ∧ y = .ref z.1 := by
  unfold refs4 at h
  rw [List.getElem?_map] at h
  cases e : N[i]? with
  | none => rw [e] at h; cases h
  | some z => rw [e] at h; cases h; exact ⟨z, rfl, List.mem_of_getElem? e, rfl⟩
theorem rws4_get {N : List Q4} {i : Nat} {z : Q4} (h : N[i]? = some z) : (rws4 N)[i]? = some z.2.1 := by unfold rws4; rw [List.getElem?_map, h]; rfl
def spOver (K : PySem.W.Frag) : Sp := fun vs H Q _ => ∃ (a b : Addr) (L M : List ARow), vs = [.ref a, .ref b] ∧ SqA K H a (refs L) ∧ SqA K H b (refs M) ∧ AtR H L ∧ AtR H M ∧ L.length + M.length ≤ 1000 ∧
  ∀ (o : Addr) (N : List Q4) (H' : Hp), H o = none → H' o = some (.lst (refs4 N)) → At4 H' N → rws4 N = com (rws L) (rws M) → N.length ≤ L.length + M.length → Same H H' → Q (.ref o) H'
section
variable {P : Program} {w : World} {K : PySem.W.Frag} {mg : Str → Option Value} {base : Heap}
theorem scOv : FnScope ["ones", "others", "rows", "at", "beside", "first", "last"] ["ones", "others"] (defScope sOver) := ⟨rfl, rfl, rfl, by decide +kernel, rfl, by decide +kernel, by decide +kernel⟩
theorem ok_over {f C : Addr} {fd : FuncData} (F : Fun K "overlaps" "overlaps" sOver f fd) (T : PTxt K mg C) (zMin : mg "min" = none) : FnOk P w K mg base CX0 1 f fd ["ones", "others"] (spOver K) := by
  refine F.ok scOv (fun vs H Q E h => ?_) (fun cdv A outer s H vs Q E hr h => ?_)
  · obtain ⟨a, b, L, M, rfl, _⟩ := h
    rfl
  · obtain ⟨a, b, L, M, rfl, hSa, hSb, hL, hM, hlen, q⟩ := h
    have nd := scOv.nd
    refine ⟨_, pss_cons (ps_set (i := 2) nd rfl (.inl rfl) (pe_lst pa_nil))
      (pss_cons (ps_set (i := 3) nd rfl (.inl rfl) pe_int)
      (pss_cons (ps_set (i := 4) nd rfl (.inl rfl) pe_int)
      (pss_cons (ps_while PassesOwn.never (PW.pt (pw_and (pt_cmpR op_lt (pv 3) (pe_callB call_len_seq (by rfl) T.zLen PySem.boot_len (pa_cons (pv 0) pa_nil)) (nomark _)) (pw_and1 (pt_cmpR op_lt (pv 4) (pe_callB call_len_seq (by rfl) T.zLen PySem.boot_len (pa_cons (pv 1) pa_nil)) (nomark _)))))
        (pss_cons (ps_set (i := 5) nd rfl (.inl rfl) (pe_callB (call_max2 rfl) (by rfl) T.zMax bt_max (pa_cons (pe_ix ix_tup (pe_ix (ix_any K rfl) (pv 0) (pv 3) (fun _ _ => rfl)) pe_int (fun _ _ => rfl)) (pa_cons (pe_ix ix_tup (pe_ix (ix_any K rfl) (pv 1) (pv 4) (fun _ _ => rfl)) pe_int (fun _ _ => rfl)) pa_nil))))
        (pss_cons (ps_set (i := 6) nd rfl (.inl rfl) (pe_callB (call_min2 rfl) (by rfl) zMin bt_min (pa_cons (pe_ix ix_tup (pe_ix (ix_any K rfl) (pv 0) (pv 3) (fun _ _ => rfl)) pe_int (fun _ _ => rfl)) (pa_cons (pe_ix ix_tup (pe_ix (ix_any K rfl) (pv 1) (pv 4) (fun _ _ => rfl)) pe_int (fun _ _ => rfl)) pa_nil))))
        (Evl.pss_cut (ps_if (pt_cmpR op_le (pv 5) (pv 6) (nomark _)) (pss_one (ps_expr (pe_bm PySem.F.plainAttrs_list PySem.F.slot_list_append PySem.F.type_list_append mt_append (pv 2) (pa_cons (pe_tup (pa_cons (pv 5) (pa_cons (pv 6) (pa_cons (pv 3) (pa_cons (pv 4) pa_nil))))) pa_nil)))) pss_nil)
        (pss_one (ps_if (pt_cmpR op_lt (pe_ix ix_tup (pe_ix (ix_any K rfl) (pv 0) (pv 3) (fun _ _ => rfl)) pe_int (fun _ _ => rfl)) (pe_ix ix_tup (pe_ix (ix_any K rfl) (pv 1) (pv 4) (fun _ _ => rfl)) pe_int (fun _ _ => rfl)) (nomark _))
          (pss_one (ps_aug (i := 3) nd rfl (.inl rfl) pe_int ip_add)) (pss_one (ps_aug (i := 4) nd rfl (.inl rfl) pe_int ip_add))))))))
      (pss_one (ps_ret (pv 2)))))), ?_⟩
    refine ⟨Nat.zero_le _, fun o no => ?_⟩
    have s1 := same_lay (o := .lst []) no
    refine ⟨fun m σ H' => ∃ (i j : Nat) (s5 s6 : Option V) (N : List Q4), m = (L.length - i) + (M.length - j) ∧ σ = [some (.ref a), some (.ref b), some (.ref o), some (.int (i : Int)), some (.int (j : Int)), s5, s6] ∧ i ≤ L.length ∧ j ≤ M.length ∧ H' o = some (.lst (refs4 N)) ∧ At4 H' N ∧
        rws4 N ++ com ((rws L).drop i) ((rws M).drop j) = com (rws L) (rws M) ∧ Fre o (upd H o (.lst [])) H' ∧ N.length ≤ i + j, ⟨_, 0, 0, none, none, [], rfl, rfl, Nat.zero_le _, Nat.zero_le _, upd_same, (fun _ z => nomatch z), rfl, Fre.refl _ _, Nat.zero_le _⟩, ?_⟩
    rintro m σ H' ⟨i, j, s5, s6, N, rfl, rfl, hi, hj, ho, hN, hE, fr, hNl⟩
    have sH : Same H H' := fun c u e => fr c u (s1 c u e) (ne_of_none e no)
    have fin : com ((rws L).drop i) ((rws M).drop j) = [] → Q (.ref o) H' := fun e => q o N H' no ho hN (by rw [← hE, e, List.append_nil]) (by omega) sH
    refine ⟨_, rfl, _, rfl, a, refs L, rfl, hSa.same sH, _, _, rfl, rfl, _, rfl, ite2 (fun c1 => ?_) (fun c1 => ?_)⟩
    · have hi' : i < L.length := by
        have := of_decide_eq_true c1
        rw [refs_len] at this
        omega
      refine ⟨_, rfl, _, rfl, b, refs M, rfl, hSb.same sH, _, _, rfl, rfl, _, rfl, ite2 (fun c2 => ?_) (fun c2 => ?_)⟩
      · have hj' : j < M.length := by
          have := of_decide_eq_true c2
          rw [refs_len] at this
          omega
        have hz : L[i]? = some L[i] := List.getElem?_eq_getElem hi'
        have hw : M[j]? = some M[j] := List.getElem?_eq_getElem hj'
        have hzm : L[i] ∈ L := List.getElem_mem hi'
        have hwm : M[j] ∈ M := List.getElem_mem hj'
        generalize L[i] = z at hz hzm
        generalize M[j] = y at hw hwm
        have go : ∀ H'' : Hp, Same H H'' → SqT K H'' z.1 [.int z.2.1, .int z.2.2] ∧ SqT K H'' y.1 [.int y.2.1, .int y.2.2] := fun H'' s => ⟨.inl (.inl (s _ _ (hL z hzm))), .inl (.inl (s _ _ (hM y hwm)))⟩
        have az := refs_at hz
        have ay := refs_at hw
        have g0 : ∀ (u v : Int), atI [V.int u, .int v] 0 = some (.int u) := fun _ _ => atI_nat (j := 0) rfl
        have g1 : ∀ (u v : Int), atI [V.int u, .int v] 1 = some (.int v) := fun _ _ => atI_nat (j := 1) rfl
        refine ⟨_, fun σ' H'' p => p, ?_⟩
        refine ⟨_, rfl, _, rfl, a, _, _, _, rfl, rfl, hSa.same sH, az, z.1, _, 0, _, rfl, rfl, (go _ sH).1, g0 _ _, _, rfl, _, rfl, b, _, _, _, rfl, rfl, hSb.same sH, ay, y.1, _, 0, _, rfl, rfl, (go _ sH).2, g0 _ _, ?_⟩
        have two : 4 ≤ sizeLine := by decide
        refine ⟨_, _, rfl, _, rfl, _, rfl, a, _, _, _, rfl, rfl, hSa.same sH, az, z.1, _, 1, _, rfl, rfl, (go _ sH).1, g1 _ _, _, rfl, _, rfl, b, _, _, _, rfl, rfl, hSb.same sH, ay, y.1, _, 1, _, rfl, rfl, (go _ sH).2, g1 _ _, _, _, rfl, ?_⟩
        refine ⟨fun σ' H'' => ∃ N' : List Q4, σ' = [some (.ref a), some (.ref b), some (.ref o), some (.int (i : Int)), some (.int (j : Int)), some (.int (mx z.2.1 y.2.1)), some (.int (mn z.2.2 y.2.2))] ∧ H'' o = some (.lst (refs4 N')) ∧ At4 H'' N' ∧ rws4 N' = rws4 N ++ com1 z.2 y.2 ∧ Fre o (upd H o (.lst [])) H'' ∧ N'.length ≤ i + j + 1, ?_, ?_⟩
        · refine ⟨_, rfl, _, rfl, _, _, rfl, rfl, _, rfl, ite2 (fun c => ?_) (fun c => ?_)⟩
          · have hc : mx z.2.1 y.2.1 ≤ mn z.2.2 y.2.2 := of_decide_eq_true c
            refine ⟨_, rfl, .inl ⟨rfl, _, .inl (.inl ho)⟩, _, rfl, _, rfl, _, rfl, _, rfl, two, fun T' hT => ?_⟩
            have s4 := same_lay (o := .tup [.int (mx z.2.1 y.2.1), .int (mn z.2.2 y.2.2), .int (i : Int), .int (j : Int)]) hT
            have noT : T' ≠ o := (ne_of_none ho hT).symm
            refine ⟨o, refs4 N, _, rfl, rfl, s4 _ _ ho, small1000 (by rw [refs4_len]; omega), ?_⟩
            refine ⟨N ++ [(T', (mx z.2.1 y.2.1, mn z.2.2 y.2.2), (i : Int), (j : Int))], rfl, by rw [upd_same, refs4_snoc], fun q hq => ?_, ?_, (fr.trans (fun b' u e _ => s4 b' u e)).trans Fre.put, by rw [List.length_append]; exact Nat.succ_le_succ hNl⟩
            · rcases List.mem_append.mp hq with k | k
              · rw [upd_ne (ne_of (hN q k) ho (by intro w; cases w))]
                exact s4 _ _ (hN q k)
              · rw [List.mem_singleton.mp k, upd_ne noT]
                exact upd_same
            · rw [rws4_snoc]
              unfold com1
              rw [if_pos hc]
          · have hc : ¬ mx z.2.1 y.2.1 ≤ mn z.2.2 y.2.2 := fun w => c (decide_eq_true w)
            refine ⟨N, rfl, ho, hN, ?_, fr, Nat.le_succ_of_le hNl⟩
            unfold com1
            rw [if_neg hc, List.append_nil]
        · rintro σ' H2 ⟨N', rfl, ho2, hN2, hE2, fr2, hNl2⟩
          have sH2 : Same H H2 := fun c u e => fr2 c u (s1 c u e) (ne_of_none e no)
          rw [drop_at hz, drop_at hw, com_cons] at hE
          refine ⟨_, rfl, _, rfl, a, _, _, _, rfl, rfl, hSa.same sH2, az, z.1, _, 1, _, rfl, rfl, (go _ sH2).1, g1 _ _, _, rfl, _, rfl, b, _, _, _, rfl, rfl, hSb.same sH2, ay, y.1, _, 1, _, rfl, rfl, (go _ sH2).2, g1 _ _, _, _, rfl, rfl, _, rfl, ite2 (fun c => ?_) (fun c => ?_)⟩
          · have hc : z.2.2 < y.2.2 := of_decide_eq_true c
            refine ⟨_, rfl, _, _, rfl, rfl, (L.length - (i + 1)) + (M.length - j), by omega, i + 1, j, _, _, N', rfl, rfl, hi', hj, ho2, hN2, ?_, fr2, by omega⟩
            rw [if_pos hc] at hE
            rw [hE2, drop_at hw, List.append_assoc]
            exact hE
          · have hc : ¬ z.2.2 < y.2.2 := fun w => c (decide_eq_true w)
            refine ⟨_, rfl, _, _, rfl, rfl, (L.length - i) + (M.length - (j + 1)), by omega, i, j + 1, _, _, N', rfl, rfl, hi, hj', ho2, hN2, ?_, fr2, by omega⟩
            rw [if_neg hc] at hE
            rw [hE2, drop_at hz, List.append_assoc]
            exact hE
      · refine ⟨_, rfl, fin ?_⟩
        have hj2 : (rws M).length ≤ j := by
          have : ¬ ((j : Int) < ((refs M).length : Int)) := fun w => c2 (decide_eq_true w)
          rw [refs_len] at this
          rw [rws_len]
          omega
        rw [List.drop_eq_nil_of_le hj2, com_nil2]
    · refine iteF ⟨_, rfl, fin ?_⟩
      have hi2 : (rws L).length ≤ i := by
        have : ¬ ((i : Int) < ((refs L).length : Int)) := fun w => c1 (decide_eq_true w)
        rw [refs_len] at this
        rw [rws_len]
        omega
      rw [List.drop_eq_nil_of_le hi2, com_nil]
theorem scCo : FnScope ["ones", "others", "first", "last", "_"] ["ones", "others"] (defScope sCommon) := ⟨rfl, rfl, rfl, by decide +kernel, rfl, by decide +kernel, by decide +kernel⟩
theorem ok_common {f C : Addr} {fd : FuncData} (F : Fun K "_common" "_common" sCommon f fd) (OV : Cl P w K mg base 1 "overlaps" ["ones", "others"] (spOver K)) : FnOk P w K mg base CX0 2 f fd ["ones", "others"] (spCommon K) := by
  refine F.ok scCo (fun vs H Q E h => ?_) (fun cdv A outer s H vs Q E hr h => ?_)
  · obtain ⟨a, b, L, M, rfl, _⟩ := h
    rfl
  · obtain ⟨a, b, L, M, rfl, hSa, hSb, hL, hM, hlen, q⟩ := h
    have nd := scCo.nd
    refine ⟨_, pss_one (ps_ret (pe_lc (own := [("first", 2), ("last", 3), ("_", 4)]) (g := gTup K 4 (gCons (gName 2) (gCons (gName 3) (gCons (gName 4) (gCons (gName 4) gNil))))) (tt := tYes) rfl nd (pi_list (pe_cl OV hr (by decide) (by rfl) (pa_cons (pv 0) (pa_cons (pv 1) pa_nil)))) (blkOk_by (N := ["ones", "others", "first", "last", "_"]) (sc := defScope sCommon) (by decide +kernel))
        (fun _ _ _ _ _ => pg_tup rfl (pgs_cons (pg_name (i := 2) nd rfl (.inl rfl)) (pgs_cons (pg_name (i := 3) nd rfl (.inl rfl)) (pgs_cons (pg_name (i := 4) nd rfl (.inl rfl)) (pgs_cons (pg_name (i := 4) nd rfl (.inl rfl)) pgs_nil)))))
        (fun _ _ _ _ _ => pts_nil)
        (fun _ _ _ _ _ => pe_tup (pa_cons (pv 2) (pa_cons (pv 3) pa_nil))))), ?_⟩
    refine ⟨_, rfl, _, rfl, a, b, L, M, rfl, hSa, hSb, hL, hM, hlen, fun o N H1 no ho hN eN lN s1 => ?_⟩
    refine ⟨o, rfl, ⟨_, .inl (.inl ho)⟩, fun D hD => lc_list (K := K) (a := o) (xs := refs4 N) (fun i H2 => ∃ R : List ARow, H2 D = some (.lst (refs R)) ∧ AtR H2 R ∧ rws R = (rws4 N).take i ∧ Same H1 H2 ∧ R.length ≤ i)
        ⟨[], upd_same, (fun _ z => nomatch z), rfl, same_lay hD, Nat.le_refl _⟩ (fun i H2 _ ⟨_, _, _, _, s, _⟩ => s.seq (.inl (.inl ho))) ?_ ?_⟩
    · rintro i y H2 hy ⟨R, hD2, hR, eR, s2, lR⟩
      obtain ⟨z, hz, hzN, rfl⟩ := refs4_get hy
      have hil : i < N.length := (List.getElem?_eq_some_iff.mp hz).1
      have ez := s2 _ _ (hN z hzN)
      have nRD : ∀ q ∈ R, q.1 ≠ D := fun q hq => ne_of (hR q hq) hD2 (by intro w; cases w)
      refine ⟨z.1, _, rfl, .inl (.inl ez), rfl, _, _, rfl, _, _, rfl, _, _, rfl, _, _, rfl, rfl, rfl, ?_⟩
      refine yesT ?_
      refine ⟨_, rfl, _, rfl, (by show 2 ≤ sizeLine; decide), fun T' hT => ?_⟩
      have s4 := same_lay (o := .tup [.int z.2.1.1, .int z.2.1.2]) hT
      have nTD : T' ≠ D := (ne_of_none hD2 hT).symm
      refine ⟨refs R, s4 _ _ hD2, small1000 (by rw [refs_len]; omega), R ++ [(T', z.2.1)], ?_, fun q hq => ?_, ?_, same_upd (s2.trans s4) hD, by rw [List.length_append]; exact Nat.succ_le_succ lR⟩
      · rw [upd_same, refs_snoc]
      · rcases List.mem_append.mp hq with k | k
        · rw [upd_ne (nRD q k)]
          exact s4 _ _ (hR q k)
        · rw [List.mem_singleton.mp k, upd_ne nTD]
          exact upd_same
      · rw [rws_snoc, eR, List.take_add_one, rws4_get hz]
        rfl
    · rintro H2 ⟨R, hD2, hR, eR, s2, lR⟩
      rw [refs4_len, List.take_of_length_le (by rw [rws4_len]; exact Nat.le_refl _), eN] at eR
      exact q D R H2 (Option.eq_none_iff_forall_ne_some.mpr fun u e => by have := s1 _ _ e; rw [hD] at this; cases this) hD2 hR eR (s1.trans s2)
theorem gp_cons (s : Int) (r : Row) (a : List Row) : gp s (r :: a) = (if s < r.1 then [(s, r.1 - 1)] else []) ++ gp (r.2 + 1) a := rfl
theorem gp_nil (s : Int) : gp s [] = if s ≤ lastP then [(s, lastP)] else [] := rfl
theorem scGa : FnScope ["stretches", "rows", "start", "first", "last"] ["stretches"] (defScope sGaps) := ⟨rfl, rfl, rfl, by decide +kernel, rfl, by decide +kernel, by decide +kernel⟩
theorem ok_gaps {f C : Addr} {fd : FuncData} (F : Fun K "_gaps" "_gaps" sGaps f fd) (T : PTxt K mg C) : FnOk P w K mg base CX0 1 f fd ["stretches"] (spGaps K) := by
  refine F.ok scGa (fun vs H Q E h => ?_) (fun cdv A outer s H vs Q E hr h => ?_)
  · obtain ⟨a, L, rfl, _⟩ := h
    rfl
  · obtain ⟨a, L, rfl, hS, hL, hlen, q⟩ := h
    obtain ⟨tl, hl⟩ := T.last
    have nd := scGa.nd
    refine ⟨_, pss_cons (ps_set (i := 1) nd rfl (.inl rfl) (pe_lst pa_nil))
      (pss_cons (ps_set (i := 2) nd rfl (.inl rfl) pe_int)
      (pss_cons (ps_for PassesOwn.never rfl (pi_tup (pv 0)) (pg_tup rfl (pgs_cons (pg_name (i := 3) nd rfl (.inl rfl)) (pgs_cons (pg_name (i := 4) nd rfl (.inl rfl)) pgs_nil)))
        (Evl.pss_cut (ps_if (pt_cmpR op_lt (pv 2) (pv 3) (nomark _)) (pss_one (ps_expr (pe_bm PySem.F.plainAttrs_list PySem.F.slot_list_append PySem.F.type_list_append mt_append (pv 1) (pa_cons (pe_tup (pa_cons (pv 2) (pa_cons (pe_op op_sub (pv 3) pe_int) pa_nil))) pa_nil)))) pss_nil)
        (pss_one (ps_set (i := 2) nd rfl (.inl rfl) (pe_op op_add (pv 4) pe_int)))))
      (pss_cons (ps_if (pt_cmpR op_le (pv 2) (pe_glob (v := .int lastP) (by rfl) hl ⟨tl, rfl⟩) (nomark _)) (pss_one (ps_expr (pe_bm PySem.F.plainAttrs_list PySem.F.slot_list_append PySem.F.type_list_append mt_append (pv 1) (pa_cons (pe_tup (pa_cons (pv 2) (pa_cons (pe_glob (v := .int lastP) (by rfl) hl ⟨tl, rfl⟩) pa_nil))) pa_nil)))) pss_nil)
      (pss_one (ps_ret (pv 1)))))), ?_⟩
    refine ⟨Nat.zero_le _, fun o no => ?_⟩
    have s1 := same_lay (o := .lst []) no
    have two : 2 ≤ sizeLine := by decide
    refine ⟨_, rfl, a, rfl, ⟨_, sameT s1 hS⟩, for_tup (K := K) (a := a) (xs := refs L) (fun i σ H' => ∃ (st : Int) (f l : Option V) (N : List ARow), σ = [some (.ref a), some (.ref o), some (.int st), f, l] ∧ H' o = some (.lst (refs N)) ∧ AtR H' N ∧ rws N ++ gp st ((rws L).drop i) = gp 0 (rws L) ∧ Fre o (upd H o (.lst [])) H' ∧ N.length ≤ i)
      ⟨0, none, none, [], rfl, upd_same, (fun _ z => nomatch z), rfl, Fre.refl _ _, Nat.le_refl _⟩ (fun i σ H' _ ⟨_, _, _, _, _, _, _, _, fr, _⟩ => sameT (fun c u e => fr c u (s1 c u e) (ne_of_none e no)) hS) ?_ ?_⟩
    · rintro i y σ H' hy ⟨st, f, l, N, rfl, ho, hN, hE, fr, hNl⟩
      obtain ⟨z, hz, hzL, rfl⟩ := refs_get hy
      have hil : i < L.length := (List.getElem?_eq_some_iff.mp hz).1
      have sH : Same H H' := fun c u e => fr c u (s1 c u e) (ne_of_none e no)
      have ez := sH _ _ (hL z hzL)
      rw [drop_at hz, gp_cons] at hE
      refine ⟨z.1, _, rfl, .inl (.inl ez), rfl, _, _, rfl, _, _, rfl, rfl, ?_⟩
      refine ⟨fun σ' H'' => ∃ N' : List ARow, σ' = [some (.ref a), some (.ref o), some (.int st), some (.int z.2.1), some (.int z.2.2)] ∧ H'' o = some (.lst (refs N')) ∧ AtR H'' N' ∧ rws N' = rws N ++ (if st < z.2.1 then [(st, z.2.1 - 1)] else []) ∧ Fre o (upd H o (.lst [])) H'' ∧ N'.length ≤ i + 1, ?_, ?_⟩
      · refine ⟨_, rfl, _, rfl, _, _, rfl, rfl, _, rfl, ite2 (fun c => ?_) (fun c => ?_)⟩
        · have hc : st < z.2.1 := of_decide_eq_true c
          refine ⟨_, rfl, .inl ⟨rfl, _, .inl (.inl ho)⟩, _, rfl, _, rfl, _, _, rfl, rfl, two, fun T' hT => ?_⟩
          have s4 := same_lay (o := .tup [.int st, .int (z.2.1 - 1)]) hT
          have noT : T' ≠ o := (ne_of_none ho hT).symm
          refine ⟨o, refs N, _, rfl, rfl, s4 _ _ ho, small1000 (by rw [refs_len]; omega), ?_⟩
          refine ⟨N ++ [(T', (st, z.2.1 - 1))], rfl, by rw [upd_same, refs_snoc], fun q hq => ?_, ?_, (fr.trans (fun b' u e _ => s4 b' u e)).trans Fre.put, by rw [List.length_append]; exact Nat.succ_le_succ hNl⟩
          · rcases List.mem_append.mp hq with k | k
            · rw [upd_ne (ne_of (hN q k) ho (by intro w; cases w))]
              exact s4 _ _ (hN q k)
            · rw [List.mem_singleton.mp k, upd_ne noT]
              exact upd_same
          · rw [rws_snoc, if_pos hc]
        · have hc : ¬ st < z.2.1 := fun w => c (decide_eq_true w)
          refine ⟨N, rfl, ho, hN, ?_, fr, Nat.le_succ_of_le hNl⟩
          rw [if_neg hc, List.append_nil]
      · rintro σ' H2 ⟨N', rfl, ho2, hN2, hE2, fr2, hNl2⟩
        refine ⟨_, rfl, _, _, rfl, rfl, z.2.2 + 1, _, _, N', rfl, ho2, hN2, ?_, fr2, hNl2⟩
        rw [hE2, List.append_assoc]
        exact hE
    · rintro σ H' ⟨st, f, l, N, rfl, ho, hN, hE, fr, hNl⟩
      rw [refs_len] at hE hNl
      rw [List.drop_eq_nil_of_le (by rw [rws_len]; exact Nat.le_refl _), gp_nil] at hE
      have sH : Same H H' := fun c u e => fr c u (s1 c u e) (ne_of_none e no)
      refine ⟨_, rfl, _, _, rfl, rfl, _, rfl, ite2 (fun c => ?_) (fun c => ?_)⟩
      · have hc : st ≤ lastP := of_decide_eq_true c
        refine ⟨_, rfl, .inl ⟨rfl, _, .inl (.inl ho)⟩, _, rfl, two, fun T' hT => ?_⟩
        have s4 := same_lay (o := .tup [.int st, .int lastP]) hT
        have noT : T' ≠ o := (ne_of_none ho hT).symm
        refine ⟨o, refs N, _, rfl, rfl, s4 _ _ ho, small1000 (by rw [refs_len]; omega), _, rfl, ?_⟩
        refine q o (N ++ [(T', (st, lastP))]) _ no (by rw [upd_same, refs_snoc]) (fun q hq => ?_) (by rw [rws_snoc, ← hE, if_pos hc]) fun c u e => by rw [upd_ne (ne_of_none e no)]; exact s4 _ _ (sH _ _ e)
        rcases List.mem_append.mp hq with k | k
        · rw [upd_ne (ne_of (hN q k) ho (by intro w; cases w))]
          exact s4 _ _ (hN q k)
        · rw [List.mem_singleton.mp k, upd_ne noT]
          exact upd_same
      · have hc : ¬ st ≤ lastP := fun w => c (decide_eq_true w)
        rw [if_neg hc, List.append_nil] at hE
        exact ⟨_, rfl, q o N H' no ho hN hE sH⟩
end
end OR

namespace OR
open PySem PySem.Spec PyProof.Rows L2
/-! ### Places joined and cut -/
structure IsQ (C : Addr) (H : Hp) (x : Addr) (l : List Row) : Prop where
  is : IsP C H x l
  ok : ∀ r ∈ l, okRow r = true
theorem IsQ.same {C : Addr} {H H' : Hp} {x : Addr} {l : List Row} (h : IsQ C H x l) (s : Same H H') : IsQ C H' x l := ⟨h.is.same s, h.ok⟩
theorem okq {l n : List Row} {C : Addr} {H : Hp} {x : Addr} (h : IsP C H x n) (me : ∀ z, mem n z ↔ mem l z) (ok : ∀ r ∈ l, okRow r = true) : IsQ C H x n := ⟨h, ok_of_mem h.nf me ok⟩
theorem mem_bd {l : List Row} (ok : ∀ r ∈ l, okRow r = true) {z : Int} (h : mem l z) : 0 ≤ z ∧ z ≤ lastP := by
  obtain ⟨r, hr, h1, h2⟩ := h
  have := okRow_iff (ok r hr)
  omega
abbrev Set2 := (Int → Prop) → (Int → Prop) → Int → Prop
def fOr : Set2 := fun p q z => p z ∨ q z
def fAnd : Set2 := fun p q z => p z ∧ q z
def fSub : Set2 := fun p q z => p z ∧ ¬ q z
def fXor : Set2 := fun p q z => (p z ∧ ¬ q z) ∨ (q z ∧ ¬ p z)
def bOr : Nat → Nat → Nat := fun a b => a + b
def bSub : Nat → Nat → Nat := fun a b => a + b + 1
def bXor : Nat → Nat → Nat := fun a b => 2 * (a + b + 1)
/-- an operator of two sets of places -/
def spBin (C : Addr) (F : Set2) (bd : Nat → Nat → Nat) : Sp := fun vs H Q _ => ∃ x y l m, vs = [.ref x, .ref y] ∧ IsQ C H x l ∧ IsQ C H y m ∧ bd l.length m.length ≤ 1000 ∧
  ∀ (z : Addr) (n : List Row) (H' : Hp), H z = none → IsQ C H' z n → (∀ t, mem n t ↔ F (mem l) (mem m) t) → n.length ≤ bd l.length m.length → Same H H' → Q (.ref z) H'
def spWithin (C : Addr) : Sp := fun vs H Q _ => ∃ x y l m, vs = [.ref x, .ref y] ∧ IsQ C H x l ∧ IsQ C H y m ∧ l.length + m.length < 1000 ∧ ∀ (b : Bool) (H' : Hp), (b = true ↔ ∀ t, mem l t → mem m t) → Same H H' → Q (.bl b) H'
section
variable {P : Program} {w : World} {K : PySem.W.Frag} {mg : Str → Option Value} {base : Heap}
theorem sc2 {st : Stmt} (h1 : (defScope st).kind = .function) (h2 : (defScope st).isCoroutine = false) (h3 : (defScope st).isGenerator = false) (h4 : ∀ x ∈ (["self", "other"] : List Str), (defScope st).names.lookup x = some .local ∨ (defScope st).names.lookup x = some .cell) (h5 : ∀ y ∈ (defScope st).names, y.2 ≠ .free) : FnScope ["self", "other"] ["self", "other"] (defScope st) := ⟨h1, h2, h3, by decide +kernel, rfl, h4, h5⟩
theorem scOr : FnScope ["self", "other"] ["self", "other"] (defScope sPlOr) := sc2 rfl rfl rfl (by decide +kernel) (by decide +kernel)
theorem scAnd : FnScope ["self", "other"] ["self", "other"] (defScope sPlAnd) := sc2 rfl rfl rfl (by decide +kernel) (by decide +kernel)
theorem scSub : FnScope ["self", "other"] ["self", "other"] (defScope sPlSub) := sc2 rfl rfl rfl (by decide +kernel) (by decide +kernel)
theorem scXor : FnScope ["self", "other"] ["self", "other"] (defScope sPlXor) := sc2 rfl rfl rfl (by decide +kernel) (by decide +kernel)
theorem scWi : FnScope ["self", "other"] ["self", "other"] (defScope sPlWithin) := sc2 rfl rfl rfl (by decide +kernel) (by decide +kernel)
theorem rws_app (L M : List ARow) : rws (L ++ M) = rws L ++ rws M := by
  unfold rws
  rw [List.map_append]
theorem refs_app (L M : List ARow) : refs (L ++ M) = refs L ++ refs M := by
  unfold refs
  rw [List.map_append]
theorem ok_or {f C : Addr} {fd : FuncData} (F : Fun K "__or__" "Places.__or__" sPlOr f fd) (M : PMk' P w K mg base C) : FnOk P w K mg base CX0 6 f fd ["self", "other"] (spBin C fOr bOr) := by
  have T := M.T
  refine F.ok scOr (fun vs H Q E h => ?_) (fun cdv A outer s H vs Q E hr h => ?_)
  · obtain ⟨x, y, l, m, rfl, _⟩ := h
    rfl
  · obtain ⟨x, y, l, m, rfl, hx, hy, hb, q⟩ := h
    obtain ⟨⟨nf1, dx, t1, f1, b1, L, hx1, ht1, hL, rfl, _⟩, okl⟩ := id hx
    obtain ⟨⟨nf2, dy, t2, f2, b2, N, hy1, ht2, hN, rfl, _⟩, okm⟩ := id hy
    refine ⟨_, pss_one (ps_ret (pe_mkP K rfl M hr (by decide) (by rfl) (pa_cons (pe_op op_catA (pe_fld (pv 0) rfl) (pe_fld (pv 1) rfl)) pa_nil))), ?_⟩
    unfold bOr at hb q
    rw [rws_len, rws_len] at hb q
    have okb : ∀ r ∈ rws (L ++ N), okRow r = true := fun r hr => by
      rw [rws_app] at hr
      exact (List.mem_append.mp hr).elim (okl r) (okm r)
    have fin : ∀ (z : Addr) (n : List Row) (H1 H' : Hp), Same H H1 → H1 z = none → IsP C H' z n → (∀ t, mem n t ↔ mem (rws (L ++ N)) t) → n.length ≤ (L ++ N).length → Same H1 H' → Q (.ref z) H' := fun z n H1 H' s1 nz hz me le s2 =>
      q z n H' (s1.free nz) (okq hz me okb) (fun t => by rw [me t, rws_app, mem_append]; exact Iff.rfl) (by rw [List.length_append] at le; exact le) (s1.trans s2)
    refine ⟨_, rfl, x, C, dx, _, _, rfl, hx1, T.cl, T.nS, pFl_s _ _ _, _, rfl, y, C, dy, _, _, rfl, hy1, T.cl, T.nS, pFl_s _ _ _, t1, t2, refs L, refs N, rfl, rfl, .inl (.inl ht1), .inl (.inl ht2), ?_, fun e => ?_, fun e e2 => ?_, fun e e2 p np => ?_⟩
    · rw [refs_len, refs_len]
      exact small_l hb
    · have e1 : L = [] := List.map_eq_nil_iff.mp e
      refine ⟨t2, N, rfl, .inr (.inl (.inl ht2)), by omega, hN.pairs, okm, fun z n H' nz hz me le s => fin z n H H' (Same.refl _) nz hz (by rw [e1]; exact me) (by rw [e1]; exact le) s⟩
    · have e1 : N = [] := List.map_eq_nil_iff.mp e2
      refine ⟨t1, L, rfl, .inr (.inl (.inl ht1)), by omega, hL.pairs, okl, fun z n H' nz hz me le s => fin z n H H' (Same.refl _) nz hz (by rw [e1, List.append_nil]; exact me) (by rw [e1, List.append_nil]; exact le) s⟩
    · have s1 := same_lay (o := .tup (refs L ++ refs N)) np
      refine ⟨p, L ++ N, rfl, .inr (.inl (.inl ?_)), by rw [List.length_append]; exact hb, fun g hg => (List.mem_append.mp hg).elim (fun k => (hL.same s1).pairs g k) (fun k => (hN.same s1).pairs g k), okb, fun z n H' nz hz me le s => fin z n _ H' s1 nz hz me le s⟩
      rw [refs_app]
      exact upd_same
theorem ok_and {f C : Addr} {fd : FuncData} (F : Fun K "__and__" "Places.__and__" sPlAnd f fd) (M : PMk' P w K mg base C) (CO : Cl P w K mg base 2 "_common" ["ones", "others"] (spCommon K)) : FnOk P w K mg base CX0 6 f fd ["self", "other"] (spBin C fAnd bOr) := by
  have T := M.T
  refine F.ok scAnd (fun vs H Q E h => ?_) (fun cdv A outer s H vs Q E hr h => ?_)
  · obtain ⟨x, y, l, m, rfl, _⟩ := h
    rfl
  · obtain ⟨x, y, l, m, rfl, hx, hy, hb, q⟩ := h
    obtain ⟨⟨nf1, dx, t1, f1, b1, L, hx1, ht1, hL, rfl, _⟩, okl⟩ := id hx
    obtain ⟨⟨nf2, dy, t2, f2, b2, N, hy1, ht2, hN, rfl, _⟩, okm⟩ := id hy
    refine ⟨_, pss_one (ps_ret (pe_mkP K rfl M hr (by decide) (by rfl) (pa_cons (pe_cl CO hr (by decide) (by rfl) (pa_cons (pe_fld (pv 0) rfl) (pa_cons (pe_fld (pv 1) rfl) pa_nil))) pa_nil))), ?_⟩
    unfold bOr at hb q
    rw [rws_len, rws_len] at hb q
    refine ⟨_, rfl, x, C, dx, _, _, rfl, hx1, T.cl, T.nS, pFl_s _ _ _, _, rfl, y, C, dy, _, _, rfl, hy1, T.cl, T.nS, pFl_s _ _ _, t1, t2, L, N, rfl, .inr (.inl (.inl ht1)), .inr (.inl (.inl ht2)), hL, hN, hb, fun o G H1 no ho hG eG s1 => ?_⟩
    have lenG : G.length ≤ L.length + N.length := by
      have := com_len (rws L) (rws N)
      rw [← eG, rws_len, rws_len, rws_len] at this
      exact this
    have okG : ∀ r ∈ rws G, okRow r = true := by rw [eG]; exact com_ok _ _ okl okm
    refine ⟨o, G, rfl, .inl (.inl (.inl ho)), by omega, hG.pairs, okG, fun z n H' nz hz me le s2 => ?_⟩
    refine q z n H' (s1.free nz) (okq hz me okG) (fun t => ?_) (by omega) (s1.trans s2)
    rw [me t, eG, com_mem _ _ nf1 nf2]
    exact Iff.rfl
theorem ok_sub {f C : Addr} {fd : FuncData} (F : Fun K "__sub__" "Places.__sub__" sPlSub f fd) (M : PMk' P w K mg base C) (CO : Cl P w K mg base 2 "_common" ["ones", "others"] (spCommon K)) (GA : Cl P w K mg base 1 "_gaps" ["stretches"] (spGaps K)) : FnOk P w K mg base CX0 6 f fd ["self", "other"] (spBin C fSub bSub) := by
  have T := M.T
  refine F.ok scSub (fun vs H Q E h => ?_) (fun cdv A outer s H vs Q E hr h => ?_)
  · obtain ⟨x, y, l, m, rfl, _⟩ := h
    rfl
  · obtain ⟨x, y, l, m, rfl, hx, hy, hb, q⟩ := h
    obtain ⟨⟨nf1, dx, t1, f1, b1, L, hx1, ht1, hL, rfl, _⟩, okl⟩ := id hx
    obtain ⟨⟨nf2, dy, t2, f2, b2, N, hy1, ht2, hN, rfl, _⟩, okm⟩ := id hy
    refine ⟨_, pss_one (ps_ret (pe_mkP K rfl M hr (by decide) (by rfl) (pa_cons (pe_cl CO hr (by decide) (by rfl) (pa_cons (pe_fld (pv 0) rfl) (pa_cons (pe_cl GA hr (by decide) (by rfl) (pa_cons (pe_fld (pv 1) rfl) pa_nil)) pa_nil))) pa_nil))), ?_⟩
    unfold bSub at hb q
    rw [rws_len, rws_len] at hb q
    have lo : ∀ r ∈ rws N, (0 : Int) ≤ r.1 := fun r hr => (okRow_iff (okm r hr)).1
    have hi : ∀ r ∈ rws N, r.2 ≤ lastP := fun r hr => (okRow_iff (okm r hr)).2.2
    refine ⟨_, rfl, x, C, dx, _, _, rfl, hx1, T.cl, T.nS, pFl_s _ _ _, _, rfl, y, C, dy, _, _, rfl, hy1, T.cl, T.nS, pFl_s _ _ _, t2, N, rfl, .inl (.inl ht2), hN, by omega, fun u U H1 nu hu hU eU s1 => ?_⟩
    have lenU : U.length ≤ N.length + 1 := by
      have := gp_len (rws N) 0
      rw [← eU, rws_len, rws_len] at this
      exact this
    have okU : ∀ r ∈ rws U, okRow r = true := by rw [eU]; exact gp_ok _ _ (Int.le_refl _) okm
    have nfU : Nf (rws U) := by rw [eU]; exact gp_nf _ _ nf2 lo
    refine ⟨t1, u, L, U, rfl, .inr (.inl (.inl (s1 _ _ ht1))), .inl (.inl (.inl hu)), hL.same s1, hU, by omega, fun o G H2 no ho hG eG s2 => ?_⟩
    have lenG : G.length ≤ L.length + N.length + 1 := by
      have := com_len (rws L) (rws U)
      rw [← eG, rws_len, rws_len, rws_len] at this
      omega
    have okG : ∀ r ∈ rws G, okRow r = true := by rw [eG]; exact com_ok _ _ okl okU
    refine ⟨o, G, rfl, .inl (.inl (.inl ho)), by omega, hG.pairs, okG, fun z n H' nz hz me le s3 => ?_⟩
    refine q z n H' ((s1.trans s2).free nz) (okq hz me okG) (fun t => ?_) (by omega) ((s1.trans s2).trans s3)
    rw [me t, eG, com_mem _ _ nf1 nfU, eU, gp_mem _ _ nf2 lo hi]
    constructor
    · exact fun h => ⟨h.1, h.2.2.2⟩
    · intro h
      have := mem_bd okl h.1
      exact ⟨h.1, this.1, this.2, h.2⟩
theorem ok_xor {f C : Addr} {fd : FuncData} (F : Fun K "__xor__" "Places.__xor__" sPlXor f fd) (sf : PySem.W.selfFirst K C = true) (OO : Md P w K mg base 6 C (PySem.dunder (Operator.info .BitOr).2) (spBin C fOr bOr)) (OS : Md P w K mg base 6 C (PySem.dunder (Operator.info .Sub).2) (spBin C fSub bSub)) : FnOk P w K mg base CX0 7 f fd ["self", "other"] (spBin C fXor bXor) := by
  refine F.ok scXor (fun vs H Q E h => ?_) (fun cdv A outer s H vs Q E hr h => ?_)
  · obtain ⟨x, y, l, m, rfl, _⟩ := h
    rfl
  · obtain ⟨x, y, l, m, rfl, hx, hy, hb, q⟩ := h
    refine ⟨_, pss_one (ps_ret (pe_op (op_binS OO sf hr) (pe_op (op_binS OS sf hr) (pv 0) (pv 1)) (pe_op (op_binS OS sf hr) (pv 1) (pv 0)))), ?_⟩
    unfold bXor at hb q
    obtain ⟨⟨_, dx, t1, f1, b1, L, hx1, _⟩, okl⟩ := id hx
    obtain ⟨⟨_, dy, t2, f2, b2, N, hy1, _⟩, okm⟩ := id hy
    refine ⟨_, rfl, _, rfl, x, y, dx, dy, _, _, rfl, rfl, hx1, hy1, x, y, l, m, rfl, hx, hy, (by unfold bSub; omega), fun z n H1 nz hz me le s1 => ?_⟩
    refine ⟨_, rfl, _, rfl, y, x, dy, dx, _, _, rfl, rfl, s1 _ _ hy1, s1 _ _ hx1, y, x, m, l, rfl, hy.same s1, hx.same s1, (by unfold bSub; omega), fun z2 n2 H2 nz2 hz2 me2 le2 s2 => ?_⟩
    have hz' := hz.same s2
    obtain ⟨⟨_, dz, _, _, _, _, hz1, _⟩, _⟩ := id hz'
    obtain ⟨⟨_, dz2, _, _, _, _, hz21, _⟩, _⟩ := id hz2
    unfold bSub at le le2
    refine ⟨z, z2, dz, dz2, _, _, rfl, rfl, hz1, hz21, z, z2, n, n2, rfl, hz', hz2, (by unfold bOr; omega), fun z3 n3 H3 nz3 hz3 me3 le3 s3 => ?_⟩
    unfold bOr at le3
    refine q z3 n3 H3 ((s1.trans s2).free nz3) hz3 (fun t => ?_) (by omega) ((s1.trans s2).trans s3)
    rw [me3 t]
    unfold fOr
    rw [me t, me2 t]
    exact Iff.rfl
theorem isEmpty_mem {n : List Row} (nf : Nf n) : n.isEmpty = true ↔ ∀ t, ¬ mem n t := by
  cases n with
  | nil => exact ⟨fun _ t => mem_nil t, fun _ => rfl⟩
  | cons r n =>
    constructor
    · intro h
      cases h
    · intro h
      exact absurd (mem_cons.mpr (.inl ⟨Int.le_refl _, nf.head⟩)) (h r.1)
theorem bt_boolO : bootBuiltins ("bool" : Str) = some (.type "bool") := bt_bool
theorem ok_within {f C : Addr} {fd : FuncData} (F : Fun K "within" "Places.within" sPlWithin f fd) (T : PTxt K mg C) (sf : PySem.W.selfFirst K C = true) (OS : Md P w K mg base 6 C (PySem.dunder (Operator.info .Sub).2) (spBin C fSub bSub)) (BO : Md P w K mg base 1 C "__bool__" (spPlBool C)) : FnOk P w K mg base CX0 7 f fd ["self", "other"] (spWithin C) := by
  refine F.ok scWi (fun vs H Q E h => ?_) (fun cdv A outer s H vs Q E hr h => ?_)
  · obtain ⟨x, y, l, m, rfl, _⟩ := h
    rfl
  · obtain ⟨x, y, l, m, rfl, hx, hy, hb, q⟩ := h
    refine ⟨_, pss_one (ps_ret (pe_not (pe_callTy (call_boolO BO (hr.mono (by decide))) (by rfl) T.zBool bt_bool (pa_cons (pe_op (op_binS OS sf hr) (pv 0) (pv 1)) pa_nil)))), ?_⟩
    obtain ⟨⟨_, dx, t1, f1, b1, L, hx1, _⟩, okl⟩ := id hx
    obtain ⟨⟨_, dy, t2, f2, b2, N, hy1, _⟩, okm⟩ := id hy
    refine ⟨_, rfl, _, rfl, x, y, dx, dy, _, _, rfl, rfl, hx1, hy1, x, y, l, m, rfl, hx, hy, (by unfold bSub; omega), fun z n H1 nz hz me le s1 => ?_⟩
    obtain ⟨⟨_, dz, _, _, _, _, hz1, _⟩, _⟩ := id hz
    refine ⟨z, dz, _, rfl, hz1, z, n, rfl, hz.is, _, rfl, _, rfl, q _ H1 ?_ s1⟩
    rw [Bool.not_not, isEmpty_mem hz.is.nf]
    constructor
    · intro h t ht
      exact Classical.byContradiction fun k => h t ((me t).mpr ⟨ht, k⟩)
    · intro h t ht
      have := (me t).mp ht
      exact this.2 (h t this.1)
end
end OR

namespace OR
open PySem PySem.Spec PyProof.Rows L2
section
variable {P : Program} {w : World} {K : PySem.W.Frag} {mg : Str → Option Value} {base : Heap}
theorem scWhole : FnScope ["_law_pen_here", "_law_size"] ["_law_pen_here"] (defScope sWhole) := ⟨rfl, rfl, rfl, by decide +kernel, rfl, by decide +kernel, by decide +kernel⟩
theorem ok_whole {f : Addr} {fd : FuncData} (F : Fun K "_law_whole" "_law_whole" sWhole f fd) (D : Cl P w K mg base 1 "_law_draw" ["_law_pen_here", "_law_many"] spDraw) (C : Cl P w K mg base 2 "_law_pick" ["_law_pen_here", "_law_items"] (spPick K)) :
    FnOk P w K mg base CX0 3 f fd ["_law_pen_here"] spWhole := by
  refine F.ok scWhole (fun vs H Q E h => ?_) (fun cdv A outer s H vs Q E hr h => ?_)
  · obtain ⟨p, n, rfl, _⟩ := h
    rfl
  · obtain ⟨p, n, rfl, hP, hn, q⟩ := h
    refine ⟨_, pss_cons (ps_set (i := 1) scWhole.nd rfl (.inl rfl) (pe_cl C hr (by decide) (by rfl) (pa_cons (pv 0) (pa_cons (pe_lst (pa_cons pe_int (pa_cons pe_int (pa_cons pe_int (pa_cons (pe_op op_pow pe_int pe_int) (pa_cons (pe_op op_pow pe_int pe_int) pa_nil)))))) pa_nil))))
      (pss_one (ps_ret (pe_op op_mul (pe_cl D hr (by decide) (by rfl) (pa_cons (pv 0) (pa_cons (pv 1) pa_nil))) (pe_cl C hr (by decide) (by rfl) (pa_cons (pv 0) (pa_cons (pe_lst (pa_cons pe_int (pa_cons pe_int (pa_cons (pe_un un_neg pe_int) pa_nil)))) pa_nil)))))), ?_⟩
    refine ⟨_, rfl, _, _, rfl, rfl, ⟨by decide, by decide, by decide⟩, _, _, rfl, rfl, ⟨by decide, by decide, by decide⟩, by show 5 ≤ sizeLine; decide, fun a ha => ?_⟩
    have P1 := hP.new (o := .lst [.int 3, .int 10, .int 100, .int (10 ^ (6 : Int).toNat), .int (10 ^ (30 : Int).toNat)]) ha
    refine ⟨p, a, _, n, rfl, .inl (.inl upd_same), by show 0 < 5; decide, by show 5 ≤ 1000; decide, P1, by omega, fun v H2 hv P2 F2 => ?_⟩
    obtain ⟨m, rfl, hm0, hm1⟩ : ∃ m : Int, v = .int m ∧ 0 < m ∧ m ≤ 10 ^ 30 := by
      simp only [List.mem_cons, List.not_mem_nil, or_false] at hv
      rcases hv with e | e | e | e | e <;> subst e <;> exact ⟨_, rfl, by decide, by decide⟩
    have hmb : m.natAbs < 2 ^ 200 := by
      have : m.natAbs ≤ 10 ^ 30 := by omega
      exact Nat.lt_of_le_of_lt this (by decide)
    refine ⟨_, rfl, _, rfl, p, m, n + 1, rfl, hm0, hmb, P2, by omega, fun r H3 hr0 hr1 P3 F3 => ?_⟩
    refine ⟨_, rfl, _, rfl, by show 3 ≤ sizeLine; decide, fun b hb => ?_⟩
    refine ⟨p, b, _, n + 2, rfl, .inl (.inl upd_same), by show 0 < 3; decide, by show 3 ≤ 1000; decide, P3.new hb, by omega, fun v H4 hv P4 F4 => ?_⟩
    obtain ⟨s, rfl, hs⟩ : ∃ s : Int, v = .int s ∧ (s = 1 ∨ s = -1) := by
      simp only [List.mem_cons, List.not_mem_nil, or_false] at hv
      rcases hv with e | e | e <;> subst e
      · exact ⟨_, rfl, .inl rfl⟩
      · exact ⟨_, rfl, .inl rfl⟩
      · exact ⟨_, rfl, .inr rfl⟩
    refine ⟨r, s, rfl, rfl, .inr (by constructor <;> omega), q _ _ ?_ ?_ P4 ((((Frm.new ha).trans F2).trans F3).trans ((Frm.new hb).trans F4))⟩
    · rcases hs with rfl | rfl <;> omega
    · rcases hs with rfl | rfl <;> omega
end
end OR

namespace OR
open PySem PySem.Spec PyProof.Rows L2
/-! ### maths: how many places -/
theorem tot_from (l : List Row) (t : Int) : l.foldl (fun t r => t + r.2 - r.1 + 1) t = t + tot l := by
  induction l generalizing t with
  | nil =>
    show t = t + 0
    omega
  | cons r l ih =>
    show l.foldl (fun t r => t + r.2 - r.1 + 1) (t + r.2 - r.1 + 1) = t + l.foldl (fun t r => t + r.2 - r.1 + 1) (0 + r.2 - r.1 + 1)
    rw [ih, ih]
    omega
theorem tot_cons (r : Row) (l : List Row) : tot (r :: l) = (r.2 - r.1 + 1) + tot l := by
  show l.foldl (fun t r => t + r.2 - r.1 + 1) (0 + r.2 - r.1 + 1) = _
  rw [tot_from]
  omega
theorem tot_nil : tot [] = 0 := rfl
theorem tot_nonneg : ∀ {l : List Row}, Nf l → 0 ≤ tot l
  | [], _ => Int.le_refl _
  | r :: l, n => by
    have := tot_nonneg n.tail
    have := n.head
    rw [tot_cons]
    omega
theorem nf_filter {l : List Row} (n : Nf l) (p : Row → Bool) : Nf (l.filter p) := ⟨fun r hr => n.ok r (List.mem_filter.mp hr).1, n.gap.sublist List.filter_sublist⟩
theorem tot_parts (p : Row → Bool) : ∀ l : List Row, tot l = tot (l.filter p) + tot (l.filter fun r => !p r)
  | [] => rfl
  | r :: l => by
    rw [tot_cons, tot_parts p l]
    cases h : p r with
    | true =>
      rw [List.filter_cons_of_pos h, List.filter_cons_of_neg (by simp [h]), tot_cons]
      omega
    | false =>
      rw [List.filter_cons_of_neg (by simp [h]), List.filter_cons_of_pos (by simp [h]), tot_cons]
      omega
/-- rows that stand within a stretch -/
theorem tot_in : ∀ {m : List Row} {a b : Int}, Nf m → (∀ q ∈ m, a ≤ q.1 ∧ q.2 ≤ b) → a ≤ b + 1 → tot m ≤ b - a + 1 ∧ (tot m = b - a + 1 → a ≤ b → m = [(a, b)])
  | [], a, b, _, _, h => ⟨by rw [tot_nil]; omega, fun e _ => by rw [tot_nil] at e; omega⟩
  | q :: m, a, b, n, hin, h => by
    have hq := hin q List.mem_cons_self
    have hh := n.head
    rw [tot_cons]
    cases m with
    | nil =>
      rw [tot_nil]
      refine ⟨by omega, fun e _ => ?_⟩
      have e1 : q.1 = a := by omega
      have e2 : q.2 = b := by omega
      rw [← e1, ← e2]
    | cons s m =>
      have hs := hin s (List.mem_cons_of_mem _ List.mem_cons_self)
      have hg := (List.pairwise_cons.mp n.gap).1
      have hss := n.tail.head
      have h1 := hg s List.mem_cons_self
      have ih := tot_in (m := s :: m) (a := q.2 + 2) (b := b) n.tail (fun t ht => ⟨by have := hg t ht; omega, (hin t (List.mem_cons_of_mem _ ht)).2⟩) (by omega)
      exact ⟨by omega, fun e _ => by omega⟩
/-- fewer places: fewer in number -/
theorem tot_sub : ∀ {l m : List Row}, Nf l → Nf m → (∀ z, mem m z → mem l z) → tot m ≤ tot l ∧ (tot m = tot l → ∀ z, mem l z → mem m z)
  | [], m, _, nm, h => by
    cases m with
    | nil => exact ⟨Int.le_refl _, fun _ z hz => hz⟩
    | cons q m => exact absurd (h q.1 (mem_cons.mpr (.inl ⟨Int.le_refl _, nm.head⟩))) (mem_nil _)
  | r :: l, m, nl, nm, h => by
    have hr := nl.head
    have hb : ∀ {z : Int}, mem l z → r.2 + 1 < z := fun hz => nl.behind hz
    have inL : ∀ q ∈ m, ∀ z, q.1 ≤ z → z ≤ q.2 → mem (r :: l) z := fun q hq z h1 h2 => h z ⟨q, hq, h1, h2⟩
    have p1 := tot_parts (fun q => decide (q.1 ≤ r.2)) m
    have n1 := nf_filter nm (fun q => decide (q.1 ≤ r.2))
    have n2 := nf_filter nm (fun q => !decide (q.1 ≤ r.2))
    generalize h1 : m.filter (fun q => decide (q.1 ≤ r.2)) = m1 at p1 n1
    generalize h2 : m.filter (fun q => !decide (q.1 ≤ r.2)) = m2 at p1 n2
    have w1 : ∀ q ∈ m1, q ∈ m ∧ q.1 ≤ r.2 := fun q hq => by
      rw [← h1] at hq
      have := List.mem_filter.mp hq
      exact ⟨this.1, of_decide_eq_true this.2⟩
    have w2 : ∀ q ∈ m2, q ∈ m ∧ r.2 < q.1 := fun q hq => by
      rw [← h2] at hq
      have := List.mem_filter.mp hq
      have k : ¬ q.1 ≤ r.2 := fun z => by
        have t := this.2
        rw [decide_eq_true z] at t
        cases t
      exact ⟨this.1, by omega⟩
    have a1 := tot_in (a := r.1) (b := r.2) n1 (fun q hq => by
      obtain ⟨hm, hle⟩ := w1 q hq
      have hqq := nm.ok q hm
      have k1 := mem_cons.mp (inL q hm q.1 (Int.le_refl _) hqq)
      have k2 : q.2 ≤ r.2 := by
        by_cases c : q.2 ≤ r.2
        · exact c
        · have := mem_cons.mp (inL q hm (r.2 + 1) (by omega) (by omega))
          rcases this with t | t
          · omega
          · have := hb t
            omega
      rcases k1 with t | t
      · exact ⟨t.1, k2⟩
      · have := hb t
        omega) (by omega)
    have ih := tot_sub (l := l) (m := m2) nl.tail n2 (fun z ⟨q, hq, k1, k2⟩ => by
      obtain ⟨hm, hgt⟩ := w2 q hq
      rcases mem_cons.mp (inL q hm z k1 k2) with t | t
      · omega
      · exact t)
    rw [tot_cons, p1]
    refine ⟨by omega, fun e z hz => ?_⟩
    have e1 : tot m1 = r.2 - r.1 + 1 := by omega
    have e2 : tot m2 = tot l := by omega
    have f1 := a1.2 e1 hr
    rcases mem_cons.mp hz with t | t
    · have : (r.1, r.2) ∈ m1 := by rw [f1]; exact List.mem_singleton.mpr rfl
      exact ⟨_, (w1 _ this).1, t.1, t.2⟩
    · obtain ⟨q, hq, k1, k2⟩ := ih.2 e2 z t
      exact ⟨q, (w2 q hq).1, k1, k2⟩
/-- moved rows -/
def mv (d : Int) (l : List Row) : List Row := l.map fun r => (r.1 + d, r.2 + d)
theorem mv_mem (d : Int) : ∀ (l : List Row) (z : Int), mem (mv d l) z ↔ mem l (z - d)
  | [], z => ⟨fun h => absurd h (mem_nil _), fun h => absurd h (mem_nil _)⟩
  | r :: l, z => by
    show mem ((r.1 + d, r.2 + d) :: mv d l) z ↔ _
    rw [mem_cons, mem_cons, mv_mem d l z]
    dsimp only
    constructor <;> (rintro (h | h); exact .inl (by omega); exact .inr h)
theorem mv_nf {d : Int} {l : List Row} (n : Nf l) : Nf (mv d l) := by
  refine ⟨fun q hq => ?_, ?_⟩
  · obtain ⟨r, hr, rfl⟩ := List.mem_map.mp hq
    have := n.ok r hr
    dsimp only
    omega
  · refine List.pairwise_map.mpr (n.gap.imp fun {a b} h => ?_)
    dsimp only
    omega
theorem mv_tot (d : Int) : ∀ l : List Row, tot (mv d l) = tot l
  | [] => rfl
  | r :: l => by
    show tot ((r.1 + d, r.2 + d) :: mv d l) = _
    rw [tot_cons, tot_cons, mv_tot d l]
    dsimp only
    omega
/-- there and back: as many places, if and only if the same -/
theorem size_back {l n b : List Row} {d : Int} (nl : Nf l) (nn : Nf n) (nb : Nf b) (hn : ∀ z, mem n z ↔ (mem l (z - d) ∧ 0 ≤ z ∧ z ≤ lastP)) (hb : ∀ z, mem b z ↔ (mem n (z + d) ∧ 0 ≤ z ∧ z ≤ lastP)) (hl : ∀ z, mem l z → 0 ≤ z ∧ z ≤ lastP) : (tot n = tot l ↔ b = l) := by
  have e : b = mv (-d) n := Nf.unique nb (mv_nf nn) fun z => by
    rw [mv_mem, hb z, show z - -d = z + d by omega]
    refine ⟨fun h => h.1, fun h => ⟨h, ?_⟩⟩
    have := ((hn (z + d)).mp h).1
    rw [show z + d - d = z by omega] at this
    exact hl z this
  have sub : ∀ z, mem b z → mem l z := fun z h => by
    have := ((hn (z + d)).mp ((hb z).mp h).1).1
    rw [show z + d - d = z by omega] at this
    exact this
  have t := tot_sub nl nb sub
  have e2 : tot b = tot n := by rw [e, mv_tot]
  rw [← e2]
  exact ⟨fun h => Nf.unique nb nl fun z => ⟨sub z, t.2 h z⟩, fun h => by rw [h]⟩
end OR

namespace OR
open PySem PySem.Spec PyProof.Rows L2
/-! ### Places moved, turned, counted -/
def cutR (l : List Row) : List Row := (l.filter fun r => decide (0 ≤ r.2) && decide (r.1 ≤ lastP)).map fun r => (mx r.1 0, mn r.2 lastP)
theorem cutR_snoc (l : List Row) (r : Row) : cutR (l ++ [r]) = cutR l ++ (if 0 ≤ r.2 ∧ r.1 ≤ lastP then [(mx r.1 0, mn r.2 lastP)] else []) := by
  unfold cutR
  rw [List.filter_append, List.map_append]
  congr 1
  by_cases h : 0 ≤ r.2 ∧ r.1 ≤ lastP
  · rw [if_pos h, List.filter_cons_of_pos (by simp [h.1, h.2])]
    rfl
  · rw [if_neg h, List.filter_cons_of_neg (by simpa using h)]
    rfl
theorem cutR_ok {l : List Row} (h : ∀ r ∈ l, r.1 ≤ r.2) : ∀ q ∈ cutR l, okRow q = true := fun q hq => by
  obtain ⟨r, hr, rfl⟩ := List.mem_map.mp hq
  obtain ⟨hm, hc⟩ := List.mem_filter.mp hr
  rw [Bool.and_eq_true, decide_eq_true_eq, decide_eq_true_eq] at hc
  have h1 := mx_ok r.1 0
  have h2 := mn_ok r.2 lastP
  have h3 := h r hm
  have h4 : 0 ≤ lastP := by decide
  exact okRow_of (by omega) (by omega) (by omega)
theorem cutR_mem (l : List Row) (z : Int) : mem (cutR l) z ↔ (mem l z ∧ 0 ≤ z ∧ z ≤ lastP) := by
  constructor
  · rintro ⟨q, hq, h1, h2⟩
    obtain ⟨r, hr, rfl⟩ := List.mem_map.mp hq
    obtain ⟨hm, _⟩ := List.mem_filter.mp hr
    have k1 := mx_ok r.1 0
    have k2 := mn_ok r.2 lastP
    dsimp only at h1 h2
    exact ⟨⟨r, hm, by omega, by omega⟩, by omega, by omega⟩
  · rintro ⟨⟨r, hm, h1, h2⟩, h3, h4⟩
    have k1 := mx_ok r.1 0
    have k2 := mn_ok r.2 lastP
    refine ⟨(mx r.1 0, mn r.2 lastP), List.mem_map.mpr ⟨r, List.mem_filter.mpr ⟨hm, ?_⟩, rfl⟩, ?_, ?_⟩
    · rw [Bool.and_eq_true, decide_eq_true_eq, decide_eq_true_eq]
      omega
    · dsimp only
      omega
    · dsimp only
      omega
theorem cutR_len (l : List Row) : (cutR l).length ≤ l.length := by
  unfold cutR
  rw [List.length_map]
  exact List.length_filter_le _ _
def spCutTo (K : PySem.W.Frag) : Sp := fun vs H Q _ => ∃ (a : Addr) (L : List ARow), vs = [.ref a] ∧ SqL K H a (refs L) ∧ AtR H L ∧ L.length ≤ 1000 ∧
  ∀ (o : Addr) (N : List ARow) (H' : Hp), H o = none → H' o = some (.lst (refs N)) → AtR H' N → rws N = cutR (rws L) → Same H H' → Q (.ref o) H'
/-- a set of places turned by a number -/
def spMove (C : Addr) (f : Int → Int → Int) : Sp := fun vs H Q _ => ∃ x d l, vs = [.ref x, .int d] ∧ IsQ C H x l ∧ l.length ≤ 1000 ∧
  ∀ (z : Addr) (n : List Row) (H' : Hp), H z = none → IsQ C H' z n → (∀ t, mem n t ↔ (mem l (f t d) ∧ 0 ≤ t ∧ t ≤ lastP)) → n.length ≤ l.length → Same H H' → Q (.ref z) H'
def spInner (C : Addr) : Sp := fun vs H Q _ => ∃ x l, vs = [.ref x] ∧ IsQ C H x l ∧ l.length ≤ 1000 ∧
  ∀ (z : Addr) (n : List Row) (H' : Hp), H z = none → IsQ C H' z n → (∀ t, mem n t ↔ (mem l t ∧ mem l (t + 1))) → n.length ≤ l.length → Same H H' → Q (.ref z) H'
def spSize (C : Addr) : Sp := fun vs H Q _ => ∃ x l, vs = [.ref x] ∧ IsP C H x l ∧ Q (.int (tot l)) H
theorem call_tupO {X : Cx} (K : PySem.W.Frag) (h : X.K = K) : CallR X (.type "tuple") (rTupOf K) := call_tupOf K h
section
variable {P : Program} {w : World} {K : PySem.W.Frag} {mg : Str → Option Value} {base : Heap}
theorem scCT : FnScope ["pairs", "first", "last"] ["pairs"] (defScope sCutTo) := ⟨rfl, rfl, rfl, by decide +kernel, rfl, by decide +kernel, by decide +kernel⟩
theorem ok_cutto {f C : Addr} {fd : FuncData} (F : Fun K "_cut_to_places" "_cut_to_places" sCutTo f fd) (T : PTxt K mg C) (zMin : mg "min" = none) : FnOk P w K mg base CX0 1 f fd ["pairs"] (spCutTo K) := by
  refine F.ok scCT (fun vs H Q E h => ?_) (fun cdv A outer s H vs Q E hr h => ?_)
  · obtain ⟨a, L, rfl, _⟩ := h
    rfl
  · obtain ⟨a, L, rfl, hS, hL, hlen, q⟩ := h
    obtain ⟨tl, hl⟩ := T.last
    have nd := scCT.nd
    refine ⟨_, pss_one (ps_ret (pe_lc (own := [("first", 1), ("last", 2)]) (g := gTup K 2 (gCons (gName 1) (gCons (gName 2) gNil))) rfl nd (pi_list (pv 0)) (blkOk_by (N := ["pairs", "first", "last"]) (sc := defScope sCutTo) (by decide +kernel))
        (fun _ _ _ _ _ => pg_tup rfl (pgs_cons (pg_name (i := 1) nd rfl (.inl rfl)) (pgs_cons (pg_name (i := 2) nd rfl (.inl rfl)) pgs_nil)))
        (fun _ _ _ _ _ => pts_one (PW.pt (pw_and (pt_cmpR op_ge (pv 2) pe_int (nomark _)) (pw_and1 (pt_cmpR op_le (pv 1) (pe_glob (v := .int lastP) (by rfl) hl ⟨tl, rfl⟩) (nomark _))))))
        (fun _ _ _ _ _ => pe_tup (pa_cons (pe_callB (call_max2 rfl) (by rfl) T.zMax bt_max (pa_cons (pv 1) (pa_cons pe_int pa_nil))) (pa_cons (pe_callB (call_min2 rfl) (by rfl) zMin bt_min (pa_cons (pv 2) (pa_cons (pe_glob (v := .int lastP) (by rfl) hl ⟨tl, rfl⟩) pa_nil))) pa_nil))))), ?_⟩
    refine ⟨_, rfl, a, rfl, ⟨_, hS⟩, fun D hD => lc_list (K := K) (a := a) (xs := refs L) (fun i H2 => ∃ N : List ARow, H2 D = some (.lst (refs N)) ∧ AtR H2 N ∧ rws N = cutR ((rws L).take i) ∧ Same H H2 ∧ N.length ≤ i)
        ⟨[], upd_same, (fun _ z => nomatch z), rfl, same_lay hD, Nat.le_refl _⟩ (fun i H2 _ ⟨_, _, _, _, s, _⟩ => s.seq hS) ?_ ?_⟩
    · rintro i y H2 hy ⟨N, hD2, hN, eN, s2, lN⟩
      obtain ⟨z, hz, hzL, rfl⟩ := refs_get hy
      have hil : i < L.length := (List.getElem?_eq_some_iff.mp hz).1
      have ez := s2 _ _ (hL z hzL)
      have e1 : (rws L).take (i + 1) = (rws L).take i ++ [z.2] := by rw [List.take_add_one, rws_get hz]; rfl
      have nND : ∀ q ∈ N, q.1 ≠ D := fun q hq => ne_of (hN q hq) hD2 (by intro w; cases w)
      have skip : ¬ (0 ≤ z.2.2 ∧ z.2.1 ≤ lastP) → ∃ N' : List ARow, H2 D = some (.lst (refs N')) ∧ AtR H2 N' ∧ rws N' = cutR ((rws L).take (i + 1)) ∧ Same H H2 ∧ N'.length ≤ i + 1 := fun c => ⟨N, hD2, hN, by rw [e1, cutR_snoc, if_neg c, List.append_nil]; exact eN, s2, Nat.le_succ_of_le lN⟩
      refine ⟨z.1, _, rfl, .inl (.inl ez), rfl, _, _, rfl, _, _, rfl, rfl, rfl, ?_⟩
      refine ⟨_, rfl, _, _, rfl, rfl, _, rfl, ite2 (fun c1 => ?_) (fun c1 => ?_)⟩
      · have k1 : 0 ≤ z.2.2 := of_decide_eq_true c1
        refine ⟨_, rfl, _, _, rfl, rfl, _, rfl, ?_⟩
        cases c2 : decide (z.2.1 ≤ lastP) with
        | false =>
          have k2 : ¬ z.2.1 ≤ lastP := of_decide_eq_false c2
          exact iteF (skip fun k => k2 k.2)
        | true =>
          have k2 : z.2.1 ≤ lastP := of_decide_eq_true c2
          refine iteT ?_
          refine ⟨_, rfl, _, _, rfl, _, rfl, _, _, rfl, (by show 2 ≤ sizeLine; decide), fun T' hT => ?_⟩
          have s4 := same_lay (o := .tup [.int (mx z.2.1 0), .int (mn z.2.2 lastP)]) hT
          have nTD : T' ≠ D := (ne_of_none hD2 hT).symm
          refine ⟨refs N, s4 _ _ hD2, small1000 (by rw [refs_len]; omega), N ++ [(T', (mx z.2.1 0, mn z.2.2 lastP))], ?_, fun q hq => ?_, ?_, same_upd (s2.trans s4) hD, by rw [List.length_append]; exact Nat.succ_le_succ lN⟩
          · rw [upd_same, refs_snoc]
          · rcases List.mem_append.mp hq with k | k
            · rw [upd_ne (nND q k)]
              exact s4 _ _ (hN q k)
            · rw [List.mem_singleton.mp k, upd_ne nTD]
              exact upd_same
          · rw [rws_snoc, eN, e1, cutR_snoc, if_pos ⟨k1, k2⟩]
      · have k1 : ¬ 0 ≤ z.2.2 := fun k => c1 (decide_eq_true k)
        exact iteF (skip fun k => k1 k.1)
    · rintro H2 ⟨N, hD2, hN, eN, s2, lN⟩
      rw [refs_len, List.take_of_length_le (by rw [rws_len]; exact Nat.le_refl _)] at eN
      exact q D N H2 hD hD2 hN eN s2
theorem scSf : FnScope ["self", "by", "first", "last"] ["self", "by"] (defScope sPlShift) := ⟨rfl, rfl, rfl, by decide +kernel, rfl, by decide +kernel, by decide +kernel⟩
theorem map_snoc {f : Row → Row} {l : List Row} {i : Nat} {r : Row} (h : l[i]? = some r) : (l.take (i + 1)).map f = (l.take i).map f ++ [f r] := by
  rw [List.take_add_one, h, List.map_append]
  rfl
/-- what comes of the moved rows -/
theorem moved_of {C : Addr} {H H' : Hp} {x z : Addr} {l n : List Row} {f : Row → Row} {g : Int → Int} (hx : IsQ C H x l) (hz : IsP C H' z n) (hf : ∀ r t, r.1 ≤ r.2 → (((f r).1 ≤ t ∧ t ≤ (f r).2) ↔ (r.1 ≤ g t ∧ g t ≤ r.2)))
    (me : ∀ t, mem n t ↔ mem (cutR (l.map f)) t) (ok : ∀ q ∈ cutR (l.map f), okRow q = true) : IsQ C H' z n ∧ ∀ t, mem n t ↔ (mem l (g t) ∧ 0 ≤ t ∧ t ≤ lastP) := by
  refine ⟨okq hz me ok, fun t => ?_⟩
  rw [me t, cutR_mem]
  have e : mem (l.map f) t ↔ mem l (g t) := by
    constructor
    · rintro ⟨q, hq, h⟩
      obtain ⟨r, hr, rfl⟩ := List.mem_map.mp hq
      exact ⟨r, hr, (hf r t (okRow_le (hx.ok r hr))).mp h⟩
    · rintro ⟨r, hr, h⟩
      exact ⟨f r, List.mem_map.mpr ⟨r, hr, rfl⟩, (hf r t (okRow_le (hx.ok r hr))).mpr h⟩
  rw [e]
theorem ok_shift {f C : Addr} {fd : FuncData} (F : Fun K "shifted" "Places.shifted" sPlShift f fd) (M : PMk' P w K mg base C) (CT : Cl P w K mg base 1 "_cut_to_places" ["pairs"] (spCutTo K)) : FnOk P w K mg base CX0 6 f fd ["self", "by"] (spMove C fun t d => t - d) := by
  have T := M.T
  refine F.ok scSf (fun vs H Q E h => ?_) (fun cdv A outer s H vs Q E hr h => ?_)
  · obtain ⟨x, d, l, rfl, _⟩ := h
    rfl
  · obtain ⟨x, d, l, rfl, hx, hlen, q⟩ := h
    obtain ⟨⟨nf1, dx, t1, f1, b1, L, hx1, ht1, hL, rfl, _⟩, okl⟩ := id hx
    rw [rws_len] at hlen
    have nd := scSf.nd
    refine ⟨_, pss_one (ps_ret (pe_mkP K rfl M hr (by decide) (by rfl) (pa_cons (pe_cl CT hr (by decide) (by rfl) (pa_cons
        (pe_lc (own := [("first", 2), ("last", 3)]) (g := gTup K 2 (gCons (gName 2) (gCons (gName 3) gNil))) (tt := tYes) rfl nd (pi_tup (pe_fld (pv 0) rfl)) (blkOk_by (N := ["self", "by", "first", "last"]) (sc := defScope sPlShift) (by decide +kernel))
          (fun _ _ _ _ _ => pg_tup rfl (pgs_cons (pg_name (i := 2) nd rfl (.inl rfl)) (pgs_cons (pg_name (i := 3) nd rfl (.inl rfl)) pgs_nil))) (fun _ _ _ _ _ => pts_nil)
          (fun _ _ _ _ _ => pe_tup (pa_cons (pe_op op_add (pv 2) (pv 1)) (pa_cons (pe_op op_add (pv 3) (pv 1)) pa_nil)))) pa_nil)) pa_nil))), ?_⟩
    refine ⟨_, rfl, x, C, dx, _, _, rfl, hx1, T.cl, T.nS, pFl_s _ _ _, t1, rfl, ⟨_, .inl (.inl ht1)⟩, fun D hD => lc_tup (K := K) (a := t1) (xs := refs L) (fun i H2 => ∃ N : List ARow, H2 D = some (.lst (refs N)) ∧ AtR H2 N ∧ rws N = ((rws L).take i).map (fun r => (r.1 + d, r.2 + d)) ∧ Same H H2 ∧ N.length ≤ i)
        ⟨[], upd_same, (fun _ z => nomatch z), rfl, same_lay hD, Nat.le_refl _⟩ (fun i H2 _ ⟨_, _, _, _, s, _⟩ => sameT s (.inl (.inl ht1))) ?_ ?_⟩
    · rintro i y H2 hy ⟨N, hD2, hN, eN, s2, lN⟩
      obtain ⟨z, hz, hzL, rfl⟩ := refs_get hy
      have hil : i < L.length := (List.getElem?_eq_some_iff.mp hz).1
      have ez := s2 _ _ (hL z hzL)
      have nND : ∀ q ∈ N, q.1 ≠ D := fun q hq => ne_of (hN q hq) hD2 (by intro w; cases w)
      refine ⟨z.1, _, rfl, .inl (.inl ez), rfl, _, _, rfl, _, _, rfl, rfl, rfl, yesT ?_⟩
      refine ⟨_, rfl, _, rfl, _, _, rfl, rfl, _, rfl, _, rfl, _, _, rfl, rfl, (by show 2 ≤ sizeLine; decide), fun T' hT => ?_⟩
      have s4 := same_lay (o := .tup [.int (z.2.1 + d), .int (z.2.2 + d)]) hT
      have nTD : T' ≠ D := (ne_of_none hD2 hT).symm
      refine ⟨refs N, s4 _ _ hD2, small1000 (by rw [refs_len]; omega), N ++ [(T', (z.2.1 + d, z.2.2 + d))], ?_, fun q hq => ?_, ?_, same_upd (s2.trans s4) hD, by rw [List.length_append]; exact Nat.succ_le_succ lN⟩
      · rw [upd_same, refs_snoc]
      · rcases List.mem_append.mp hq with k | k
        · rw [upd_ne (nND q k)]
          exact s4 _ _ (hN q k)
        · rw [List.mem_singleton.mp k, upd_ne nTD]
          exact upd_same
      · rw [rws_snoc, eN, map_snoc (rws_get hz)]
    · rintro H2 ⟨N, hD2, hN, eN, s2, lN⟩
      rw [refs_len, List.take_of_length_le (by rw [rws_len]; exact Nat.le_refl _)] at eN
      rw [refs_len] at lN
      refine ⟨D, N, rfl, .inl (.inl hD2), hN, by omega, fun o G H3 no ho hG eG s3 => ?_⟩
      have ok : ∀ q ∈ cutR (rws N), okRow q = true := cutR_ok fun r hr => by
        rw [eN] at hr
        obtain ⟨r', hr', rfl⟩ := List.mem_map.mp hr
        have := okRow_le (okl r' hr')
        dsimp only
        omega
      have lG : G.length ≤ N.length := by
        have := cutR_len (rws N)
        rw [← eG, rws_len, rws_len] at this
        exact this
      refine ⟨o, G, rfl, .inl (.inl (.inl ho)), by omega, hG.pairs, by rw [eG]; exact ok, fun z n H' nz hz me le s4 => ?_⟩
      rw [eG, eN] at me
      rw [eN] at ok
      obtain ⟨hq, hm⟩ := moved_of (g := fun t => t - d) hx hz (fun r t _ => by dsimp only; omega) me ok
      exact q z n H' ((s2.trans s3).free nz) hq hm (by rw [rws_len]; omega) ((s2.trans s3).trans s4)
theorem scMi : FnScope ["self", "last", "start", "end"] ["self", "last"] (defScope sPlMirror) := ⟨rfl, rfl, rfl, by decide +kernel, rfl, by decide +kernel, by decide +kernel⟩
theorem ok_mirror {f C : Addr} {fd : FuncData} (F : Fun K "mirrored" "Places.mirrored" sPlMirror f fd) (M : PMk' P w K mg base C) (CT : Cl P w K mg base 1 "_cut_to_places" ["pairs"] (spCutTo K)) : FnOk P w K mg base CX0 6 f fd ["self", "last"] (spMove C fun t d => d - t) := by
  have T := M.T
  refine F.ok scMi (fun vs H Q E h => ?_) (fun cdv A outer s H vs Q E hr h => ?_)
  · obtain ⟨x, d, l, rfl, _⟩ := h
    rfl
  · obtain ⟨x, d, l, rfl, hx, hlen, q⟩ := h
    obtain ⟨⟨nf1, dx, t1, f1, b1, L, hx1, ht1, hL, rfl, _⟩, okl⟩ := id hx
    rw [rws_len] at hlen
    have nd := scMi.nd
    refine ⟨_, pss_one (ps_ret (pe_mkP K rfl M hr (by decide) (by rfl) (pa_cons (pe_cl CT hr (by decide) (by rfl) (pa_cons
        (pe_lc (own := [("start", 2), ("end", 3)]) (g := gTup K 2 (gCons (gName 2) (gCons (gName 3) gNil))) (tt := tYes) rfl nd (pi_tup (pe_fld (pv 0) rfl)) (blkOk_by (N := ["self", "last", "start", "end"]) (sc := defScope sPlMirror) (by decide +kernel))
          (fun _ _ _ _ _ => pg_tup rfl (pgs_cons (pg_name (i := 2) nd rfl (.inl rfl)) (pgs_cons (pg_name (i := 3) nd rfl (.inl rfl)) pgs_nil))) (fun _ _ _ _ _ => pts_nil)
          (fun _ _ _ _ _ => pe_tup (pa_cons (pe_op op_sub (pv 1) (pv 3)) (pa_cons (pe_op op_sub (pv 1) (pv 2)) pa_nil)))) pa_nil)) pa_nil))), ?_⟩
    refine ⟨_, rfl, x, C, dx, _, _, rfl, hx1, T.cl, T.nS, pFl_s _ _ _, t1, rfl, ⟨_, .inl (.inl ht1)⟩, fun D hD => lc_tup (K := K) (a := t1) (xs := refs L) (fun i H2 => ∃ N : List ARow, H2 D = some (.lst (refs N)) ∧ AtR H2 N ∧ rws N = ((rws L).take i).map (fun r => (d - r.2, d - r.1)) ∧ Same H H2 ∧ N.length ≤ i)
        ⟨[], upd_same, (fun _ z => nomatch z), rfl, same_lay hD, Nat.le_refl _⟩ (fun i H2 _ ⟨_, _, _, _, s, _⟩ => sameT s (.inl (.inl ht1))) ?_ ?_⟩
    · rintro i y H2 hy ⟨N, hD2, hN, eN, s2, lN⟩
      obtain ⟨z, hz, hzL, rfl⟩ := refs_get hy
      have hil : i < L.length := (List.getElem?_eq_some_iff.mp hz).1
      have ez := s2 _ _ (hL z hzL)
      have nND : ∀ q ∈ N, q.1 ≠ D := fun q hq => ne_of (hN q hq) hD2 (by intro w; cases w)
      refine ⟨z.1, _, rfl, .inl (.inl ez), rfl, _, _, rfl, _, _, rfl, rfl, rfl, yesT ?_⟩
      refine ⟨_, rfl, _, rfl, _, _, rfl, rfl, _, rfl, _, rfl, _, _, rfl, rfl, (by show 2 ≤ sizeLine; decide), fun T' hT => ?_⟩
      have s4 := same_lay (o := .tup [.int (d - z.2.2), .int (d - z.2.1)]) hT
      have nTD : T' ≠ D := (ne_of_none hD2 hT).symm
      refine ⟨refs N, s4 _ _ hD2, small1000 (by rw [refs_len]; omega), N ++ [(T', (d - z.2.2, d - z.2.1))], ?_, fun q hq => ?_, ?_, same_upd (s2.trans s4) hD, by rw [List.length_append]; exact Nat.succ_le_succ lN⟩
      · rw [upd_same, refs_snoc]
      · rcases List.mem_append.mp hq with k | k
        · rw [upd_ne (nND q k)]
          exact s4 _ _ (hN q k)
        · rw [List.mem_singleton.mp k, upd_ne nTD]
          exact upd_same
      · rw [rws_snoc, eN, map_snoc (rws_get hz)]
    · rintro H2 ⟨N, hD2, hN, eN, s2, lN⟩
      rw [refs_len, List.take_of_length_le (by rw [rws_len]; exact Nat.le_refl _)] at eN
      rw [refs_len] at lN
      refine ⟨D, N, rfl, .inl (.inl hD2), hN, by omega, fun o G H3 no ho hG eG s3 => ?_⟩
      have ok : ∀ q ∈ cutR (rws N), okRow q = true := cutR_ok fun r hr => by
        rw [eN] at hr
        obtain ⟨r', hr', rfl⟩ := List.mem_map.mp hr
        have := okRow_le (okl r' hr')
        dsimp only
        omega
      have lG : G.length ≤ N.length := by
        have := cutR_len (rws N)
        rw [← eG, rws_len, rws_len] at this
        exact this
      refine ⟨o, G, rfl, .inl (.inl (.inl ho)), by omega, hG.pairs, by rw [eG]; exact ok, fun z n H' nz hz me le s4 => ?_⟩
      rw [eG, eN] at me
      rw [eN] at ok
      obtain ⟨hq, hm⟩ := moved_of (g := fun t => d - t) hx hz (fun r t _ => by dsimp only; omega) me ok
      exact q z n H' ((s2.trans s3).free nz) hq hm (by rw [rws_len]; omega) ((s2.trans s3).trans s4)
end
end OR

namespace OR
open PySem PySem.Spec PyProof.Rows L2
/-! ### inner places, number of places -/
def inR (l : List Row) : List Row := (l.filter fun r => decide (r.1 < r.2)).map fun r => (r.1, r.2 - 1)
theorem inR_snoc (l : List Row) (r : Row) : inR (l ++ [r]) = inR l ++ (if r.1 < r.2 then [(r.1, r.2 - 1)] else []) := by
  unfold inR
  rw [List.filter_append, List.map_append]
  congr 1
  by_cases h : r.1 < r.2
  · rw [if_pos h, List.filter_cons_of_pos (by simp [h])]
    rfl
  · rw [if_neg h, List.filter_cons_of_neg (by simpa using h)]
    rfl
theorem inR_of {l : List Row} {q : Row} (h : q ∈ inR l) : ∃ r ∈ l, r.1 < r.2 ∧ q = (r.1, r.2 - 1) := by
  obtain ⟨r, hr, rfl⟩ := List.mem_map.mp h
  obtain ⟨hm, hc⟩ := List.mem_filter.mp hr
  exact ⟨r, hm, of_decide_eq_true hc, rfl⟩
theorem inR_ok {l : List Row} (h : ∀ r ∈ l, okRow r = true) : ∀ q ∈ inR l, okRow q = true := fun q hq => by
  obtain ⟨r, hr, hc, rfl⟩ := inR_of hq
  have := okRow_iff (h r hr)
  exact okRow_of (by omega) (by omega) (by omega)
theorem inR_nf {l : List Row} (n : Nf l) : Nf (inR l) := by
  refine ⟨fun q hq => ?_, ?_⟩
  · obtain ⟨r, hr, hc, rfl⟩ := inR_of hq
    dsimp only
    omega
  · refine List.pairwise_map.mpr ((n.gap.sublist List.filter_sublist).imp fun {a b} h => ?_)
    dsimp only
    omega
theorem inR_mem : ∀ {l : List Row}, Nf l → ∀ z, mem (inR l) z ↔ (mem l z ∧ mem l (z + 1))
  | [], _, z => ⟨fun h => absurd h (mem_nil _), fun h => absurd h.1 (mem_nil _)⟩
  | r :: l, n, z => by
    have ih := inR_mem n.tail z
    have hb : ∀ {z : Int}, mem l z → r.2 + 1 < z := fun hz => n.behind hz
    have e : mem (inR (r :: l)) z ↔ ((r.1 ≤ z ∧ z ≤ r.2 - 1) ∨ mem (inR l) z) := by
      unfold inR
      by_cases c : r.1 < r.2
      · rw [List.filter_cons_of_pos (by simp [c]), List.map_cons, mem_cons]
      · rw [List.filter_cons_of_neg (by simpa using c)]
        exact ⟨.inr, fun h => h.elim (fun k => by omega) id⟩
    rw [e, ih, mem_cons, mem_cons]
    constructor
    · rintro (h | ⟨h1, h2⟩)
      · exact ⟨.inl (by omega), .inl (by omega)⟩
      · exact ⟨.inr h1, .inr h2⟩
    · rintro ⟨h1 | h1, h2 | h2⟩
      · exact .inl (by omega)
      · have := hb h2
        omega
      · have := hb h1
        omega
      · exact .inr ⟨h1, h2⟩
theorem inR_len (l : List Row) : (inR l).length ≤ l.length := by
  unfold inR
  rw [List.length_map]
  exact List.length_filter_le _ _
theorem befs_snoc (l : List Row) (r : Row) : befs (l ++ [r]) = befs l ++ [tot l] := by
  unfold befs
  rw [List.length_append, List.length_singleton, List.range_succ, List.map_append]
  congr 1
  · refine List.map_congr_left fun j hj => ?_
    have := List.mem_range.mp hj
    rw [List.take_append_of_le_length (by omega)]
  · show [tot ((l ++ [r]).take l.length)] = [tot l]
    rw [List.take_append_of_le_length (Nat.le_refl _), List.take_length]
section
variable {P : Program} {w : World} {K : PySem.W.Frag} {mg : Str → Option Value} {base : Heap}
theorem scIn : FnScope ["self", "first", "last"] ["self"] (defScope sPlInner) := ⟨rfl, rfl, rfl, by decide +kernel, rfl, by decide +kernel, by decide +kernel⟩
theorem ok_inner {f C : Addr} {fd : FuncData} (F : Fun K "inner" "Places.inner" sPlInner f fd) (M : PMk' P w K mg base C) : FnOk P w K mg base CX0 6 f fd ["self"] (spInner C) := by
  have T := M.T
  refine F.ok scIn (fun vs H Q E h => ?_) (fun cdv A outer s H vs Q E hr h => ?_)
  · obtain ⟨x, l, rfl, _⟩ := h
    rfl
  · obtain ⟨x, l, rfl, hx, hlen, q⟩ := h
    obtain ⟨⟨nf1, dx, t1, f1, b1, L, hx1, ht1, hL, rfl, _⟩, okl⟩ := id hx
    rw [rws_len] at hlen
    have nd := scIn.nd
    refine ⟨_, pss_one (ps_ret (pe_mkP K rfl M hr (by decide) (by rfl) (pa_cons
        (pe_lc (own := [("first", 1), ("last", 2)]) (g := gTup K 2 (gCons (gName 1) (gCons (gName 2) gNil))) rfl nd (pi_tup (pe_fld (pv 0) rfl)) (blkOk_by (N := ["self", "first", "last"]) (sc := defScope sPlInner) (by decide +kernel))
          (fun _ _ _ _ _ => pg_tup rfl (pgs_cons (pg_name (i := 1) nd rfl (.inl rfl)) (pgs_cons (pg_name (i := 2) nd rfl (.inl rfl)) pgs_nil))) (fun _ _ _ _ _ => pts_one (pt_cmpR op_lt (pv 1) (pv 2) (nomark _)))
          (fun _ _ _ _ _ => pe_tup (pa_cons (pv 1) (pa_cons (pe_op op_sub (pv 2) pe_int) pa_nil)))) pa_nil))), ?_⟩
    refine ⟨_, rfl, x, C, dx, _, _, rfl, hx1, T.cl, T.nS, pFl_s _ _ _, t1, rfl, ⟨_, .inl (.inl ht1)⟩, fun D hD => lc_tup (K := K) (a := t1) (xs := refs L) (fun i H2 => ∃ N : List ARow, H2 D = some (.lst (refs N)) ∧ AtR H2 N ∧ rws N = inR ((rws L).take i) ∧ Same H H2 ∧ N.length ≤ i)
        ⟨[], upd_same, (fun _ z => nomatch z), rfl, same_lay hD, Nat.le_refl _⟩ (fun i H2 _ ⟨_, _, _, _, s, _⟩ => sameT s (.inl (.inl ht1))) ?_ ?_⟩
    · rintro i y H2 hy ⟨N, hD2, hN, eN, s2, lN⟩
      obtain ⟨z, hz, hzL, rfl⟩ := refs_get hy
      have hil : i < L.length := (List.getElem?_eq_some_iff.mp hz).1
      have ez := s2 _ _ (hL z hzL)
      have e1 : (rws L).take (i + 1) = (rws L).take i ++ [z.2] := by rw [List.take_add_one, rws_get hz]; rfl
      have nND : ∀ q ∈ N, q.1 ≠ D := fun q hq => ne_of (hN q hq) hD2 (by intro w; cases w)
      refine ⟨z.1, _, rfl, .inl (.inl ez), rfl, _, _, rfl, _, _, rfl, rfl, rfl, ?_⟩
      refine ⟨_, rfl, _, rfl, _, _, rfl, rfl, _, rfl, ?_⟩
      cases c : decide (z.2.1 < z.2.2) with
      | false =>
        have k : ¬ z.2.1 < z.2.2 := of_decide_eq_false c
        exact iteF ⟨N, hD2, hN, by rw [e1, inR_snoc, if_neg k, List.append_nil]; exact eN, s2, Nat.le_succ_of_le lN⟩
      | true =>
        have k : z.2.1 < z.2.2 := of_decide_eq_true c
        refine iteT ⟨_, rfl, _, rfl, _, _, rfl, rfl, (by show 2 ≤ sizeLine; decide), fun T' hT => ?_⟩
        have s4 := same_lay (o := .tup [.int z.2.1, .int (z.2.2 - 1)]) hT
        have nTD : T' ≠ D := (ne_of_none hD2 hT).symm
        refine ⟨refs N, s4 _ _ hD2, small1000 (by rw [refs_len]; omega), N ++ [(T', (z.2.1, z.2.2 - 1))], ?_, fun q hq => ?_, ?_, same_upd (s2.trans s4) hD, by rw [List.length_append]; exact Nat.succ_le_succ lN⟩
        · rw [upd_same, refs_snoc]
        · rcases List.mem_append.mp hq with j | j
          · rw [upd_ne (nND q j)]
            exact s4 _ _ (hN q j)
          · rw [List.mem_singleton.mp j, upd_ne nTD]
            exact upd_same
        · rw [rws_snoc, eN, e1, inR_snoc, if_pos k]
    · rintro H2 ⟨N, hD2, hN, eN, s2, lN⟩
      rw [refs_len, List.take_of_length_le (by rw [rws_len]; exact Nat.le_refl _)] at eN
      rw [refs_len] at lN
      refine ⟨D, N, rfl, .inl (.inl (.inl hD2)), by omega, hN.pairs, by rw [eN]; exact inR_ok okl, fun z n H' nz hz me le s4 => ?_⟩
      rw [eN] at me
      exact q z n H' (s2.free nz) (okq hz me (inR_ok okl)) (fun t => (me t).trans (inR_mem nf1 t)) (by rw [rws_len]; omega) (s2.trans s4)
theorem scSz : FnScope ["self", "first", "last"] ["self"] (defScope sPlSize) := ⟨rfl, rfl, rfl, by decide +kernel, rfl, by decide +kernel, by decide +kernel⟩
theorem ok_size {f C : Addr} {fd : FuncData} (F : Fun K "size" "Places.size" sPlSize f fd) (T : PTxt K mg C) : FnOk P w K mg base CX0 1 f fd ["self"] (spSize C) := by
  refine F.ok scSz (fun vs H Q E h => ?_) (fun cdv A outer s H vs Q E hr h => ?_)
  · obtain ⟨x, l, rfl, _⟩ := h
    rfl
  · obtain ⟨x, l, rfl, ⟨nf, dx, t, fi, b, M, hx, ht, hM, eM, hf, hb, _⟩, q⟩ := h
    have nd := scSz.nd
    refine ⟨_, pss_cons (ps_if (pt_not (pt_truth (pe_fld (pv 0) rfl) (by intro _; rfl))) (pss_one (ps_ret pe_int)) pss_nil)
      (pss_cons (ps_asg (pe_ix ix_tup (pe_fld (pv 0) rfl) (pe_un un_neg pe_int) (fun _ _ => rfl)) (pg_tup rfl (pgs_cons (pg_name (i := 1) nd rfl (.inl rfl)) (pgs_cons (pg_name (i := 2) nd rfl (.inl rfl)) pgs_nil))))
      (pss_one (ps_ret (pe_op op_add (pe_op op_sub (pe_op op_add (pe_ix ix_tup (pe_fld (pv 0) rfl) (pe_un un_neg pe_int) (fun _ _ => rfl)) (pv 2)) (pv 1)) pe_int)))), ?_⟩
    refine ⟨_, rfl, x, C, dx, _, _, rfl, hx, T.cl, T.nS, pFl_s _ _ _, !(refs M).isEmpty, .inr (.inl ⟨refs M, .inl (.inl ht), rfl⟩), ?_⟩
    by_cases e0 : M = []
    · subst e0
      subst eM
      exact iteT q
    · obtain ⟨M', p, rfl⟩ : ∃ M' p, M = M' ++ [p] := ⟨_, _, (List.dropLast_concat_getLast e0).symm⟩
      rw [refs_snoc] at ht ⊢
      have en : (!(!(refs M' ++ [V.ref p.1]).isEmpty)) = false := by simp
      rw [en]
      refine iteF ?_
      have hp := hM p (List.mem_append_right _ (List.mem_singleton.mpr rfl))
      rw [rws_snoc] at eM
      subst eM
      rw [befs_snoc, List.map_append] at hb
      refine ⟨_, rfl, x, C, dx, _, _, rfl, hx, T.cl, T.nS, pFl_s _ _ _, 1, rfl, t, _, -1, _, rfl, rfl, .inl (.inl ht), atI_last _ _, p.1, _, rfl, .inl (.inl hp), rfl, _, _, rfl, _, _, rfl, rfl, ?_⟩
      refine ⟨_, rfl, x, C, dx, _, _, rfl, hx, T.cl, T.nB, pFl_b _ _ _, 1, rfl, b, _, -1, _, rfl, rfl, .inl (.inl hb), atI_last _ _, _, rfl, _, _, rfl, rfl, _, rfl, _, _, rfl, rfl, _, _, rfl, rfl, ?_⟩
      rw [tot_snoc] at q
      exact q
end
end OR

namespace OR
open PySem PySem.Spec PyProof.Rows L2
/-! ### the law's own moving -/
def sfR (d : Int) (l : List Row) : List Row := l.map fun r => (mx 0 (r.1 + d), mn lastP (r.2 + d))
def leR (l : List Row) : List Row := l.filter fun r => decide (r.1 ≤ r.2)
theorem leR_snoc (l : List Row) (r : Row) : leR (l ++ [r]) = leR l ++ (if r.1 ≤ r.2 then [r] else []) := by
  unfold leR
  rw [List.filter_append]
  congr 1
  by_cases h : r.1 ≤ r.2
  · rw [if_pos h, List.filter_cons_of_pos (by simp [h])]
    rfl
  · rw [if_neg h, List.filter_cons_of_neg (by simpa using h)]
    rfl
theorem sfR_ok (d : Int) (l : List Row) : ∀ q ∈ leR (sfR d l), okRow q = true := fun q hq => by
  obtain ⟨hm, hc⟩ := List.mem_filter.mp hq
  obtain ⟨r, hr, rfl⟩ := List.mem_map.mp hm
  have h1 := mx_ok 0 (r.1 + d)
  have h2 := mn_ok lastP (r.2 + d)
  exact okRow_of (by omega) (of_decide_eq_true hc) (by omega)
theorem sfR_mem (d : Int) (l : List Row) (z : Int) : mem (leR (sfR d l)) z ↔ (mem l (z - d) ∧ 0 ≤ z ∧ z ≤ lastP) := by
  constructor
  · rintro ⟨q, hq, k1, k2⟩
    obtain ⟨hm, hc⟩ := List.mem_filter.mp hq
    obtain ⟨r, hr, rfl⟩ := List.mem_map.mp hm
    have h1 := mx_ok 0 (r.1 + d)
    have h2 := mn_ok lastP (r.2 + d)
    dsimp only at k1 k2
    exact ⟨⟨r, hr, by omega, by omega⟩, by omega, by omega⟩
  · rintro ⟨⟨r, hr, k1, k2⟩, k3, k4⟩
    have h1 := mx_ok 0 (r.1 + d)
    have h2 := mn_ok lastP (r.2 + d)
    refine ⟨(mx 0 (r.1 + d), mn lastP (r.2 + d)), List.mem_filter.mpr ⟨List.mem_map.mpr ⟨r, hr, rfl⟩, decide_eq_true ?_⟩, ?_, ?_⟩ <;> (dsimp only; omega)
def lmR (d : Int) (l : List Row) : List Row := (l.filter fun r => decide (r.1 ≤ d)).map fun r => (d - mn r.2 d, d - r.1)
theorem lmR_snoc (d : Int) (l : List Row) (r : Row) : lmR d (l ++ [r]) = lmR d l ++ (if r.1 ≤ d then [(d - mn r.2 d, d - r.1)] else []) := by
  unfold lmR
  rw [List.filter_append, List.map_append]
  congr 1
  by_cases h : r.1 ≤ d
  · rw [if_pos h, List.filter_cons_of_pos (by simp [h])]
    rfl
  · rw [if_neg h, List.filter_cons_of_neg (by simpa using h)]
    rfl
theorem lmR_ok {d : Int} {l : List Row} (hd : d ≤ lastP) (hl : ∀ r ∈ l, okRow r = true) : ∀ q ∈ lmR d l, okRow q = true := fun q hq => by
  obtain ⟨r, hr, rfl⟩ := List.mem_map.mp hq
  obtain ⟨hm, hc⟩ := List.mem_filter.mp hr
  have h2 := mn_ok r.2 d
  have h3 := okRow_iff (hl r hm)
  have h4 : r.1 ≤ d := of_decide_eq_true hc
  exact okRow_of (by omega) (by omega) (by omega)
theorem lmR_mem {d : Int} {l : List Row} (hd : d ≤ lastP) (hl : ∀ r ∈ l, okRow r = true) (z : Int) : mem (lmR d l) z ↔ (mem l (d - z) ∧ 0 ≤ z ∧ z ≤ lastP) := by
  constructor
  · rintro ⟨q, hq, k1, k2⟩
    obtain ⟨r, hr, rfl⟩ := List.mem_map.mp hq
    obtain ⟨hm, hc⟩ := List.mem_filter.mp hr
    have h2 := mn_ok r.2 d
    have h3 := okRow_iff (hl r hm)
    dsimp only at k1 k2
    exact ⟨⟨r, hm, by omega, by omega⟩, by omega, by omega⟩
  · rintro ⟨⟨r, hm, k1, k2⟩, k3, k4⟩
    have h2 := mn_ok r.2 d
    refine ⟨(d - mn r.2 d, d - r.1), List.mem_map.mpr ⟨r, List.mem_filter.mpr ⟨hm, decide_eq_true ?_⟩, rfl⟩, ?_, ?_⟩ <;> (try dsimp only) <;> omega
theorem lmR_len (d : Int) (l : List Row) : (lmR d l).length ≤ l.length := by
  unfold lmR
  rw [List.length_map]
  exact List.length_filter_le _ _
def spLMove (K : PySem.W.Frag) (pre : Int → Prop) (f : Int → Int → Int) : Sp := fun vs H Q _ => ∃ (a : Addr) (d : Int) (L : List ARow), vs = [.ref a, .int d] ∧ pre d ∧ SqL K H a (refs L) ∧ AtR H L ∧ (∀ r ∈ rws L, okRow r = true) ∧ L.length < 64 ∧
  ∀ (t : Addr) (M : List ARow) (H' : Hp), Same H H' → H' t = some (.tup (refs M)) → AtR H' M → Nf (rws M) → (∀ z, mem (rws M) z ↔ (mem (rws L) (f z d) ∧ 0 ≤ z ∧ z ≤ lastP)) → M.length < 64 → Q (.ref t) H'
section
variable {P : Program} {w : World} {K : PySem.W.Frag} {mg : Str → Option Value} {base : Heap}
theorem scLS : FnScope ["_law_rows", "_law_by_here", "_law_found", "_law_row"] ["_law_rows", "_law_by_here"] (defScope sLShift) := ⟨rfl, rfl, rfl, by decide +kernel, rfl, by decide +kernel, by decide +kernel⟩
theorem ok_lshift {f C : Addr} {fd : FuncData} (F : Fun K "_law_shifted" "_law_shifted" sLShift f fd) (B : Bd mg) (T : PTxt K mg C) (MG : Cl P w K mg base 1 "_law_merged" ["_law_rows"] (spMerged K)) : FnOk P w K mg base CX0 2 f fd ["_law_rows", "_law_by_here"] (spLMove K (fun _ => True) fun z d => z - d) := by
  refine F.ok scLS (fun vs H Q E h => ?_) (fun cdv A outer s H vs Q E hr h => ?_)
  · obtain ⟨a, d, L, rfl, _⟩ := h
    rfl
  · obtain ⟨a, d, L, rfl, _, hS, hL, okl, hlen, q⟩ := h
    have nd := scLS.nd
    have hpow : CPow 10 30 := ⟨by decide, by decide, by decide⟩
    refine ⟨_, pss_cons (ps_setLc (i := 2) (own := [("_law_row", 3)]) (g := gName 3) (tt := tYes) rfl nd rfl rfl (sw_true rfl rfl rfl (by decide +kernel)) (pi_list (pv 0)) (blkOk_by (N := ["_law_rows", "_law_by_here", "_law_found", "_law_row"]) (sc := defScope sLShift) (by decide +kernel))
          (fun _ _ _ _ _ => pg_name (i := 3) nd rfl (.inl rfl)) (fun _ _ _ _ _ => pts_nil)
          (fun _ _ _ _ _ => pe_tup (pa_cons (pe_callB (call_max2 rfl) (by rfl) B.max bt_max (pa_cons pe_int (pa_cons (pe_callTy call_int1 (by rfl) B.int bt_int (pa_cons (pe_op op_add (pe_ix (ix_any K rfl) (pv 3) pe_int (fun _ _ => rfl)) (pv 1)) pa_nil)) pa_nil)))
            (pa_cons (pe_callB (call_min2 rfl) (by rfl) B.min bt_min (pa_cons (pe_op op_pow pe_int pe_int) (pa_cons (pe_callTy call_int1 (by rfl) B.int bt_int (pa_cons (pe_op op_add (pe_ix (ix_any K rfl) (pv 3) pe_int (fun _ _ => rfl)) (pv 1)) pa_nil)) pa_nil))) pa_nil))))
      (pss_one (ps_ret (pe_callTy call_tuple_of (by rfl) T.zTup bt_tup (pa_cons (pe_cl MG hr (by decide) (by rfl) (pa_cons
        (pe_lc (own := [("_law_row", 3)]) (g := gName 3) rfl nd (pi_list (pv 2)) (blkOk_by (N := ["_law_rows", "_law_by_here", "_law_found", "_law_row"]) (sc := defScope sLShift) (by decide +kernel))
          (fun _ _ _ _ _ => pg_name (i := 3) nd rfl (.inl rfl)) (fun _ _ _ _ _ => pts_one (pt_cmpR op_le (pe_ix (ix_any K rfl) (pv 3) pe_int (fun _ _ => rfl)) (pe_ix (ix_any K rfl) (pv 3) pe_int (fun _ _ => rfl)) (nomark _))) (fun _ _ _ _ _ => pv 3)) pa_nil)) pa_nil)))), ?_⟩
    refine ⟨_, rfl, a, rfl, ⟨_, hS⟩, fun D hD => lc_list (K := K) (a := a) (xs := refs L) (fun i H2 => ∃ N : List ARow, H2 D = some (.lst (refs N)) ∧ AtR H2 N ∧ rws N = sfR d ((rws L).take i) ∧ Same H H2 ∧ N.length = i)
        ⟨[], upd_same, (fun _ z => nomatch z), rfl, same_lay hD, rfl⟩ (fun i H2 _ ⟨_, _, _, _, s, _⟩ => s.seq hS) ?_ ?_⟩
    · rintro i y H2 hy ⟨N, hD2, hN, eN, s2, lN⟩
      obtain ⟨z, hz, hzL, rfl⟩ := refs_get hy
      have hil : i < L.length := (List.getElem?_eq_some_iff.mp hz).1
      have ez := s2 _ _ (hL z hzL)
      have hq2 : SqT K H2 z.1 [.int z.2.1, .int z.2.2] := .inl (.inl ez)
      have g0 : atI [V.int z.2.1, .int z.2.2] 0 = some (.int z.2.1) := atI_nat (j := 0) rfl
      have g1 : atI [V.int z.2.1, .int z.2.2] 1 = some (.int z.2.2) := atI_nat (j := 1) rfl
      have nND : ∀ q ∈ N, q.1 ≠ D := fun q hq => ne_of (hN q hq) hD2 (by intro w; cases w)
      refine ⟨rfl, yesT ?_⟩
      refine ⟨_, rfl, z.1, _, 0, _, rfl, rfl, .inr hq2, g0, _, rfl, _, _, rfl, rfl, .inl ⟨_, rfl, _, _, rfl, _, _, rfl, rfl, hpow, ?_⟩⟩
      refine ⟨_, rfl, z.1, _, 1, _, rfl, rfl, .inr hq2, g1, _, rfl, _, _, rfl, rfl, .inl ⟨_, rfl, _, _, rfl, (by show 2 ≤ sizeLine; decide), fun T' hT => ?_⟩⟩
      have s4 := same_lay (o := .tup [.int (mx 0 (z.2.1 + d)), .int (mn lastP (z.2.2 + d))]) hT
      have nTD : T' ≠ D := (ne_of_none hD2 hT).symm
      refine ⟨refs N, s4 _ _ hD2, small1000 (by rw [refs_len]; omega), N ++ [(T', (mx 0 (z.2.1 + d), mn lastP (z.2.2 + d)))], ?_, fun q hq => ?_, ?_, same_upd (s2.trans s4) hD, by rw [List.length_append, lN]; rfl⟩
      · rw [upd_same, refs_snoc]
      · rcases List.mem_append.mp hq with k | k
        · rw [upd_ne (nND q k)]
          exact s4 _ _ (hN q k)
        · rw [List.mem_singleton.mp k, upd_ne nTD]
          exact upd_same
      · rw [rws_snoc, eN]
        unfold sfR
        rw [map_snoc (rws_get hz)]
    · rintro H2 ⟨N, hD2, hN, eN, s2, lN⟩
      rw [refs_len, List.take_of_length_le (by rw [rws_len]; exact Nat.le_refl _)] at eN
      rw [refs_len] at lN
      refine ⟨_, rfl, D, rfl, ⟨_, .inl (.inl hD2)⟩, fun D2 hD2n => lc_list (K := K) (a := D) (xs := refs N) (fun i H3 => ∃ G : List ARow, H3 D2 = some (.lst (refs G)) ∧ AtR H3 G ∧ rws G = leR ((rws N).take i) ∧ Same H2 H3 ∧ G.length ≤ i)
        ⟨[], upd_same, (fun _ z => nomatch z), rfl, same_lay hD2n, Nat.le_refl _⟩ (fun i H3 _ ⟨_, _, _, _, s, _⟩ => .inl (.inl (s _ _ hD2))) ?_ ?_⟩
      · rintro i y H3 hy ⟨G, hD3, hG, eG, s3, lG⟩
        obtain ⟨z, hz, hzN, rfl⟩ := refs_get hy
        have hil : i < N.length := (List.getElem?_eq_some_iff.mp hz).1
        have ez := s3 _ _ (hN z hzN)
        have hq2 : SqT K H3 z.1 [.int z.2.1, .int z.2.2] := .inl (.inl ez)
        have g0 : atI [V.int z.2.1, .int z.2.2] 0 = some (.int z.2.1) := atI_nat (j := 0) rfl
        have g1 : atI [V.int z.2.1, .int z.2.2] 1 = some (.int z.2.2) := atI_nat (j := 1) rfl
        have e1 : (rws N).take (i + 1) = (rws N).take i ++ [z.2] := by rw [List.take_add_one, rws_get hz]; rfl
        have nGD : ∀ q ∈ G, q.1 ≠ D2 := fun q hq => ne_of (hG q hq) hD3 (by intro w; cases w)
        refine ⟨rfl, _, rfl, z.1, _, 0, _, rfl, rfl, .inr hq2, g0, _, rfl, z.1, _, 1, _, rfl, rfl, .inr hq2, g1, _, _, rfl, rfl, _, rfl, ?_⟩
        cases c : decide (z.2.1 ≤ z.2.2) with
        | false =>
          have k : ¬ z.2.1 ≤ z.2.2 := of_decide_eq_false c
          exact iteF ⟨G, hD3, hG, by rw [e1, leR_snoc, if_neg k, List.append_nil]; exact eG, s3, Nat.le_succ_of_le lG⟩
        | true =>
          have k : z.2.1 ≤ z.2.2 := of_decide_eq_true c
          refine iteT ⟨_, rfl, refs G, hD3, small1000 (by rw [refs_len]; omega), G ++ [z], ?_, fun q hq => ?_, ?_, same_upd s3 hD2n, by rw [List.length_append]; exact Nat.succ_le_succ lG⟩
          · rw [upd_same, refs_snoc]
          · rcases List.mem_append.mp hq with j | j
            · rw [upd_ne (nGD q j)]
              exact hG q j
            · rw [List.mem_singleton.mp j, upd_ne (ne_of ez hD3 (by intro w; cases w))]
              exact ez
          · rw [rws_snoc, eG, e1, leR_snoc, if_pos k]
      · rintro H3 ⟨G, hD3, hG, eG, s3, lG⟩
        rw [refs_len] at lG
        rw [refs_len, List.take_of_length_le (by rw [rws_len]; exact Nat.le_refl _), eN] at eG
        refine ⟨D2, G, rfl, .inl (.inl hD3), hG, by rw [eG]; exact sfR_ok d _, by omega, fun o M H4 s4 no ho hM hnf hme lenM => ?_⟩
        refine ⟨o, _, rfl, .inl ⟨.inl (.inl ho), fun t nt => ?_⟩⟩
        have s5 := same_lay (o := .tup (refs M)) nt
        exact q t M _ (((s2.trans s3).trans s4).trans s5) upd_same (hM.same s5) hnf (fun z => by rw [hme z, eG, sfR_mem]) lenM
theorem scLMi : FnScope ["_law_rows", "_law_last", "_law_found", "_law_row"] ["_law_rows", "_law_last"] (defScope sLMirror) := ⟨rfl, rfl, rfl, by decide +kernel, rfl, by decide +kernel, by decide +kernel⟩
theorem ok_lmirror {f C : Addr} {fd : FuncData} (F : Fun K "_law_mirrored" "_law_mirrored" sLMirror f fd) (B : Bd mg) (T : PTxt K mg C) (MG : Cl P w K mg base 1 "_law_merged" ["_law_rows"] (spMerged K)) : FnOk P w K mg base CX0 2 f fd ["_law_rows", "_law_last"] (spLMove K (fun d => d ≤ lastP) fun z d => d - z) := by
  refine F.ok scLMi (fun vs H Q E h => ?_) (fun cdv A outer s H vs Q E hr h => ?_)
  · obtain ⟨a, d, L, rfl, _⟩ := h
    rfl
  · obtain ⟨a, d, L, rfl, hd, hS, hL, okl, hlen, q⟩ := h
    have nd := scLMi.nd
    refine ⟨_, pss_cons (ps_setLc (i := 2) (own := [("_law_row", 3)]) (g := gName 3) rfl nd rfl rfl (sw_true rfl rfl rfl (by decide +kernel)) (pi_list (pv 0)) (blkOk_by (N := ["_law_rows", "_law_last", "_law_found", "_law_row"]) (sc := defScope sLMirror) (by decide +kernel))
          (fun _ _ _ _ _ => pg_name (i := 3) nd rfl (.inl rfl)) (fun _ _ _ _ _ => pts_one (pt_cmpR op_le (pe_ix (ix_any K rfl) (pv 3) pe_int (fun _ _ => rfl)) (pv 1) (nomark _)))
          (fun _ _ _ _ _ => pe_tup (pa_cons (pe_op op_sub (pv 1) (pe_callB (call_min2 rfl) (by rfl) B.min bt_min (pa_cons (pe_callTy call_int1 (by rfl) B.int bt_int (pa_cons (pe_ix (ix_any K rfl) (pv 3) pe_int (fun _ _ => rfl)) pa_nil)) (pa_cons (pe_callTy call_int1 (by rfl) B.int bt_int (pa_cons (pv 1) pa_nil)) pa_nil))))
            (pa_cons (pe_op op_sub (pv 1) (pe_ix (ix_any K rfl) (pv 3) pe_int (fun _ _ => rfl))) pa_nil))))
      (pss_one (ps_ret (pe_callTy call_tuple_of (by rfl) T.zTup bt_tup (pa_cons (pe_cl MG hr (by decide) (by rfl) (pa_cons (pv 2) pa_nil)) pa_nil)))), ?_⟩
    refine ⟨_, rfl, a, rfl, ⟨_, hS⟩, fun D hD => lc_list (K := K) (a := a) (xs := refs L) (fun i H2 => ∃ N : List ARow, H2 D = some (.lst (refs N)) ∧ AtR H2 N ∧ rws N = lmR d ((rws L).take i) ∧ Same H H2 ∧ N.length ≤ i)
        ⟨[], upd_same, (fun _ z => nomatch z), rfl, same_lay hD, Nat.le_refl _⟩ (fun i H2 _ ⟨_, _, _, _, s, _⟩ => s.seq hS) ?_ ?_⟩
    · rintro i y H2 hy ⟨N, hD2, hN, eN, s2, lN⟩
      obtain ⟨z, hz, hzL, rfl⟩ := refs_get hy
      have hil : i < L.length := (List.getElem?_eq_some_iff.mp hz).1
      have ez := s2 _ _ (hL z hzL)
      have hq2 : SqT K H2 z.1 [.int z.2.1, .int z.2.2] := .inl (.inl ez)
      have g0 : atI [V.int z.2.1, .int z.2.2] 0 = some (.int z.2.1) := atI_nat (j := 0) rfl
      have g1 : atI [V.int z.2.1, .int z.2.2] 1 = some (.int z.2.2) := atI_nat (j := 1) rfl
      have e1 : (rws L).take (i + 1) = (rws L).take i ++ [z.2] := by rw [List.take_add_one, rws_get hz]; rfl
      have nND : ∀ q ∈ N, q.1 ≠ D := fun q hq => ne_of (hN q hq) hD2 (by intro w; cases w)
      refine ⟨rfl, _, rfl, z.1, _, 0, _, rfl, rfl, .inr hq2, g0, _, rfl, _, _, rfl, rfl, _, rfl, ?_⟩
      cases c : decide (z.2.1 ≤ d) with
      | false =>
        have k : ¬ z.2.1 ≤ d := of_decide_eq_false c
        exact iteF ⟨N, hD2, hN, by rw [e1, lmR_snoc, if_neg k, List.append_nil]; exact eN, s2, Nat.le_succ_of_le lN⟩
      | true =>
        have k : z.2.1 ≤ d := of_decide_eq_true c
        refine iteT ⟨_, rfl, _, rfl, z.1, _, 1, _, rfl, rfl, .inr hq2, g1, .inl ⟨_, rfl, _, rfl, .inl ⟨_, rfl, _, _, rfl, _, _, rfl, rfl, _, rfl, _, rfl, z.1, _, 0, _, rfl, rfl, .inr hq2, g0, _, _, rfl, rfl, (by show 2 ≤ sizeLine; decide), fun T' hT => ?_⟩⟩⟩
        have s4 := same_lay (o := .tup [.int (d - mn z.2.2 d), .int (d - z.2.1)]) hT
        have nTD : T' ≠ D := (ne_of_none hD2 hT).symm
        refine ⟨refs N, s4 _ _ hD2, small1000 (by rw [refs_len]; omega), N ++ [(T', (d - mn z.2.2 d, d - z.2.1))], ?_, fun q hq => ?_, ?_, same_upd (s2.trans s4) hD, by rw [List.length_append]; exact Nat.succ_le_succ lN⟩
        · rw [upd_same, refs_snoc]
        · rcases List.mem_append.mp hq with j | j
          · rw [upd_ne (nND q j)]
            exact s4 _ _ (hN q j)
          · rw [List.mem_singleton.mp j, upd_ne nTD]
            exact upd_same
        · rw [rws_snoc, eN, e1, lmR_snoc, if_pos k]
    · rintro H2 ⟨N, hD2, hN, eN, s2, lN⟩
      rw [refs_len] at lN
      rw [refs_len, List.take_of_length_le (by rw [rws_len]; exact Nat.le_refl _)] at eN
      refine ⟨_, rfl, D, N, rfl, .inl (.inl hD2), hN, by rw [eN]; exact lmR_ok hd okl, by omega, fun o M H4 s4 no ho hM hnf hme lenM => ?_⟩
      refine ⟨o, _, rfl, .inl ⟨.inl (.inl ho), fun t nt => ?_⟩⟩
      have s5 := same_lay (o := .tup (refs M)) nt
      exact q t M _ ((s2.trans s4).trans s5) upd_same (hM.same s5) hnf (fun z => by rw [hme z, eN, lmR_mem hd okl]) lenM
end
end OR

namespace OR
open PySem PySem.Spec PyProof.Rows L2
/-! ### by how much; methods by name -/
def spBy (K : PySem.W.Frag) : Sp := fun vs H Q _ => ∃ (p a : Addr) (L : List ARow) (n : Nat), vs = [.ref p, .ref a] ∧ SqL K H a (refs L) ∧ AtR H L ∧ L.length ≤ 100 ∧ Pen H p n ∧ n ≤ 600000 ∧
  ∀ (r : Int) (H' : Hp), Pen H' p (n + 10) → Frm p H H' → Q (.int r) H'
def AllI (xs : List V) : Prop := ∀ v ∈ xs, ∃ r : Int, v = .int r
theorem AllI.nil : AllI [] := fun _ h => nomatch h
theorem AllI.cons {r : Int} {xs : List V} (h : AllI xs) : AllI (.int r :: xs) := fun v hv => (List.mem_cons.mp hv).elim (fun e => ⟨r, e⟩) (h v)
theorem AllI.app {xs ys : List V} (h1 : AllI xs) (h2 : AllI ys) : AllI (xs ++ ys) := fun v hv => (List.mem_append.mp hv).elim (h1 v) (h2 v)
/-- a method, called by its name -/
structure Mt (P : Program) (w : World) (K : PySem.W.Frag) (mg : Str → Option Value) (base : Heap) (k : Nat) (C : Addr) (m : Str) (ps : List Str) (sp : Sp) : Prop where
  ex : ∃ (f : Addr) (fd : FuncData), Meth K C m f ∧ FnOk P w K mg base CX0 k f fd ps sp ∧ Binds K fd ps []
theorem pe_mt {X : Cx} {k j : Nat} {C : Addr} {m : Str} {ps : List Str} {sp : Sp} {o e : Expr} {es : List Expr} {ta : TE} {t : TA} {apos pos : Pos} {pl : Sem Bool} (M : Mt X.prog X.w X.K X.mg X.base k C m ps sp) (c : Cls X.K C) (hr : Room j X.A) (hk : k ≤ j) (he : PE X o ta) (ha : PA X (e :: es) t)
    (hst : starEach (e :: es) X.env = (false, eval e X.env) :: starEach es X.env := by rfl) (hpl : (backTo pos (starEach es X.env)).any (·.1) = false := by rfl)
    (ht : eval (.Call (.Attribute o m apos) (e :: es) [] pos) X.env = (do
      let ov ← eval o X.env
      standAt apos.atName
      let (f, first) ← holding [ov] (getMethod ov m pl)
      callWith pos f first (backTo pos (starEach (e :: es) X.env)) (backToKw pos (keywordEach [] X.env))) := by rfl) : PE X (.Call (.Attribute o m apos) (e :: es) [] pos) (tMeth C m sp [] E0 ta t) := by
  obtain ⟨f, fd, hm, F, hb⟩ := M.ex
  exact pe_meth he c hm F (hr.mono hk) hb .nil pass0 ha hst hpl ht
theorem mt_of {P : Program} {w : World} {K : PySem.W.Frag} {mg : Str → Option Value} {base : Heap} {C : Addr} {m m' qual : Str} {st : Stmt} {k : Nat} {ps : List Str} {sp : Sp} (a : MtAt K C m m' qual st)
    (hb : ∀ (kV doc pm : Value) (an : Option Addr) (cdv ct : Value) (us : List Value), us.length = ps.length → bindArgs (PySem.W.fnOf m qual (defArgs st) (defBody st) (defScope st) .none kV doc pm an cdv ct) ⟨us, []⟩ = pure (ps.zip us))
    (ok : ∀ f fd, Fun K m qual st f fd → FnOk P w K mg base CX0 k f fd ps sp) : Mt P w K mg base k C m' ps sp := by
  obtain ⟨f, fd, F, e, i, n⟩ := a.ex
  exact ⟨f, fd, ⟨e, i, F.kp⟩, ok f fd F, F.binds hb⟩
section
variable {P : Program} {w : World} {K : PySem.W.Frag} {mg : Str → Option Value} {base : Heap}
theorem scBy : FnScope ["_law_pen_here", "_law_rows", "_law_some", "_law_first", "_law_last"] ["_law_pen_here", "_law_rows"] (defScope sLBy) := ⟨rfl, rfl, rfl, by decide +kernel, rfl, by decide +kernel, by decide +kernel⟩
theorem ok_by {f : Addr} {fd : FuncData} (F : Fun K "_law_by" "_law_by" sLBy f fd) (D : Cl P w K mg base 1 "_law_draw" ["_law_pen_here", "_law_many"] spDraw) (C : Cl P w K mg base 2 "_law_pick" ["_law_pen_here", "_law_items"] (spPick K)) (W : Cl P w K mg base 3 "_law_whole" ["_law_pen_here"] spWhole) : FnOk P w K mg base CX0 4 f fd ["_law_pen_here", "_law_rows"] (spBy K) := by
  refine F.ok scBy (fun vs H Q E h => ?_) (fun cdv A outer s H vs Q E hr h => ?_)
  · obtain ⟨p, a, L, n, rfl, _⟩ := h
    rfl
  · obtain ⟨p, a, L, n, rfl, hS, hL, hlen, hP, hn, q⟩ := h
    have nd := scBy.nd
    have hpow : CPow 10 30 := ⟨by decide, by decide, by decide⟩
    have hu64 : (A.deeper (envOfC "_law_by" (defScope sLBy) s.heap.objs.size f cdv)).units + 64 < cLine := hr.units
    refine ⟨_, pss_cons (ps_set (i := 2) nd rfl (.inl rfl) (pe_lst (pa_cons (pe_op op_sub (pe_cl D hr (by decide) (by rfl) (pa_cons (pv 0) (pa_cons pe_int pa_nil))) pe_int) (pa_cons (pe_cl W hr (by decide) (by rfl) (pa_cons (pv 0) pa_nil)) (pa_cons (pe_op op_pow pe_int pe_int)
          (pa_cons (pe_un un_neg (pe_op op_pow pe_int pe_int)) (pa_cons (pe_op op_add (pe_op op_pow pe_int pe_int) pe_int) (pa_cons pe_int pa_nil))))))))
      (Evl.pss_cut (ps_if (pt_cmpR (op_neD hu64) (pv 1) (pe_lst pa_nil) (nomark _))
        (pss_cons (ps_asg (pe_cl C hr (by decide) (by rfl) (pa_cons (pv 0) (pa_cons (pv 1) pa_nil))) (pg_tup rfl (pgs_cons (pg_name (i := 3) nd rfl (.inl rfl)) (pgs_cons (pg_name (i := 4) nd rfl (.inl rfl)) pgs_nil))))
        (pss_one (ps_set (i := 2) nd rfl (.inl rfl) (pe_op op_cat (pv 2) (pe_lst (pa_cons (pe_un un_neg (pv 3)) (pa_cons (pe_op op_sub (pe_un un_neg (pv 3)) pe_int) (pa_cons (pe_un un_neg (pv 4)) (pa_cons (pe_op op_sub (pe_un un_neg (pv 4)) pe_int)
            (pa_cons (pe_op op_sub (pe_op op_pow pe_int pe_int) (pv 4)) (pa_cons (pe_op op_add (pe_op op_sub (pe_op op_pow pe_int pe_int) (pv 4)) pe_int) (pa_cons (pe_op op_add (pe_op op_sub (pe_op op_pow pe_int pe_int) (pv 3)) pe_int) pa_nil)))))))))))) pss_nil)
      (pss_one (ps_ret (pe_cl C hr (by decide) (by rfl) (pa_cons (pv 0) (pa_cons (pv 2) pa_nil)))))), ?_⟩
    refine ⟨_, rfl, p, 5, n, rfl, by decide, by decide, hP, by omega, fun r H1 _ _ P1 F1 => ⟨_, _, rfl, rfl, ?_⟩⟩
    refine ⟨_, rfl, p, n + 1, rfl, P1, by omega, fun r2 H2 _ _ P2 F2 => ?_⟩
    refine ⟨_, _, rfl, rfl, hpow, _, _, rfl, rfl, hpow, _, rfl, _, _, rfl, rfl, hpow, _, _, rfl, rfl, (by show 6 ≤ sizeLine; decide), fun o no => ?_⟩
    have FF2 := F1.trans F2
    have P3 := P2.new (o := .lst [.int (r - 2), .int r2, .int (10 ^ (30 : Int).toNat), .int (-(10 ^ (30 : Int).toNat)), .int (10 ^ (30 : Int).toNat + 1), .int 0]) no
    have FF3 := FF2.trans (Frm.new (p := p) (o := .lst [.int (r - 2), .int r2, .int (10 ^ (30 : Int).toNat), .int (-(10 ^ (30 : Int).toNat)), .int (10 ^ (30 : Int).toNat + 1), .int 0]) no)
    have ho3 : (upd H2 o (.lst [.int (r - 2), .int r2, .int (10 ^ (30 : Int).toNat), .int (-(10 ^ (30 : Int).toNat)), .int (10 ^ (30 : Int).toNat + 1), .int 0])) o = some (.lst [.int (r - 2), .int r2, .int (10 ^ (30 : Int).toNat), .int (-(10 ^ (30 : Int).toNat)), .int (10 ^ (30 : Int).toNat + 1), .int 0]) := upd_same
    have ai : AllI [.int (r - 2), .int r2, .int (10 ^ (30 : Int).toNat), .int (-(10 ^ (30 : Int).toNat)), .int (10 ^ (30 : Int).toNat + 1), .int 0] := (((((AllI.nil.cons).cons).cons).cons).cons).cons
    have hS3 := FF3.seq hP hS
    have hL3 := hL.frm FF3 hP
    refine ⟨fun σ' H' => ∃ (b : Addr) (xs : List V) (u v : Option V), σ' = [some (.ref p), some (.ref a), some (.ref b), u, v] ∧ H' b = some (.lst xs) ∧ AllI xs ∧ 0 < xs.length ∧ xs.length ≤ 20 ∧ Pen H' p (n + 6) ∧ Frm p H H', ?_, ?_⟩
    · refine ⟨_, rfl, Nat.zero_le _, fun e ne => ?_⟩
      have Se := same_lay (o := .lst []) ne
      refine ⟨.list ((rws L).map rowD), .list [], .lst (Se.seq hS3) (dp_rows (hL3.same Se)), .lst (.inl (.inl upd_same)) .nil, shp_lst _, rfl, _, rfl, ?_⟩
      have ho4 := Se _ _ ho3
      have P4 := P3.same' Se
      have FF4 := FF3.trans (frmS (p := p) Se)
      have hS4 := Se.seq hS3
      have hL4 := hL3.same Se
      generalize upd (upd H2 o (.lst [.int (r - 2), .int r2, .int (10 ^ (30 : Int).toNat), .int (-(10 ^ (30 : Int).toNat)), .int (10 ^ (30 : Int).toNat + 1), .int 0])) e (.lst []) = H4 at *
      cases L with
      | nil => exact iteF ⟨o, _, none, none, rfl, ho4, ai, Nat.succ_pos _, (by show 6 ≤ 20; decide), P4.mono (by omega), FF4⟩
      | cons z0 L0 =>
        refine iteT ⟨_, rfl, _, rfl, p, a, _, _, rfl, hS4, (by rw [refs_len]; exact Nat.succ_pos _), (by rw [refs_len]; omega), P4, by omega, fun v H5 hv P5 F5 => ?_⟩
        obtain ⟨z, hz, rfl⟩ := List.mem_map.mp hv
        have ez := (hL4.frm F5 P4) z hz
        refine ⟨z.1, _, rfl, .inl (.inl ez), rfl, _, _, rfl, _, _, rfl, rfl, ?_⟩
        have ho5 := F5.lst P4 ho4
        have FF5 := FF4.trans F5
        refine ⟨_, rfl, _, rfl, _, rfl, _, rfl, _, rfl, _, _, rfl, rfl, _, rfl, _, rfl, _, rfl, _, rfl, _, _, rfl, rfl, _, _, rfl, rfl, hpow, _, rfl, _, _, rfl, rfl, _, _, rfl, rfl, hpow, _, rfl, _, _, rfl, rfl, _, _, rfl, rfl, _, _, rfl, rfl, hpow, _, rfl, _, _, rfl, rfl, _, _, rfl, rfl, (by show 7 ≤ sizeLine; decide), fun b nb => ?_⟩
        have Sb := same_lay (o := .lst [.int (-z.2.1), .int (-z.2.1 - 1), .int (-z.2.2), .int (-z.2.2 - 1), .int (10 ^ (30 : Int).toNat - z.2.2), .int (10 ^ (30 : Int).toNat - z.2.2 + 1), .int (10 ^ (30 : Int).toNat - z.2.1 + 1)]) nb
        refine ⟨o, b, _, _, rfl, rfl, Sb _ _ ho5, upd_same, (by show 6 + 7 ≤ sizeLine; decide), fun c nc => ?_⟩
        have Sc := Sb.trans (same_lay (o := .lst ([.int (r - 2), .int r2, .int (10 ^ (30 : Int).toNat), .int (-(10 ^ (30 : Int).toNat)), .int (10 ^ (30 : Int).toNat + 1), .int 0] ++ [.int (-z.2.1), .int (-z.2.1 - 1), .int (-z.2.2), .int (-z.2.2 - 1), .int (10 ^ (30 : Int).toNat - z.2.2), .int (10 ^ (30 : Int).toNat - z.2.2 + 1), .int (10 ^ (30 : Int).toNat - z.2.1 + 1)])) nc)
        exact ⟨c, _, _, _, rfl, upd_same, ai.app (((((((AllI.nil.cons).cons).cons).cons).cons).cons).cons), Nat.succ_pos _, (by show 13 ≤ 20; decide), (P5.same' Sc).mono (by omega), FF5.trans (frmS Sc)⟩
    · rintro σ' H' ⟨b, xs, u, v, rfl, hb, hxs, h0, h20, P4, F4⟩
      refine ⟨_, rfl, _, rfl, p, b, xs, _, rfl, .inl (.inl hb), h0, by omega, P4, by omega, fun v H5 hv P5 F5 => ?_⟩
      obtain ⟨z, rfl⟩ := hxs v hv
      exact q z H5 (P5.mono (by omega)) (F4.trans F5)
end
end OR

namespace OR
open PySem PySem.Spec PyProof.Rows L2
/-! ### the law -/
theorem Frm.tp {H H' : Hp} {p a : Addr} {n : Nat} {xs : List V} (f : Frm p H H') (P : Pen H p n) (h : H a = some (.tup xs)) : H' a = some (.tup xs) := by
  obtain ⟨kvs, hp⟩ := P.dict
  exact f _ _ h (ne_of h hp (by intro z; cases z))
theorem IsP.frm {C : Addr} {H H' : Hp} {x p : Addr} {n : Nat} {l : List Row} (h : IsP C H x l) (fr : Frm p H H') (P : Pen H p n) : IsP C H' x l := by
  obtain ⟨nf, dx, t, f, b, M, h1, h2, h3, h4, h5, h6, h7⟩ := h
  have h3' := h3.frm fr P
  obtain ⟨kvs, hp⟩ := P.dict
  have go : ∀ (a : Addr) (o : HO), H a = some o → o ≠ .dK kvs → H' a = some o := fun a o e no => fr a o e (ne_of e hp no)
  exact ⟨nf, dx, t, f, b, M, go _ _ h1 (by intro z; cases z), go _ _ h2 (by intro z; cases z), h3', h4, go _ _ h5 (by intro z; cases z), go _ _ h6 (by intro z; cases z), h7⟩
theorem IsQ.frm {C : Addr} {H H' : Hp} {x p : Addr} {n : Nat} {l : List Row} (h : IsQ C H x l) (fr : Frm p H H') (P : Pen H p n) : IsQ C H' x l := ⟨h.is.frm fr P, h.ok⟩
theorem eqT (l : List Row) : PyData.eqv (.tuple (l.map rowD)) (.tuple (l.map rowD)) = true := (eqv_rows l l).trans (decide_eq_true rfl)
theorem nobl (b : Bool) : (!decide (V.bl b = V.bl b)) = false := by simp
def spLaw (K : PySem.W.Frag) : Sp := fun vs H Q _ => ∃ (a : Addr) (ns : List Int), vs = [.ref a] ∧ SqL K H a (ns.map V.int) ∧ ns.length ≤ 63 ∧ ∀ H', Q (.bl true) H'
theorem nf_self {K : PySem.W.Frag} {C : Addr} : PySem.W.notFirst K C (.ref C) = true := by simp [PySem.W.notFirst]
theorem pe_mt0 {X : Cx} {k j : Nat} {C : Addr} {m : Str} {ps : List Str} {sp : Sp} {o : Expr} {ta : TE} {apos pos : Pos} {pl : Sem Bool} (M : Mt X.prog X.w X.K X.mg X.base k C m ps sp) (c : Cls X.K C) (hr : Room j X.A) (hk : k ≤ j) (he : PE X o ta)
    (ht : eval (.Call (.Attribute o m apos) [] [] pos) X.env = (do
      let ov ← eval o X.env
      standAt apos.atName
      let (f, first) ← holding [ov] (getMethod ov m pl)
      callWith pos f first (backTo pos (starEach [] X.env)) (backToKw pos (keywordEach [] X.env))) := by rfl) : PE X (.Call (.Attribute o m apos) [] [] pos) (tMeth C m sp [] E0 ta tNil) := by
  obtain ⟨f, fd, hm, F, hb⟩ := M.ex
  exact pe_meth0 he c hm F (hr.mono hk) hb .nil pass0 ht
theorem cutN (xs : List V) (n : Nat) : cutV xs none (some (n : Int)) = xs.take n := by
  unfold cutV
  rw [HT.sIx_none, show HT.sIx xs.length xs.length (some (n : Int)) = min n xs.length from HT.sIx_nat _ _ n, List.drop_zero, Nat.sub_zero]
  rcases Nat.le_total n xs.length with h | h
  · rw [Nat.min_eq_left h]
  · rw [Nat.min_eq_right h, List.take_of_length_le (Nat.le_refl _), List.take_of_length_le h]
section
variable {P : Program} {w : World} {K : PySem.W.Frag} {mg : Str → Option Value} {base : Heap}
theorem scLaw : FnScope ["_law_script", "_law_pen_here", "_law_turn", "_law_rows", "_law_places", "_law_again", "_law_by_here", "_law_moved", "_law_last", "_law_turned", "_law_due", "_law_row"] ["_law_script"] (defScope sLaw) := ⟨rfl, rfl, rfl, by decide +kernel, rfl, by decide +kernel, by decide +kernel⟩
theorem ok_law {f C : Addr} {fd : FuncData} (F : Fun K "law" "law" sLaw f fd) (B : Bd mg) (M : PMk' P w K mg base C) (ne : PySem.W.findIn K (.ref C) "__ne__" = some (some (.builtin "object.__ne__"))) (sf : PySem.W.selfFirst K C = true)
    (EQ : Md P w K mg base 1 C "__eq__" (spPlEq K C)) (AN : Md P w K mg base 6 C (PySem.dunder (Operator.info .BitAnd).2) (spBin C fAnd bOr))
    (SF : Mt P w K mg base 6 C "shifted" ["self", "by"] (spMove C fun t d => t - d)) (MI : Mt P w K mg base 6 C "mirrored" ["self", "last"] (spMove C fun t d => d - t)) (IN : Mt P w K mg base 6 C "inner" ["self"] (spInner C))
    (WI : Mt P w K mg base 7 C "within" ["self", "other"] (spWithin C)) (SZ : Mt P w K mg base 1 C "size" ["self"] (spSize C))
    (N : Cl P w K mg base 1 "_law_pen" ["_law_script"] (spPen K)) (D : Cl P w K mg base 1 "_law_draw" ["_law_pen_here", "_law_many"] spDraw) (SP : Cl P w K mg base 2 "_law_spot" ["_law_pen_here"] spSpot)
    (DR : Cl P w K mg base 3 "_law_drawn" ["_law_pen_here", "_law_most"] spDrawn) (MG : Cl P w K mg base 1 "_law_merged" ["_law_rows"] (spMerged K))
    (LS : Cl P w K mg base 2 "_law_shifted" ["_law_rows", "_law_by_here"] (spLMove K (fun _ => True) fun z d => z - d)) (LM : Cl P w K mg base 2 "_law_mirrored" ["_law_rows", "_law_last"] (spLMove K (fun d => d ≤ lastP) fun z d => d - z))
    (BY : Cl P w K mg base 4 "_law_by" ["_law_pen_here", "_law_rows"] (spBy K)) : FnOk P w K mg base CX0 8 f fd ["_law_script"] (spLaw K) := by
  have T := M.T
  refine F.ok scLaw (fun vs H Q E h => ?_) (fun cdv A outer s H vs Q E hr h => ?_)
  · obtain ⟨a, ns, rfl, _⟩ := h
    rfl
  · obtain ⟨sc, ns, rfl, hS, hlen, q⟩ := h
    have nd := scLaw.nd
    have hu64 : (A.deeper (envOfC "law" (defScope sLaw) s.heap.objs.size f cdv)).units + 64 < cLine := hr.units
    have hpow : CPow 10 30 := ⟨by decide, by decide, by decide⟩
    refine ⟨_, pss_cons (ps_set (i := 1) nd rfl (.inl rfl) (pe_cl N hr (by decide) (by rfl) (pa_cons (pv 0) pa_nil)))
      (pss_cons (ps_for PassesOwn.never rfl (pi_range1 (by rfl) B.range (pa_cons (pe_op op_add pe_int (pe_callB (call_min2 rfl) (by rfl) B.min bt_min (pa_cons pe_int (pa_cons (pe_callB call_len_seq (by rfl) B.len PySem.boot_len (pa_cons (pv 0) pa_nil)) pa_nil)))) pa_nil)) (pg_name (i := 2) nd rfl (.inl rfl))
        (pss_cons (ps_set (i := 3) nd rfl (.inl rfl) (pe_cl MG hr (by decide) (by rfl) (pa_cons (pe_cl DR hr (by decide) (by rfl) (pa_cons (pv 1) (pa_cons pe_int pa_nil))) pa_nil)))
        (pss_cons (ps_set (i := 4) nd rfl (.inl rfl) (pe_mkP K rfl M hr (by decide) (by rfl) (pa_cons (pv 3) pa_nil)))
        (pss_cons (ps_for PassesOwn.never rfl (pi_range1 (by rfl) B.range (pa_cons pe_int pa_nil)) (pg_name (i := 5) nd rfl (.inl rfl))
          (pss_cons (ps_set (i := 6) nd rfl (.inl rfl) (pe_cl BY hr (by decide) (by rfl) (pa_cons (pv 1) (pa_cons (pv 3) pa_nil))))
          (pss_cons (ps_set (i := 7) nd rfl (.inl rfl) (pe_mt SF T.cl hr (by decide) (pv 4) (pa_cons (pv 6) pa_nil)))
          (pss_cons (ps_if (PW.pt (pw_or (pt_cmpR (op_neD hu64) (pe_fld (pv 7) rfl) (pe_cl LS hr (by decide) (by rfl) (pa_cons (pv 3) (pa_cons (pv 6) pa_nil))) (nomark _))
              (pw_or1 (pt_cmpR op_isnot_bl (pe_mt WI T.cl hr (by decide) (pe_mt SF T.cl hr (by decide) (pv 7) (pa_cons (pe_un un_neg (pv 6)) pa_nil)) (pa_cons (pv 4) pa_nil)) pe_bl (nomark _))))) (pss_one (ps_ret pe_bl)) pss_nil)
          (pss_one (ps_if (pt_cmpR op_ne (pe_cmpR op_eq (pe_mt0 SZ T.cl hr (by decide) (pv 7)) (pe_mt0 SZ T.cl hr (by decide) (pv 4)) (nomark _)) (pe_cmpR (op_eqO K rfl EQ (hr.mono (by decide))) (pe_mt SF T.cl hr (by decide) (pv 7) (pa_cons (pe_un un_neg (pv 6)) pa_nil)) (pv 4) (nomark _)) (nomark _)) (pss_one (ps_ret pe_bl)) pss_nil))))))
        (pss_cons (ps_for PassesOwn.never rfl (pi_list (pe_op op_cat (pe_lst (pa_cons (pe_cl SP hr (by decide) (by rfl) (pa_cons (pv 1) pa_nil)) (pa_cons (pe_op op_pow pe_int pe_int) (pa_cons (pe_cl D hr (by decide) (by rfl) (pa_cons (pv 1) (pa_cons pe_int pa_nil))) pa_nil))))
              (pe_lc (own := [("_law_row", 11)]) (g := gName 11) (tt := tYes) rfl nd (pi_list (pe_slice sl_list (pv 3) po_none (po_some pe_int))) (blkOk_by (N := ["_law_script", "_law_pen_here", "_law_turn", "_law_rows", "_law_places", "_law_again", "_law_by_here", "_law_moved", "_law_last", "_law_turned", "_law_due", "_law_row"]) (sc := defScope sLaw) (by decide +kernel))
                (fun _ _ _ _ _ => pg_name (i := 11) nd rfl (.inl rfl)) (fun _ _ _ _ _ => pts_nil) (fun _ _ _ _ _ => pe_ix (ix_any K rfl) (pv 11) pe_int (fun _ _ => rfl))))) (pg_name (i := 8) nd rfl (.inl rfl))
          (pss_cons (ps_set (i := 9) nd rfl (.inl rfl) (pe_mt MI T.cl hr (by decide) (pv 4) (pa_cons (pv 8) pa_nil)))
          (pss_cons (ps_if (pt_cmpR (op_neD hu64) (pe_fld (pv 9) rfl) (pe_cl LM hr (by decide) (by rfl) (pa_cons (pv 3) (pa_cons (pv 8) pa_nil))) (nomark _)) (pss_one (ps_ret pe_bl)) pss_nil)
          (pss_one (ps_if (pt_cmpR (op_neO K rfl EQ ne T.isi.cm (hr.mono (by decide))) (pe_mt MI T.cl hr (by decide) (pv 9) (pa_cons (pv 8) pa_nil))
              (pe_op (op_binS AN sf (hr.mono (by decide))) (pv 4) (pe_mkP K rfl M hr (by decide) (by rfl) (pa_cons (pe_lst (pa_cons (pe_tup (pa_cons pe_int (pa_cons (pv 8) pa_nil))) pa_nil)) pa_nil))) (nomark _)) (pss_one (ps_ret pe_bl)) pss_nil)))))
        (pss_cons (ps_set (i := 10) nd rfl (.inl rfl) (pe_callTy call_tuple_of (by rfl) T.zTup bt_tup (pa_cons
            (pe_lc (own := [("_law_row", 11)]) (g := gName 11) rfl nd (pi_list (pv 3)) (blkOk_by (N := ["_law_script", "_law_pen_here", "_law_turn", "_law_rows", "_law_places", "_law_again", "_law_by_here", "_law_moved", "_law_last", "_law_turned", "_law_due", "_law_row"]) (sc := defScope sLaw) (by decide +kernel))
              (fun _ _ _ _ _ => pg_name (i := 11) nd rfl (.inl rfl)) (fun _ _ _ _ _ => pts_one (pt_cmpR op_lt (pe_ix (ix_any K rfl) (pv 11) pe_int (fun _ _ => rfl)) (pe_ix (ix_any K rfl) (pv 11) pe_int (fun _ _ => rfl)) (nomark _)))
              (fun _ _ _ _ _ => pe_tup (pa_cons (pe_ix (ix_any K rfl) (pv 11) pe_int (fun _ _ => rfl)) (pa_cons (pe_op op_sub (pe_ix (ix_any K rfl) (pv 11) pe_int (fun _ _ => rfl)) pe_int) pa_nil)))) pa_nil)))
        (pss_cons (ps_if (PW.pt (pw_or (pt_cmpR (op_neD hu64) (pe_fld (pe_mt0 IN T.cl hr (by decide) (pv 4)) rfl) (pv 10) (nomark _))
            (pw_or1 (pt_cmpR (op_neO K rfl EQ ne T.isi.cm (hr.mono (by decide))) (pe_mt0 IN T.cl hr (by decide) (pv 4)) (pe_op (op_binS AN sf (hr.mono (by decide))) (pv 4) (pe_mt SF T.cl hr (by decide) (pv 4) (pa_cons (pe_un un_neg pe_int) pa_nil))) (nomark _))))) (pss_one (ps_ret pe_bl)) pss_nil)
        (pss_one (ps_if (pt_cmpR (op_neD hu64) (pe_fld (pv 4) rfl) (pe_callTy call_tuple_of (by rfl) T.zTup bt_tup (pa_cons (pv 3) pa_nil)) (nomark _)) (pss_one (ps_ret pe_bl)) pss_nil)))))))))
      (pss_one (ps_ret pe_bl))), ?_⟩
    have kS : ∀ t f b : Addr, (pFl t f b).lookup ("shifted" : Str) = none := fun _ _ _ => pFl_no _ _ _ (by decide +kernel) (by decide +kernel) (by decide +kernel)
    have kM : ∀ t f b : Addr, (pFl t f b).lookup ("mirrored" : Str) = none := fun _ _ _ => pFl_no _ _ _ (by decide +kernel) (by decide +kernel) (by decide +kernel)
    have kI : ∀ t f b : Addr, (pFl t f b).lookup ("inner" : Str) = none := fun _ _ _ => pFl_no _ _ _ (by decide +kernel) (by decide +kernel) (by decide +kernel)
    have kW : ∀ t f b : Addr, (pFl t f b).lookup ("within" : Str) = none := fun _ _ _ => pFl_no _ _ _ (by decide +kernel) (by decide +kernel) (by decide +kernel)
    have kZ : ∀ t f b : Addr, (pFl t f b).lookup ("size" : Str) = none := fun _ _ _ => pFl_no _ _ _ (by decide +kernel) (by decide +kernel) (by decide +kernel)
    refine ⟨_, rfl, sc, ns, rfl, hS, hlen, fun p H1 np P0 S0 => ?_⟩
    generalize hJ : (3 : Int) + (if ((ns.map V.int).length : Int) < 3 then ((ns.map V.int).length : Int) else 3) = J
    have hJb : 0 ≤ J ∧ J ≤ 6 := by
      subst hJ
      split <;> omega
    refine ⟨_, rfl, sc, _, rfl, .inl (S0.seq hS), 3, _, rfl, _, _, rfl, rfl, J, congrArg (fun z => [V.int z]) hJ, by omega, by omega, for_range (n := J.toNat) (fun i σ H2 => ∃ s2 s3 s4 s5 s6 s7 s8 s9 s10, σ = [some (.ref sc), some (.ref p), s2, s3, s4, s5, s6, s7, s8, s9, s10, none] ∧ Pen H2 p (10000 * i))
      ⟨none, none, none, none, none, none, none, none, none, rfl, P0⟩ ?_ ?_⟩
    · rintro i σ H2 hi ⟨s2, s3, s4, s5, s6, s7, s8, s9, s10, rfl, P1⟩
      have hi6 : i < 6 := by omega
      -- rows, places
      refine ⟨_, rfl, p, 6, 10000 * i, rfl, by decide, P1, by omega, fun a L H3 na ha hL okL lenL P2 F2 => ?_⟩
      refine ⟨a, L, rfl, .inl (.inl ha), hL, okL, by omega, fun o M H4 S4 no ho hM hnf hme lenM => ?_⟩
      have P3 := P2.same' S4
      have okM := ok_of_mem hnf hme okL
      refine ⟨_, rfl, o, M, rfl, .inl (.inl (.inl ho)), by omega, hM.pairs, okM, fun x l H5 nx hx hxm _ S5 => ?_⟩
      obtain rfl : l = rws M := Nf.unique hx.nf hnf hxm
      have hq5 : IsQ C H5 x (rws M) := ⟨hx, okM⟩
      have ho5 := S5 _ _ ho
      have hM5 := hM.same S5
      have P5 := P3.same' S5
      have lenR : (rws M).length < 64 := by rw [rws_len]; exact lenM
      clear hxm S5 P3 S4 P2 F2 hx ho no hM nx ha hL na P1
      -- moved three times
      refine ⟨3, rfl, by decide, by decide, for_range (n := 3) (fun j σ H => ∃ s5 s6 s7, σ = [some (.ref sc), some (.ref p), some (.int (0 + i)), some (.ref o), some (.ref x), s5, s6, s7, s8, s9, s10, none] ∧ H o = some (.lst (refs M)) ∧ AtR H M ∧ IsQ C H x (rws M) ∧ Pen H p (10000 * i + 1000 + 10 * j))
        ⟨s5, s6, s7, rfl, ho5, hM5, hq5, P5⟩ ?_ ?_⟩
      · rintro j σ H6 hj ⟨s5, s6, s7, rfl, ho6, hM6, hq6, P6⟩
        have hj3 : j < 3 := hj
        refine ⟨_, rfl, _, rfl, p, o, M, _, rfl, .inl (.inl ho6), hM6, by omega, P6, by omega, fun d H7 P7 F7 => ?_⟩
        have ho7 := F7.lst P6 ho6
        have hM7 := hM6.frm F7 P6
        have hq7 := hq6.frm F7 P6
        obtain ⟨_, dx7, t7, f7, b7, M7, hx7, _⟩ := id hq7.is
        refine ⟨_, rfl, x, dx7, _, rfl, hx7, kS _ _ _, _, rfl, x, d, rws M, rfl, hq7, by omega, fun m nm H8 _ hqm ma lenm S8 => ?_⟩
        replace ma : ∀ t, mem nm t ↔ (mem (rws M) (t - d) ∧ 0 ≤ t ∧ t ≤ lastP) := ma
        obtain ⟨_, dm, tm, fm, bm, Mm, hxm, htm, hMm, eMm, _⟩ := id hqm.is
        -- its stretches
        refine ⟨_, rfl, m, C, dm, _, _, rfl, hxm, T.cl, T.nS, pFl_s _ _ _, _, rfl, _, rfl, o, d, M, rfl, trivial, .inl (.inl (S8 _ _ ho7)), hM7.same S8, okM, lenM, fun t9 N H9 S9 ht9 hN9 nfN memN lenN => ?_⟩
        refine ⟨.tuple ((rws Mm).map rowD), .tuple ((rws N).map rowD), .tup (.inl (.inl (S9 _ _ htm))) (dp_rows (hMm.same S9)), .tup (.inl (.inl ht9)) (dp_rows hN9), shp_tup _, shp_tup _, _, rfl, ?_⟩
        have eN : rws N = nm := Nf.unique nfN hqm.is.nf fun z => (memN z).trans (ma z).symm
        rw [eMm, eN, eqT]
        refine iteF ?_
        -- there and back
        have hqm9 := hqm.same S9
        have hq9 := (hq7.same S8).same S9
        refine ⟨_, rfl, m, dm, _, rfl, S9 _ _ hxm, kS _ _ _, _, rfl, d, rfl, m, -d, nm, rfl, hqm9, by omega, fun b nb H10 _ hqb mb0 lenb S10 => ?_⟩
        have mb : ∀ t, mem nb t ↔ (mem nm (t + d) ∧ 0 ≤ t ∧ t ≤ lastP) := fun t => by
          have e : mem nb t ↔ (mem nm (t - -d) ∧ 0 ≤ t ∧ t ≤ lastP) := mb0 t
          rw [show t - -d = t + d by omega] at e
          exact e
        obtain ⟨_, db, tb, fb, bb, Mb, hxb, _⟩ := id hqb.is
        refine ⟨b, db, _, rfl, hxb, kW _ _ _, _, rfl, b, x, nb, rws M, rfl, hqb, hq9.same S10, by omega, fun w H11 hw S11 => ?_⟩
        have w1 : w = true := hw.mpr fun t ht => by
          have e := ((ma _).mp ((mb t).mp ht).1).1
          rw [show t + d - d = t by omega] at e
          exact e
        subst w1
        refine ⟨_, _, rfl, rfl, _, rfl, ?_⟩
        refine iteF ?_
        -- how many
        have hqm11 := (hqm9.same S10).same S11
        have hq11 := (hq9.same S10).same S11
        obtain ⟨_, dx11, t11, f11, b11, M11, hx11, _⟩ := id hq11.is
        obtain ⟨_, dm11, tm11, fm11, bm11, Mm11, hm11, _⟩ := id hqm11.is
        refine ⟨_, rfl, m, dm11, _, rfl, hm11, kZ _ _ _, m, nm, rfl, hqm11.is, ?_⟩
        refine ⟨_, rfl, x, dx11, _, rfl, hx11, kZ _ _ _, x, rws M, rfl, hq11.is, rfl, ?_⟩
        refine ⟨_, rfl, m, dm11, _, rfl, hm11, kS _ _ _, _, rfl, d, rfl, m, -d, nm, rfl, hqm11, by omega, fun b2 nb2 H12 _ hqb2 mb20 lenb2 S12 => ?_⟩
        have mb2 : ∀ t, mem nb2 t ↔ (mem nm (t + d) ∧ 0 ≤ t ∧ t ≤ lastP) := fun t => by
          have e : mem nb2 t ↔ (mem nm (t - -d) ∧ 0 ≤ t ∧ t ≤ lastP) := mb20 t
          rw [show t - -d = t + d by omega] at e
          exact e
        have hq12 := hq11.same S12
        obtain ⟨_, dx12, t12, f12, b12, M12, hx12, _⟩ := id hq12.is
        obtain ⟨_, db2, tb2, fb2, bb2, Mb2, hxb2, _⟩ := id hqb2.is
        refine ⟨_, rfl, b2, db2, _, rfl, hxb2, ⟨.ref C, tyP T hx12, nf_self⟩, b2, nb2, .ref x, rfl, hqb2.is, .inl ⟨x, rws M, rfl, hq12.is, rfl, _, rfl, ?_⟩⟩
        have sb : tot nm = tot (rws M) ↔ nb2 = rws M := size_back (d := d) hnf hqm.is.nf hqb2.is.nf ma mb2 fun z hz => mem_bd okM hz
        rw [show decide (V.int (tot nm) = V.int (tot (rws M))) = decide (nb2 = rws M) from decide_eq_decide.mpr ⟨fun e => sb.mp (V.int.inj e), fun e => congrArg V.int (sb.mpr e)⟩, nobl]
        refine iteF ?_
        have Se := (((S8.trans S9).trans S10).trans S11).trans S12
        exact ⟨_, _, _, rfl, Se _ _ ho7, hM7.same Se, hq12, (P7.same' Se).mono (by omega)⟩
      rintro σ H6 ⟨s5, s6, s7, rfl, ho6, hM6, hq6, P6⟩
      have hu9 : (10 : Int) ^ (30 : Int).toNat = lastP := by decide
      -- the last places
      refine ⟨_, rfl, p, _, rfl, P6, by omega, fun r H7 hr7 P7 F7 => ?_⟩
      refine ⟨_, _, rfl, rfl, hpow, _, rfl, p, 9, _, rfl, by decide, by decide, P7, by omega, fun e H8 he0 he1 P8 F8 => ?_⟩
      refine ⟨by show 3 ≤ sizeLine; decide, fun la nla => ?_⟩
      have FF := F7.trans F8
      have Sa := same_lay (o := .lst [.int r, .int ((10 : Int) ^ (30 : Int).toNat), .int e]) nla
      have hla : (upd H8 la (.lst [.int r, .int ((10 : Int) ^ (30 : Int).toNat), .int e])) la = some (.lst [.int r, .int ((10 : Int) ^ (30 : Int).toNat), .int e]) := upd_same
      have ho9 := Sa _ _ (FF.lst P6 ho6)
      have hM9 := (hM6.frm FF P6).same Sa
      have hq9 := (hq6.frm FF P6).same Sa
      have P9 := P8.same' Sa
      generalize upd H8 la (.lst [.int r, .int ((10 : Int) ^ (30 : Int).toNat), .int e]) = H9 at *
      clear Sa nla FF F8 F7 P7 P8 hq6 hM6 ho6 P6 hq5 ho5 hM5 P5
      have ec : cutV (refs M) none (some 2) = refs (M.take 2) := by
        rw [show cutV (refs M) none (some 2) = (refs M).take 2 from cutN (refs M) 2]
        unfold refs
        rw [List.map_take]
      refine ⟨_, rfl, 2, rfl, o, refs M, rfl, .inl (.inl ho9), fun sl nsl => ?_⟩
      have Ss := same_lay (o := .lst (cutV (refs M) none (some 2))) nsl
      have hsl : (upd H9 sl (.lst (cutV (refs M) none (some 2)))) sl = some (.lst (refs (M.take 2))) := by rw [upd_same, ec]
      refine ⟨sl, rfl, ⟨_, .inl (.inl upd_same)⟩, fun Dd hD => ?_⟩
      have S9D : Same H9 (upd (upd H9 sl (.lst (cutV (refs M) none (some 2)))) Dd (.lst [])) := Ss.trans (same_lay hD)
      have hsD : (upd (upd H9 sl (.lst (cutV (refs M) none (some 2)))) Dd (.lst [])) sl = some (.lst (refs (M.take 2))) := same_lay hD _ _ hsl
      have hDD : (upd (upd H9 sl (.lst (cutV (refs M) none (some 2)))) Dd (.lst [])) Dd = some (.lst []) := upd_same
      have nD9 : H9 Dd = none := Option.eq_none_iff_forall_ne_some.mpr fun u eu => by rw [Ss _ _ eu] at hD; cases hD
      have nsD : sl ≠ Dd := fun eu => by rw [← eu, hsl] at hD; cases hD
      have hM2 : ∀ z ∈ M.take 2, z ∈ M := fun z hz => List.mem_of_mem_take hz
      refine lc_list (K := K) (a := sl) (xs := refs (M.take 2)) (fun k H2 => ∃ xs : List V, H2 Dd = some (.lst xs) ∧ (∀ v ∈ xs, ∃ d : Int, v = .int d ∧ 0 ≤ d ∧ d ≤ lastP) ∧ xs.length ≤ k ∧ Same H9 H2 ∧ H2 sl = some (.lst (refs (M.take 2))))
        ⟨[], hDD, (fun _ z => nomatch z), Nat.le_refl _, S9D, hsD⟩ (fun k H2 _ ⟨_, _, _, _, _, s⟩ => .inl (.inl s)) ?_ ?_
      · rintro k y H10 hy ⟨xs, hx, hxs, lx, S10, hs10⟩
        obtain ⟨z, hz, hzM, rfl⟩ := refs_get hy
        have hk : k < (M.take 2).length := (List.getElem?_eq_some_iff.mp hz).1
        rw [List.length_take] at hk
        have ez := S10 _ _ (hM9 z (hM2 z hzM))
        have oz := okRow_iff (okM z.2 (List.mem_map.mpr ⟨z, hM2 z hzM, rfl⟩))
        refine ⟨rfl, yesT ?_⟩
        refine ⟨_, rfl, z.1, [.int z.2.1, .int z.2.2], 0, .int z.2.1, rfl, rfl, .inr (.inl (.inl ez)), atI_nat (j := 0) rfl, xs, hx, small1000 (by omega), ?_⟩
        refine ⟨xs ++ [.int z.2.1], upd_same, fun v hv => ?_, by rw [List.length_append]; exact Nat.succ_le_succ lx, same_upd S10 nD9, ?_⟩
        · rcases List.mem_append.mp hv with h | h
          · exact hxs v h
          · rw [List.mem_singleton.mp h]
            exact ⟨_, rfl, by omega, by omega⟩
        · rw [upd_ne nsD]
          exact hs10
      rintro H10 ⟨xs, hx, hxs, lx, S10, hs10⟩
      rw [refs_len, List.length_take] at lx
      have hla10 := S10 _ _ hla
      refine ⟨la, Dd, _, _, rfl, rfl, hla10, hx, (by show 3 + xs.length ≤ sizeLine; exact Nat.le_trans (by omega) (by decide : 5 ≤ sizeLine)), fun ql nql => ?_⟩
      have Sq := same_lay (o := .lst ([.int r, .int ((10 : Int) ^ (30 : Int).toNat), .int e] ++ xs)) nql
      have SS := S10.trans Sq
      have hall : ∀ v ∈ [V.int r, .int ((10 : Int) ^ (30 : Int).toNat), .int e] ++ xs, ∃ d : Int, v = .int d ∧ 0 ≤ d ∧ d ≤ lastP := fun v hv => by
        rcases List.mem_append.mp hv with h | h
        · simp only [List.mem_cons, List.not_mem_nil, or_false] at h
          have hp := place_iff hr7
          have l9 : (9 : Int) ≤ lastP := by decide
          rcases h with h | h | h
          · exact ⟨r, h, hp.1, hp.2⟩
          · exact ⟨_, h, by rw [hu9]; decide, by rw [hu9]; exact Int.le_refl _⟩
          · exact ⟨e, h, he0, by omega⟩
        · exact hxs v h
      have hql : (upd H10 ql (.lst ([.int r, .int ((10 : Int) ^ (30 : Int).toNat), .int e] ++ xs))) ql = some (.lst ([.int r, .int ((10 : Int) ^ (30 : Int).toNat), .int e] ++ xs)) := upd_same
      have lall : ([V.int r, .int ((10 : Int) ^ (30 : Int).toNat), .int e] ++ xs).length ≤ 5 := by
        rw [List.length_append]
        show 3 + xs.length ≤ 5
        omega
      have ho11 := SS _ _ ho9
      have hM11 := hM9.same SS
      have hq11 := hq9.same SS
      have P11 := P9.same' SS
      generalize upd H10 ql (.lst ([.int r, .int ((10 : Int) ^ (30 : Int).toNat), .int e] ++ xs)) = H11 at *
      generalize [V.int r, .int ((10 : Int) ^ (30 : Int).toNat), .int e] ++ xs = ys at *
      clear SS Sq nql hla10 hx hxs lx S10 hs10 S9D hsD hDD nD9 hD hsl Ss nsl ec ho9 hM9 hq9 P9 hla he0 he1 hr7
      refine ⟨ql, rfl, ⟨_, .inl (.inl hql)⟩, for_list (K := K) (a := ql) (xs := ys) (fun k σ H => ∃ s8 s9, σ = [some (.ref sc), some (.ref p), some (.int (0 + i)), some (.ref o), some (.ref x), s5, s6, s7, s8, s9, s10, none] ∧ H o = some (.lst (refs M)) ∧ AtR H M ∧ IsQ C H x (rws M) ∧ Pen H p (10000 * i + 2000) ∧ H ql = some (.lst ys))
        ⟨s8, s9, rfl, ho11, hM11, hq11, P11.mono (by omega), hql⟩ (fun k σ H _ ⟨_, _, _, _, _, _, _, h⟩ => .inl (.inl h)) ?_ ?_⟩
      · rintro k y σ H12 hy ⟨s8, s9, rfl, ho12, hM12, hq12, P12, hl12⟩
        obtain ⟨d, rfl, hd0, hd1⟩ := hall y (List.mem_of_getElem? hy)
        obtain ⟨_, dx, t1, f1, b1, M1, hx1, _⟩ := id hq12.is
        refine ⟨_, rfl, x, dx, _, rfl, hx1, kM _ _ _, _, rfl, x, d, rws M, rfl, hq12, by omega, fun m nm H13 _ hqm ma lenm S13 => ?_⟩
        replace ma : ∀ t, mem nm t ↔ (mem (rws M) (d - t) ∧ 0 ≤ t ∧ t ≤ lastP) := ma
        obtain ⟨_, dm, tm, fm, bm, Mm, hxm, htm, hMm, eMm, _⟩ := id hqm.is
        refine ⟨_, rfl, m, C, dm, _, _, rfl, hxm, T.cl, T.nS, pFl_s _ _ _, _, rfl, _, rfl, o, d, M, rfl, hd1, .inl (.inl (S13 _ _ ho12)), hM12.same S13, okM, lenM, fun t14 N H14 S14 ht14 hN14 nfN memN lenN => ?_⟩
        refine ⟨.tuple ((rws Mm).map rowD), .tuple ((rws N).map rowD), .tup (.inl (.inl (S14 _ _ htm))) (dp_rows (hMm.same S14)), .tup (.inl (.inl ht14)) (dp_rows hN14), shp_tup _, shp_tup _, _, rfl, ?_⟩
        have eN : rws N = nm := Nf.unique nfN hqm.is.nf fun z => (memN z).trans (ma z).symm
        rw [eMm, eN, eqT]
        refine iteF ?_
        have hqm14 := hqm.same S14
        have hq14 := (hq12.same S13).same S14
        refine ⟨_, rfl, m, dm, _, rfl, S14 _ _ hxm, kM _ _ _, _, rfl, m, d, nm, rfl, hqm14, by omega, fun b nb H15 _ hqb mb0 lenb S15 => ?_⟩
        have mb : ∀ t, mem nb t ↔ (mem nm (d - t) ∧ 0 ≤ t ∧ t ≤ lastP) := mb0
        have hq15 := hq14.same S15
        refine ⟨_, rfl, _, rfl, by show 2 ≤ sizeLine; decide, fun tu ntu => ⟨by show 1 ≤ sizeLine; decide, fun li nli => ?_⟩⟩
        have St := same_lay (o := .tup [.int 0, .int d]) ntu
        have Sl := same_lay (o := .lst [.ref tu]) nli
        have hAt : AtR (upd (upd H15 tu (.tup [.int 0, .int d])) li (.lst [.ref tu])) [(tu, (0, d))] := fun z hz => by
          rw [List.mem_singleton.mp hz]
          exact Sl _ _ upd_same
        have ok1 : ∀ r ∈ rws [(tu, ((0 : Int), d))], okRow r = true := fun r hr => by
          rw [show rws [(tu, ((0 : Int), d))] = [((0 : Int), d)] from rfl, List.mem_singleton] at hr
          rw [hr]
          exact okRow_of (Int.le_refl _) hd0 hd1
        refine ⟨li, [(tu, (0, d))], rfl, .inl (.inl (.inl upd_same)), by show 1 ≤ 1000; decide, hAt.pairs, ok1, fun x3 l3 H16 _ hx3 hxm3 le3 S16 => ?_⟩
        have Sx := (St.trans Sl).trans S16
        have hq16 := hq15.same Sx
        have hqb16 := hqb.same Sx
        have hq3 : IsQ C H16 x3 l3 := okq hx3 hxm3 ok1
        obtain ⟨_, dx2, t2, f2, b2, M2, hx2, _⟩ := id hq16.is
        obtain ⟨_, dx3, t3, f3, b3, M3, hxx3, _⟩ := id hx3
        have le3' : l3.length ≤ 1 := le3
        refine ⟨x, x3, _, _, _, _, rfl, rfl, hx2, hxx3, x, x3, rws M, l3, rfl, hq16, hq3, by show (rws M).length + l3.length ≤ 1000; omega, fun y3 n3 H17 _ hqy memy leny S17 => ?_⟩
        have hqb17 := hqb16.same S17
        obtain ⟨_, db, tb, fb, bb, Mb, hxb, _⟩ := id hqb17.is
        obtain ⟨_, dy, ty, fy, bby, My, hxy, _⟩ := id hqy.is
        have em : nb = n3 := Nf.unique hqb.is.nf hqy.is.nf fun z => by
          rw [mb z, ma (d - z), show mem n3 z ↔ (mem (rws M) z ∧ mem l3 z) from memy z, hxm3 z, show rws [(tu, ((0 : Int), d))] = [((0 : Int), d)] from rfl, mem_one, show d - (d - z) = z by omega]
          constructor
          · rintro ⟨⟨h1, h2, h3⟩, h4, h5⟩
            exact ⟨h1, h4, by omega⟩
          · rintro ⟨h1, h2, h3⟩
            have h2' : 0 ≤ z := h2
            have h3' : z ≤ d := h3
            exact ⟨⟨h1, by omega, by omega⟩, h2', by omega⟩
        refine ⟨b, db, _, rfl, hxb, ⟨.ref C, tyP T hxy, nf_self⟩, b, nb, .ref y3, rfl, hqb17.is, .inl ⟨y3, n3, rfl, hqy.is, _, rfl, _, rfl, ?_⟩⟩
        rw [decide_eq_true em]
        refine iteF ?_
        have Se := (((S13.trans S14).trans S15).trans Sx).trans S17
        exact ⟨_, _, rfl, Se _ _ ho12, hM12.same Se, hq16.same S17, P12.same' Se, Se _ _ hl12⟩
      rintro σ H12 ⟨s8, s9, rfl, ho12, hM12, hq12, P12, _⟩
      -- the inner places
      refine ⟨_, rfl, o, rfl, ⟨_, .inl (.inl ho12)⟩, fun Dd hD => lc_list (K := K) (a := o) (xs := refs M) (fun k H2 => ∃ N : List ARow, H2 Dd = some (.lst (refs N)) ∧ AtR H2 N ∧ rws N = inR ((rws M).take k) ∧ Same H12 H2 ∧ N.length ≤ k)
        ⟨[], upd_same, (fun _ z => nomatch z), rfl, same_lay hD, Nat.le_refl _⟩ (fun k H2 _ ⟨_, _, _, _, s, _⟩ => s.seq (.inl (.inl ho12))) ?_ ?_⟩
      · rintro k y H13 hy ⟨N, hD2, hN, eN, s2, lN⟩
        obtain ⟨z, hz, hzL, rfl⟩ := refs_get hy
        have hil : k < M.length := (List.getElem?_eq_some_iff.mp hz).1
        have ez := s2 _ _ (hM12 z hzL)
        have e1 : (rws M).take (k + 1) = (rws M).take k ++ [z.2] := by rw [List.take_add_one, rws_get hz]; rfl
        have nND : ∀ q ∈ N, q.1 ≠ Dd := fun q hq => ne_of (hN q hq) hD2 (by intro w; cases w)
        have g0 : ∀ (u v : Int), atI [V.int u, .int v] 0 = some (.int u) := fun _ _ => atI_nat (j := 0) rfl
        have g1 : ∀ (u v : Int), atI [V.int u, .int v] 1 = some (.int v) := fun _ _ => atI_nat (j := 1) rfl
        have tz : ∀ {H'' : Hp}, H'' z.1 = some (.tup [.int z.2.1, .int z.2.2]) → SqL K H'' z.1 [.int z.2.1, .int z.2.2] ∨ SqT K H'' z.1 [.int z.2.1, .int z.2.2] := fun h => .inr (.inl (.inl h))
        refine ⟨rfl, _, rfl, z.1, _, 0, _, rfl, rfl, tz ez, g0 _ _, _, rfl, z.1, _, 1, _, rfl, rfl, tz ez, g1 _ _, _, _, rfl, rfl, _, rfl, ?_⟩
        cases c : decide (z.2.1 < z.2.2) with
        | false =>
          have k : ¬ z.2.1 < z.2.2 := of_decide_eq_false c
          exact iteF ⟨N, hD2, hN, by rw [e1, inR_snoc, if_neg k, List.append_nil]; exact eN, s2, Nat.le_succ_of_le lN⟩
        | true =>
          have k : z.2.1 < z.2.2 := of_decide_eq_true c
          refine iteT ⟨_, rfl, z.1, _, 0, _, rfl, rfl, tz ez, g0 _ _, _, rfl, z.1, _, 1, _, rfl, rfl, tz ez, g1 _ _, _, _, rfl, rfl, (by show 2 ≤ sizeLine; decide), fun T' hT => ?_⟩
          have s4 := same_lay (o := .tup [.int z.2.1, .int (z.2.2 - 1)]) hT
          have nTD : T' ≠ Dd := (ne_of_none hD2 hT).symm
          refine ⟨refs N, s4 _ _ hD2, small1000 (by rw [refs_len]; omega), N ++ [(T', (z.2.1, z.2.2 - 1))], ?_, fun q hq => ?_, ?_, same_upd (s2.trans s4) hD, by rw [List.length_append]; exact Nat.succ_le_succ lN⟩
          · rw [upd_same, refs_snoc]
          · rcases List.mem_append.mp hq with j | j
            · rw [upd_ne (nND q j)]
              exact s4 _ _ (hN q j)
            · rw [List.mem_singleton.mp j, upd_ne nTD]
              exact upd_same
          · rw [rws_snoc, eN, e1, inR_snoc, if_pos k]
      rintro H13 ⟨N, hD2, hN, eN, S13, lN⟩
      rw [refs_len, List.take_of_length_le (by rw [rws_len]; exact Nat.le_refl _)] at eN
      refine ⟨Dd, refs N, rfl, .inl ⟨.inl (.inl hD2), fun tt ntt => ?_⟩⟩
      have S14 := same_lay (o := .tup (refs N)) ntt
      have htt : (upd H13 tt (.tup (refs N))) tt = some (.tup (refs N)) := upd_same
      have hN14 := hN.same S14
      have SS := S13.trans S14
      have ho14 := SS _ _ ho12
      have hM14 := hM12.same SS
      have hq14 := hq12.same SS
      have P14 := P12.same' SS
      generalize upd H13 tt (.tup (refs N)) = H14 at *
      clear S14 SS S13 ntt hD2 hN hD ho12 hM12 hq12 P12
      have nfI : Nf (inR (rws M)) := inR_nf hnf
      obtain ⟨_, dx, t1, f1, b1, M1, hx1, _⟩ := id hq14.is
      refine ⟨_, rfl, x, dx, _, rfl, hx1, kI _ _ _, x, rws M, rfl, hq14, by omega, fun m nm H15 _ hqm ma lenm S15 => ?_⟩
      obtain ⟨_, dm, tm, fm, bm, Mm, hxm, htm, hMm, eMm, _⟩ := id hqm.is
      have enm : nm = rws N := Nf.unique hqm.is.nf (by rw [eN]; exact nfI) fun z => by rw [ma z, eN]; exact (inR_mem hnf z).symm
      refine ⟨m, C, dm, _, _, rfl, hxm, T.cl, T.nS, pFl_s _ _ _, _, rfl, .tuple ((rws Mm).map rowD), .tuple ((rws N).map rowD), .tup (.inl (.inl htm)) (dp_rows hMm), .tup (.inl (.inl (S15 _ _ htt))) (dp_rows (hN14.same S15)), shp_tup _, shp_tup _, _, rfl, ?_⟩
      rw [eMm, enm, eqT]
      refine iteF ?_
      have hq15 := hq14.same S15
      obtain ⟨_, dx2, t2, f2, b2, M2, hx2, _⟩ := id hq15.is
      refine ⟨_, rfl, x, dx2, _, rfl, hx2, kI _ _ _, x, rws M, rfl, hq15, by omega, fun m2 nm2 H16 _ hqm2 ma2 lenm2 S16 => ?_⟩
      have hq16 := hq15.same S16
      obtain ⟨_, dx3, t3, f3, b3, M3, hx3, _⟩ := id hq16.is
      refine ⟨_, rfl, _, rfl, x, dx3, _, rfl, hx3, kS _ _ _, 1, rfl, x, -1, rws M, rfl, hq16, by omega, fun u nu H17 _ hqu mu0 lenu S17 => ?_⟩
      have mu : ∀ t, mem nu t ↔ (mem (rws M) (t + 1) ∧ 0 ≤ t ∧ t ≤ lastP) := fun t => by
        have e : mem nu t ↔ (mem (rws M) (t - -1) ∧ 0 ≤ t ∧ t ≤ lastP) := mu0 t
        rw [show t - -1 = t + 1 by omega] at e
        exact e
      have hq17 := hq16.same S17
      have hqm217 := hqm2.same S17
      obtain ⟨_, dx4, t4, f4, b4, M4, hx4, _⟩ := id hq17.is
      obtain ⟨_, du, tu, fu, bu, Mu, hxu, _⟩ := id hqu.is
      refine ⟨x, u, _, _, _, _, rfl, rfl, hx4, hxu, x, u, rws M, nu, rfl, hq17, hqu, by show (rws M).length + nu.length ≤ 1000; omega, fun y3 n3 H18 _ hqy memy leny S18 => ?_⟩
      have hqm218 := hqm217.same S18
      obtain ⟨_, dm2, tm2, fm2, bm2, Mm2, hxm2, _⟩ := id hqm218.is
      obtain ⟨_, dy, ty, fy, bby, My, hxy, _⟩ := id hqy.is
      have em : nm2 = n3 := Nf.unique hqm2.is.nf hqy.is.nf fun z => by
        rw [ma2 z, show mem n3 z ↔ (mem (rws M) z ∧ mem nu z) from memy z, mu z]
        exact ⟨fun h => ⟨h.1, h.2, mem_bd okM h.1⟩, fun h => ⟨h.1, h.2.1⟩⟩
      refine ⟨m2, dm2, _, rfl, hxm2, ⟨.ref C, tyP T hxy, nf_self⟩, m2, nm2, .ref y3, rfl, hqm218.is, .inl ⟨y3, n3, rfl, hqy.is, _, rfl, _, rfl, ?_⟩⟩
      rw [decide_eq_true em]
      refine iteF ?_
      -- as they were
      have Se := ((S15.trans S16).trans S17).trans S18
      have hq18 := hq14.same Se
      obtain ⟨_, dx5, t5, f5, b5, M5, hx5, ht5, hM5, eM5, _⟩ := id hq18.is
      refine ⟨_, rfl, x, C, dx5, _, _, rfl, hx5, T.cl, T.nS, pFl_s _ _ _, _, rfl, o, refs M, rfl, .inl ⟨.inl (.inl (Se _ _ ho14)), fun tv ntv => ?_⟩⟩
      have Sv := same_lay (o := .tup (refs M)) ntv
      refine ⟨.tuple ((rws M5).map rowD), .tuple ((rws M).map rowD), .tup (.inl (.inl (Sv _ _ ht5))) (dp_rows (hM5.same Sv)), .tup (.inl (.inl upd_same)) (dp_rows ((hM14.same Se).same Sv)), shp_tup _, shp_tup _, _, rfl, ?_⟩
      rw [eM5, eqT]
      refine iteF ?_
      exact ⟨_, _, _, _, _, _, _, _, _, rfl, (P14.same' (Se.trans Sv)).mono (by omega)⟩
    · rintro σ H2 ⟨s2, s3, s4, s5, s6, s7, s8, s9, s10, rfl, P1⟩
      exact q _
end
end OR

namespace OR
open PySem PySem.Spec PyProof.Rows L2
/-! ### what the top has left -/
/-- an __init__ whose last parameter may be left out: then it is the empty tuple at t0 -/
structure MtD (K : PySem.W.Frag) (C : Addr) (m qual : Str) (st : Stmt) : Prop where
  ex : ∃ f fd t0, FunD K m qual (defArgs st) (defBody st) (defScope st) [.ref t0] [] f fd ∧ PySem.W.findIn K (.ref C) m = some (some (.ref f)) ∧ PySem.W.isFn K (.ref f) = true ∧ ∀ H : Hp, SqT K H t0 []
theorem mtD {K : PySem.W.Frag} {h : Heap} {C : Addr} {m qual : Str} {st : Stmt} {f T t0 : Addr} {oc cT : Value} {od an dT d0 : Option Addr} {osl sT s0 : Array (Option Value)} {kV doc pm cdv ct : Value} {nT n0 : Nat} (_X : K.In h)
    (a : PySem.W.findIn K (.ref C) m = some (some (.ref f))) (l : K.lookup f = some ⟨oc, od, .func (PySem.W.fnOf m qual (defArgs st) (defBody st) (defScope st) (.ref T) kV doc pm an cdv ct), osl⟩)
    (lT : K.lookup T = some ⟨cT, dT, .seq #[.ref t0] nT, sT⟩) (l0 : K.lookup t0 = some ⟨.type "tuple", d0, .seq #[] n0, s0⟩)
    (c : PySem.W.codeIn K cdv qual = true) (k : PySem.W.keepIn K (.ref f) = true) (i : PySem.W.isFn K (.ref f) = true) : MtD K C m qual st :=
  ⟨f, _, t0, ⟨⟨oc, od, .ref T, kV, doc, pm, an, cdv, ct, osl, rfl, l, c, .inr ⟨by simp, T, _, [.ref t0], nT, rfl, lT, rfl, .cons rfl .nil⟩, .inl rfl⟩, k⟩, a, i, fun H => .inr ⟨_, #[], n0, l0, rfl, rfl, Nat.zero_le _, .nil⟩⟩
structure PAt (K : PySem.W.Frag) (C : Addr) : Prop where
  aC : PySem.W.nsIn K mainGlobals "Places" = some (some (.ref C))
  pg : PySem.W.plainGet K C Str.empty = true
  hd : PySem.W.hasDictIn K C = true
  po : PySem.W.plainOver K C = true
  sa : PySem.W.findIn K (.ref C) "__setattr__" = some (some (.builtin "object.__setattr__"))
  mks : PySem.W.makesIn K C = true
  kc : PySem.W.keepIn K (.ref C) = true
  nS : PySem.W.findIn K (.ref C) "stretches" = some none
  nF : PySem.W.findIn K (.ref C) "_firsts" = some none
  nB : PySem.W.findIn K (.ref C) "_before" = some none
  ca : PySem.W.findIn K (.ref C) "__class__" = some (some (.builtin "object.__class__"))
  cn : PySem.W.specialIn K (.builtin "object.__class__") "__get__" = some (some (.builtin "getset_descriptor.__get__"))
  ct : PySem.W.takesIn K (.builtin "object.__class__") = some true
  cm : PySem.W.mroIn K C (.type "object") = some true
  ne : PySem.W.findIn K (.ref C) "__ne__" = some (some (.builtin "object.__ne__"))
  sT : PySem.W.subIn K (.type "tuple") (.ref C) = some false
  sL : PySem.W.subIn K (.type "list") (.ref C) = some false
  kPP : PySem.W.kitOne K (.ref C) (.ref C) = some true
  kT : PySem.W.kitOne K (.type "tuple") (.ref C) = some false
  kL : PySem.W.kitOne K (.type "list") (.ref C) = some false
  sf : PySem.W.selfFirst K C = true
structure ZAt (K : PySem.W.Frag) : Prop where
  isi : PySem.W.nsIn K mainGlobals "isinstance" = some none
  int : PySem.W.nsIn K mainGlobals "int" = some none
  bool : PySem.W.nsIn K mainGlobals "bool" = some none
  tup : PySem.W.nsIn K mainGlobals "tuple" = some none
  list : PySem.W.nsIn K mainGlobals "list" = some none
  len : PySem.W.nsIn K mainGlobals "len" = some none
  max : PySem.W.nsIn K mainGlobals "max" = some none
  min : PySem.W.nsIn K mainGlobals "min" = some none
  sorted : PySem.W.nsIn K mainGlobals "sorted" = some none
  enum : PySem.W.nsIn K mainGlobals "enumerate" = some none
  range : PySem.W.nsIn K mainGlobals "range" = some none
  set : PySem.W.nsIn K mainGlobals "set" = some none
  abs : PySem.W.nsIn K mainGlobals "abs" = some none
theorem lastP_lit : lastP = 1000000000000000000000000000000 := by decide
theorem lp_of {p : Program} {lv : List (Str × PySem.W.WData)} {mg : Str → Option Value} {h : Heap} (X : PySem.W.XL p lv mg h) (hm : (("LAST_PLACE" : Str), PySem.W.WData.int 1000000000000000000000000000000) ∈ lv) : ∃ t, mg "LAST_PLACE" = some (.int lastP t) := by
  obtain ⟨v, hv, hr⟩ := X.2.val _ hm
  cases hr with
  | int i t => exact ⟨t, by rw [lastP_lit]; exact hv⟩
/-- walk_of, told besides what the top's loose names read -/
theorem walk_ofX {l : PySem.W.OpenLaw} {n k : Nat} {q : Program} {loose : List Str} {XP : (Str → Option Value) → Heap → Prop} {YP : World → Heap → Prop} {d : DefRec} {K : Params → PySem.W.Frag} {CX : World → CXT} {sp : World → Sp} {x : Str}
    (hn : l.most = some n) (hn2 : n ≤ sizeLine) (hdf : d.params.defaults = []) (hr : Room k callerA) (hY : ∀ (w : World) (h : Heap), YP w h → (K w.params).In h)
    (F : ∀ (w : World) (mg : Str → Option Value) (fa : Addr) (h : Heap), (K w.params).In h → h.Ns mainGlobals mg → XP mg h → mg d.name = some (.ref fa) →
      ∃ fd : FuncData, (∀ (s : Shared) (u : Value), BindsTo s fd ⟨[u], []⟩ [(x, u)]) ∧ ∀ base : Heap, (K w.params).In base → base.Ns mainGlobals mg → FnOk l.prog w (K w.params) mg base (CX w) k fa fd [x] (sp w))
    (hsp : ∀ (w : World) (H : Hp) (a : Addr) (ns : List Int), ns.length ≤ n → Only H → SqL (K w.params) H a (ns.map V.int) → sp w [.ref a] H (fun v _ => v = .bl true) fun _ _ _ => False)
    (hCX : ∀ (w : World) (H : Hp) (s : Shared) (e : Value) (s' : Shared), CX w [] H s (fun _ _ _ => False) e s' → False) : PySem.W.WalkO q loose XP YP l.row.toRowW d [] (fun f vs => PySem.call f vs) := by
  refine Att.attach_call hn hdf fun w s₀ s₁ mg mb fa o pm cd doc a vs ns G Y ho hd hcd hmg hobj hints hlen hg => ?_
  have KX := hY w _ Y
  obtain ⟨fd, hb, hF⟩ := F w mg fa _ KX G.T.g G.X hmg
  exact law_call KX G.T.g G.T.b G.T.builtins G.T.nolimit hg hobj hints (Nat.le_trans hlen hn2) hr hF hb (fun H hO hS => hsp w H a ns hlen hO hS) fun H e s' => hCX w H s₁ e s'
theorem PAt.txt {K : PySem.W.Frag} {C : Addr} {h : Heap} {mg : Str → Option Value} (L : PAt K C) (X : K.In h) (G : h.Ns mainGlobals mg) (Z : ZAt K) (lp : ∃ t, mg "LAST_PLACE" = some (.int lastP t)) : PTxt K mg C :=
  ⟨⟨L.pg, L.hd, L.po, L.sa⟩, L.nS, L.nF, L.nB, PySem.W.mg_of X G L.aC, ⟨L.ca, L.cn, L.ct, L.cm⟩, L.kPP, PySem.W.mg_none_of X G Z.isi, PySem.W.mg_none_of X G Z.int, PySem.W.mg_none_of X G Z.bool, PySem.W.mg_none_of X G Z.tup, PySem.W.mg_none_of X G Z.list,
    PySem.W.mg_none_of X G Z.len, PySem.W.mg_none_of X G Z.max, PySem.W.mg_none_of X G Z.sorted, PySem.W.mg_none_of X G Z.enum, lp⟩
theorem pmk_of {P : Program} {w : World} {K : PySem.W.Frag} {mg : Str → Option Value} {base : Heap} {C : Addr} (T : PTxt K mg C) (L : PAt K C) (mI : MtD K C "__init__" "Places.__init__" sPlInit)
    (S : Cl P w K mg base 3 "_is_stretch" ["value"] spIsStretchP) (J : Cl P w K mg base 1 "_joined" ["stretches"] (spJoined K)) (B : Cl P w K mg base 1 "_counts_before" ["stretches"] (spCounts K)) : PMk' P w K mg base C := by
  obtain ⟨f, fd, t0, F, a, i, ht⟩ := mI.ex
  obtain ⟨ds, r1, b1⟩ := F.binds1 (ps := ["self", "stretches"]) 2 1 (by simp) rfl fun T kV doc pm an cdv ct us its hu hi => match us, its, hu, hi with | [u, v], [x], _, _ => ⟨_, rfl, rfl⟩
  obtain ⟨es, r2, b2⟩ := F.binds1 (ps := ["self", "stretches"]) 1 0 (by simp) rfl fun T kV doc pm an cdv ct us its hu hi => match us, its, hu, hi with | [u], [x], _, _ => ⟨_, rfl, rfl⟩
  cases r1
  obtain ⟨u, rfl, ru⟩ := r2.one
  cases (show u = Value.ref t0 from ru)
  exact ⟨T, f, fd, t0, ⟨L.mks, a, i, L.kc⟩, ok_plinit F T S J B, b1, b2, ht⟩
end OR

namespace OR
open PySem PySem.Spec PyProof.Rows L2
theorem all_mk {l : PySem.W.OpenLaw} {w : World} {K : PySem.W.Frag} {h : Heap} {mg : Str → Option Value} {fa C : Addr} (X : K.In h) (G : h.Ns mainGlobals mg) (hfa : mg "law" = some (.ref fa)) (L : PAt K C) (Z : ZAt K) (lp : ∃ t, mg "LAST_PLACE" = some (.int lastP t))
    (mI : MtD K C "__init__" "Places.__init__" sPlInit) (fDI : FnAt K "is_integer" sIsInt) (fDP : FnAt K "is_place" sIsPlace) (fDS : FnAt K "_is_stretch" sIsStretch) (fDJ : FnAt K "_joined" sJoined) (fDC : FnAt K "_counts_before" sCounts) (mEQ : MtAt K C "__eq__" "__eq__" "Places.__eq__" sPlEq) (mBO : MtAt K C "__bool__" "__bool__" "Places.__bool__" sPlBool) (fDOv : FnAt K "overlaps" sOver) (fDCo : FnAt K "_common" sCommon) (fDGa : FnAt K "_gaps" sGaps) (fDCT : FnAt K "_cut_to_places" sCutTo) (mAN : MtAt K C "__and__" (PySem.dunder (Operator.info .BitAnd).2) "Places.__and__" sPlAnd) (mSB : MtAt K C "__sub__" (PySem.dunder (Operator.info .Sub).2) "Places.__sub__" sPlSub) (mSF : MtAt K C "shifted" "shifted" "Places.shifted" sPlShift) (mMI : MtAt K C "mirrored" "mirrored" "Places.mirrored" sPlMirror) (mIN : MtAt K C "inner" "inner" "Places.inner" sPlInner) (mWI : MtAt K C "within" "within" "Places.within" sPlWithin) (mSZ : MtAt K C "size" "size" "Places.size" sPlSize) (fDPen : FnAt K "_law_pen" sPen) (fDDraw : FnAt K "_law_draw" sDraw) (fDPick : FnAt K "_law_pick" sPick) (fDSpot : FnAt K "_law_spot" sSpot) (fDDrawn : FnAt K "_law_drawn" sDrawn) (fDMerg : FnAt K "_law_merged" sMerged) (fDWhole : FnAt K "_law_whole" sWhole) (fDLS : FnAt K "_law_shifted" sLShift) (fDLM : FnAt K "_law_mirrored" sLMirror) (fDBY : FnAt K "_law_by" sLBy) (fLaw : FnAt K "law" sLaw) :
    ∃ fd : FuncData, (∀ (s : Shared) (v : Value), BindsTo s fd ⟨[v], []⟩ [("_law_script", v)]) ∧ ∀ base : Heap, K.In base → base.Ns mainGlobals mg → FnOk l.prog w K mg base CX0 8 fa fd ["_law_script"] (spLaw K) := by
  obtain ⟨f, fd, F, e⟩ := fLaw.ex
  have e := hfa.symm.trans (PySem.W.mg_of X G e)
  cases e
  refine ⟨fd, fun s v => ?_, fun base _ _ => ?_⟩
  · obtain ⟨oc, od, kV, doc, pm, an, cdv, ct, osl, rfl, _⟩ := F.ex
    exact .of_eq rfl
  have T : PTxt K mg C := L.txt X G Z lp
  have none : ∀ {x : Str}, PySem.W.nsIn K mainGlobals x = some none → mg x = none := fun z => PySem.W.mg_none_of X G z
  have B1 : Bl mg := ⟨none Z.int, none Z.len, none Z.abs, none Z.list⟩
  have B : Bd mg := ⟨none Z.range, none Z.min, none Z.max, none Z.int, none Z.len, none Z.list, none Z.set, none Z.sorted⟩
  have DI : Cl l.prog w K mg base 1 "is_integer" ["value"] (spIsIntG K) := cl_of fDI X G (fun _ _ _ _ _ _ us hl => match us, hl with | [_], _ => rfl) fun f fd F => ok_isintG F T
  have DP : Cl l.prog w K mg base 2 "is_place" ["value"] (spIsPlace K) := cl_of fDP X G (fun _ _ _ _ _ _ us hl => match us, hl with | [_], _ => rfl) fun f fd F => ok_isplace F T DI
  have DS : Cl l.prog w K mg base 3 "_is_stretch" ["value"] spIsStretchP := cl_of fDS X G (fun _ _ _ _ _ _ us hl => match us, hl with | [_], _ => rfl) fun f fd F => ok_isstretch F T DP
  have DJ : Cl l.prog w K mg base 1 "_joined" ["stretches"] (spJoined K) := cl_of fDJ X G (fun _ _ _ _ _ _ us hl => match us, hl with | [_], _ => rfl) fun f fd F => ok_joined F T
  have DC : Cl l.prog w K mg base 1 "_counts_before" ["stretches"] (spCounts K) := cl_of fDC X G (fun _ _ _ _ _ _ us hl => match us, hl with | [_], _ => rfl) fun f fd F => ok_counts F T
  have M : PMk' l.prog w K mg base C := pmk_of T L mI DS DJ DC
  have EQ : Md l.prog w K mg base 1 C "__eq__" (spPlEq K C) := md_of mEQ (ps := ["self", "other"]) (fun _ _ _ _ _ _ us hl => match us, hl with | [_, _], _ => rfl) fun f fd F => ok_pleq F T
  have BO : Md l.prog w K mg base 1 C "__bool__" (spPlBool C) := md_of mBO (ps := ["self"]) (fun _ _ _ _ _ _ us hl => match us, hl with | [_], _ => rfl) fun f fd F => ok_plbool F T
  have DOv : Cl l.prog w K mg base 1 "overlaps" ["ones", "others"] (spOver K) := cl_of fDOv X G (fun _ _ _ _ _ _ us hl => match us, hl with | [_, _], _ => rfl) fun f fd F => ok_over F T (none Z.min)
  have DCo : Cl l.prog w K mg base 2 "_common" ["ones", "others"] (spCommon K) := cl_of fDCo X G (fun _ _ _ _ _ _ us hl => match us, hl with | [_, _], _ => rfl) fun f fd F => ok_common F (C := C) DOv
  have DGa : Cl l.prog w K mg base 1 "_gaps" ["stretches"] (spGaps K) := cl_of fDGa X G (fun _ _ _ _ _ _ us hl => match us, hl with | [_], _ => rfl) fun f fd F => ok_gaps F T
  have DCT : Cl l.prog w K mg base 1 "_cut_to_places" ["pairs"] (spCutTo K) := cl_of fDCT X G (fun _ _ _ _ _ _ us hl => match us, hl with | [_], _ => rfl) fun f fd F => ok_cutto F T (none Z.min)
  have AN : Md l.prog w K mg base 6 C (PySem.dunder (Operator.info .BitAnd).2) (spBin C fAnd bOr) := md_of mAN (ps := ["self", "other"]) (fun _ _ _ _ _ _ us hl => match us, hl with | [_, _], _ => rfl) fun f fd F => ok_and F M DCo
  have SB : Md l.prog w K mg base 6 C (PySem.dunder (Operator.info .Sub).2) (spBin C fSub bSub) := md_of mSB (ps := ["self", "other"]) (fun _ _ _ _ _ _ us hl => match us, hl with | [_, _], _ => rfl) fun f fd F => ok_sub F M DCo DGa
  have SF : Mt l.prog w K mg base 6 C "shifted" ["self", "by"] (spMove C fun t d => t - d) := mt_of mSF (fun _ _ _ _ _ _ us hl => match us, hl with | [_, _], _ => rfl) fun f fd F => ok_shift F M DCT
  have MI : Mt l.prog w K mg base 6 C "mirrored" ["self", "last"] (spMove C fun t d => d - t) := mt_of mMI (fun _ _ _ _ _ _ us hl => match us, hl with | [_, _], _ => rfl) fun f fd F => ok_mirror F M DCT
  have IN : Mt l.prog w K mg base 6 C "inner" ["self"] (spInner C) := mt_of mIN (fun _ _ _ _ _ _ us hl => match us, hl with | [_], _ => rfl) fun f fd F => ok_inner F M
  have WI : Mt l.prog w K mg base 7 C "within" ["self", "other"] (spWithin C) := mt_of mWI (fun _ _ _ _ _ _ us hl => match us, hl with | [_, _], _ => rfl) fun f fd F => ok_within F T L.sf SB BO
  have SZ : Mt l.prog w K mg base 1 C "size" ["self"] (spSize C) := mt_of mSZ (fun _ _ _ _ _ _ us hl => match us, hl with | [_], _ => rfl) fun f fd F => ok_size F T
  have DPen : Cl l.prog w K mg base 1 "_law_pen" ["_law_script"] (spPen K) := cl_of fDPen X G (fun _ _ _ _ _ _ us hl => match us, hl with | [_], _ => rfl) fun f fd F => ok_pen F B1
  have DDraw : Cl l.prog w K mg base 1 "_law_draw" ["_law_pen_here", "_law_many"] spDraw := cl_of fDDraw X G (fun _ _ _ _ _ _ us hl => match us, hl with | [_, _], _ => rfl) fun f fd F => ok_draw F B1
  have DPick : Cl l.prog w K mg base 2 "_law_pick" ["_law_pen_here", "_law_items"] (spPick K) := cl_of fDPick X G (fun _ _ _ _ _ _ us hl => match us, hl with | [_, _], _ => rfl) fun f fd F => ok_pick F B1 DDraw
  have DSpot : Cl l.prog w K mg base 2 "_law_spot" ["_law_pen_here"] spSpot := cl_of fDSpot X G (fun _ _ _ _ _ _ us hl => match us, hl with | [_], _ => rfl) fun f fd F => ok_spot F DDraw
  have DDrawn : Cl l.prog w K mg base 3 "_law_drawn" ["_law_pen_here", "_law_most"] spDrawn := cl_of fDDrawn X G (fun _ _ _ _ _ _ us hl => match us, hl with | [_, _], _ => rfl) fun f fd F => ok_drawn F B DDraw DPick DSpot
  have DMerg : Cl l.prog w K mg base 1 "_law_merged" ["_law_rows"] (spMerged K) := cl_of fDMerg X G (fun _ _ _ _ _ _ us hl => match us, hl with | [_], _ => rfl) fun f fd F => ok_merged F B
  have DWhole : Cl l.prog w K mg base 3 "_law_whole" ["_law_pen_here"] spWhole := cl_of fDWhole X G (fun _ _ _ _ _ _ us hl => match us, hl with | [_], _ => rfl) fun f fd F => ok_whole F DDraw DPick
  have DLS : Cl l.prog w K mg base 2 "_law_shifted" ["_law_rows", "_law_by_here"] (spLMove K (fun _ => True) fun z d => z - d) := cl_of fDLS X G (fun _ _ _ _ _ _ us hl => match us, hl with | [_, _], _ => rfl) fun f fd F => ok_lshift F B T DMerg
  have DLM : Cl l.prog w K mg base 2 "_law_mirrored" ["_law_rows", "_law_last"] (spLMove K (fun d => d ≤ lastP) fun z d => d - z) := cl_of fDLM X G (fun _ _ _ _ _ _ us hl => match us, hl with | [_, _], _ => rfl) fun f fd F => ok_lmirror F B T DMerg
  have DBY : Cl l.prog w K mg base 4 "_law_by" ["_law_pen_here", "_law_rows"] (spBy K) := cl_of fDBY X G (fun _ _ _ _ _ _ us hl => match us, hl with | [_, _], _ => rfl) fun f fd F => ok_by F DDraw DPick DWhole
  exact ok_law F B M L.ne L.sf EQ AN SF MI IN WI SZ DPen DDraw DSpot DDrawn DMerg DLS DLM DBY
end OR
open PySem PySem.W PyProof.Rows
set_option maxRecDepth 100000 in
set_option maxHeartbeats 0 in
theorem PySem.Challenge.cw_openranges_k05_places_moved_holds : PySem.Challenge.rw_openranges_k05_places_moved.Holds := by
  w_on; o_law; k_head; (case hw => w_witness2)
  k_fill
  refine OR.walk_ofX (l := PySem.Challenge.rw_openranges_k05_places_moved) (n := 63) (k := 8) (x := "_law_script") (CX := fun _ => L2.CX0) (sp := fun w => OR.spLaw _) rfl (by decide) rfl ⟨rfl, by decide, by decide⟩ (fun w h Y => PySem.W.kIn_of Y) ?F (fun _ _ a ns hl _ hS => ⟨a, ns, rfl, hS, hl, fun _ => rfl⟩) (fun _ _ _ _ _ h => h)
  case F =>
    intro w mg fa h KX G XL hmg
    refine' OR.all_mk KX G hmg ?L ?Z (OR.lp_of XL (List.Mem.head _)) ?mI ?fDI ?fDP ?fDS ?fDJ ?fDC ?mEQ ?mBO ?fDOv ?fDCo ?fDGa ?fDCT ?mAN ?mSB ?mSF ?mMI ?mIN ?mWI ?mSZ ?fDPen ?fDDraw ?fDPick ?fDSpot ?fDDrawn ?fDMerg ?fDWhole ?fDLS ?fDLM ?fDBY ?fLaw
    all_goals try clear hmg XL
    case L =>
      refine' OR.PAt.mk ?aC ?pg ?hd ?po ?sa ?mks ?kc ?nS ?nF ?nB ?ca ?cn ?ct ?cm ?ne ?sT ?sL ?kPP ?kT ?kL ?sf
      (case aC => k_is); (case pg => k_is); (case hd => k_is); (case po => k_is); (case sa => k_is); (case mks => k_is); (case kc => k_is); (case nS => k_is); (case nF => k_is); (case nB => k_is); (case ca => k_is); (case cn => k_is); (case ct => k_is); (case cm => k_is); (case ne => k_is); (case sT => k_is); (case sL => k_is); (case kPP => kit_is); (case kT => kit_is); (case kL => kit_is); (case sf => k_is)
    case Z =>
      refine' OR.ZAt.mk ?isi ?int ?bool ?tup ?list ?len ?max ?min ?sorted ?enum ?range ?set ?abs
      (case isi => k_is); (case int => k_is); (case bool => k_is); (case tup => k_is); (case list => k_is); (case len => k_is); (case max => k_is); (case min => k_is); (case sorted => k_is); (case enum => k_is); (case range => k_is); (case set => k_is); (case abs => k_is)
    case mI => refine' OR.mtD KX ?a ?l ?lT ?l0 ?c ?k ?i; (case a => k_is); (case l => k_is); (case lT => k_is); (case l0 => k_is); (case c => k_is); (case k => k_is); (case i => k_is)
    case fDI => refine' OR.fnAt KX ?a ?l ?c ?k; (case a => k_is); (case l => k_is); (case c => k_is); (case k => k_is)
    case fDP => refine' OR.fnAt KX ?a ?l ?c ?k; (case a => k_is); (case l => k_is); (case c => k_is); (case k => k_is)
    case fDS => refine' OR.fnAt KX ?a ?l ?c ?k; (case a => k_is); (case l => k_is); (case c => k_is); (case k => k_is)
    case fDJ => refine' OR.fnAt KX ?a ?l ?c ?k; (case a => k_is); (case l => k_is); (case c => k_is); (case k => k_is)
    case fDC => refine' OR.fnAt KX ?a ?l ?c ?k; (case a => k_is); (case l => k_is); (case c => k_is); (case k => k_is)
    case mEQ => refine' OR.mtAt KX ?a ?l ?c ?k ?i ?n; (case a => k_is); (case l => k_is); (case c => k_is); (case k => k_is); (case i => k_is); (case n => k_is)
    case mBO => refine' OR.mtAt KX ?a ?l ?c ?k ?i ?n; (case a => k_is); (case l => k_is); (case c => k_is); (case k => k_is); (case i => k_is); (case n => k_is)
    case fDOv => refine' OR.fnAt KX ?a ?l ?c ?k; (case a => k_is); (case l => k_is); (case c => k_is); (case k => k_is)
    case fDCo => refine' OR.fnAt KX ?a ?l ?c ?k; (case a => k_is); (case l => k_is); (case c => k_is); (case k => k_is)
    case fDGa => refine' OR.fnAt KX ?a ?l ?c ?k; (case a => k_is); (case l => k_is); (case c => k_is); (case k => k_is)
    case fDCT => refine' OR.fnAt KX ?a ?l ?c ?k; (case a => k_is); (case l => k_is); (case c => k_is); (case k => k_is)
    case mAN => refine' OR.mtAt KX ?a ?l ?c ?k ?i ?n; (case a => k_is); (case l => k_is); (case c => k_is); (case k => k_is); (case i => k_is); (case n => k_is)
    case mSB => refine' OR.mtAt KX ?a ?l ?c ?k ?i ?n; (case a => k_is); (case l => k_is); (case c => k_is); (case k => k_is); (case i => k_is); (case n => k_is)
    case mSF => refine' OR.mtAt KX ?a ?l ?c ?k ?i ?n; (case a => k_is); (case l => k_is); (case c => k_is); (case k => k_is); (case i => k_is); (case n => k_is)
    case mMI => refine' OR.mtAt KX ?a ?l ?c ?k ?i ?n; (case a => k_is); (case l => k_is); (case c => k_is); (case k => k_is); (case i => k_is); (case n => k_is)
    case mIN => refine' OR.mtAt KX ?a ?l ?c ?k ?i ?n; (case a => k_is); (case l => k_is); (case c => k_is); (case k => k_is); (case i => k_is); (case n => k_is)
    case mWI => refine' OR.mtAt KX ?a ?l ?c ?k ?i ?n; (case a => k_is); (case l => k_is); (case c => k_is); (case k => k_is); (case i => k_is); (case n => k_is)
    case mSZ => refine' OR.mtAt KX ?a ?l ?c ?k ?i ?n; (case a => k_is); (case l => k_is); (case c => k_is); (case k => k_is); (case i => k_is); (case n => k_is)
    case fDPen => refine' OR.fnAt KX ?a ?l ?c ?k; (case a => k_is); (case l => k_is); (case c => k_is); (case k => k_is)
    case fDDraw => refine' OR.fnAt KX ?a ?l ?c ?k; (case a => k_is); (case l => k_is); (case c => k_is); (case k => k_is)
    case fDPick => refine' OR.fnAt KX ?a ?l ?c ?k; (case a => k_is); (case l => k_is); (case c => k_is); (case k => k_is)
    case fDSpot => refine' OR.fnAt KX ?a ?l ?c ?k; (case a => k_is); (case l => k_is); (case c => k_is); (case k => k_is)
    case fDDrawn => refine' OR.fnAt KX ?a ?l ?c ?k; (case a => k_is); (case l => k_is); (case c => k_is); (case k => k_is)
    case fDMerg => refine' OR.fnAt KX ?a ?l ?c ?k; (case a => k_is); (case l => k_is); (case c => k_is); (case k => k_is)
    case fDWhole => refine' OR.fnAt KX ?a ?l ?c ?k; (case a => k_is); (case l => k_is); (case c => k_is); (case k => k_is)
    case fDLS => refine' OR.fnAt KX ?a ?l ?c ?k; (case a => k_is); (case l => k_is); (case c => k_is); (case k => k_is)
    case fDLM => refine' OR.fnAt KX ?a ?l ?c ?k; (case a => k_is); (case l => k_is); (case c => k_is); (case k => k_is)
    case fDBY => refine' OR.fnAt KX ?a ?l ?c ?k; (case a => k_is); (case l => k_is); (case c => k_is); (case k => k_is)
    case fLaw => refine' OR.fnAt KX ?a ?l ?c ?k; (case a => k_is); (case l => k_is); (case c => k_is); (case k => k_is)

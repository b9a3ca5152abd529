import PyProof.Rows.All
import Wide.All
import OpenK.AllK
import Wide.FinOn
import HandS.ForMost
import HandS.Wide
import HandS.IsInst
import HandS.TupAny
import HandS.TupLe
import HandS.Star
import HandS.Evl
import HandS.SortRule
import HandS.NoneIn
import HandS.Defaults
import HandS.TupSets
import HandS.Keys
import HandS.Small
import KE.KOpsOwn
import HandS.SlotsOwn
import KE.RegKIsAll
import PyProof.Draws
import HandS.ForExc
import HandS.ExcInit
import HandS.ExcField
import HandS.ExcIs
import HandS.ExcOwn
import KE.KExcIs
import PySem.Challenge.RW_openranges_k02_stretches_refused
set_option Elab.async false
set_option linter.all false
set_option maxRecDepth 100000
namespace OR
open PySem PySem.Spec PyProof.Rows L2
def top (i : Nat) : Stmt := PySem.Challenge.pw_openranges_k02_stretches_refused.main.body.getD i (.Pass ⟨0, 0, 0, 0⟩)
abbrev sBsInit : Stmt := inClass (top 3) 0
abbrev sIsInt : Stmt := top 10
abbrev sIsPlace : Stmt := top 11
abbrev sPlInit : Stmt := inClass (top 17) 0
abbrev sPlEq : Stmt := inClass (top 17) 1
abbrev sPlBool : Stmt := inClass (top 17) 2
abbrev sIsStretch : Stmt := top 19
abbrev sJoined : Stmt := top 20
abbrev sCounts : Stmt := top 21
abbrev sPen : Stmt := top 28
abbrev sDraw : Stmt := top 29
abbrev sPick : Stmt := top 30
abbrev sShuffled : Stmt := top 31
abbrev sSpot : Stmt := top 32
abbrev sDrawn : Stmt := top 33
abbrev sCut : Stmt := top 34
abbrev sWrong : Stmt := top 35
abbrev sRefused : Stmt := top 36
abbrev sLaw : Stmt := top 37
end OR

namespace OR
open PySem PySem.Spec PyProof.Rows L2
/-! ### the pen: a dict of the cells, how many have begun, what is left of the last one -/
theorem kBC : ¬ ((Sum.inr ("begun" : Str) : Key) = Sum.inr ("cells" : Str)) := by decide +kernel
theorem kLC : ¬ ((Sum.inr ("left" : Str) : Key) = Sum.inr ("cells" : Str)) := by decide +kernel
theorem kLB : ¬ ((Sum.inr ("left" : Str) : Key) = Sum.inr ("begun" : Str)) := by decide +kernel
def penK (c : Addr) (k l : Int) : List (Key × V) := [(.inr ("cells" : Str), .ref c), (.inr ("begun" : Str), .int k), (.inr ("left" : Str), .int l)]
theorem pen_cells (c : Addr) (k l : Int) : valV (penK c k l) (.inr ("cells" : Str)) = some (.ref c) := valV_pos rfl
theorem pen_begun (c : Addr) (k l : Int) : valV (penK c k l) (.inr ("begun" : Str)) = some (.int k) :=
  (valV_neg (fun e => kBC e.symm)).trans (valV_pos rfl)
theorem pen_left (c : Addr) (k l : Int) : valV (penK c k l) (.inr ("left" : Str)) = some (.int l) :=
  (valV_neg (fun e => kLC e.symm)).trans ((valV_neg (fun e => kLB e.symm)).trans (valV_pos rfl))
theorem pen_put_left (c : Addr) (k l y : Int) : putK (penK c k l) (.inr ("left" : Str)) (.int y) = penK c k y := by
  have h1 : ¬ ((Sum.inr ("cells" : Str) : Key) = Sum.inr ("left" : Str)) := fun e => kLC e.symm
  have h2 : ¬ ((Sum.inr ("begun" : Str) : Key) = Sum.inr ("left" : Str)) := fun e => kLB e.symm
  unfold putK penK
  simp only [List.any_cons, List.any_nil, List.map_cons, List.map_nil, h1, h2, decide_true, decide_false, Bool.or_false, Bool.false_or, if_true, if_false]
theorem pen_put_begun (c : Addr) (k l y : Int) : putK (penK c k l) (.inr ("begun" : Str)) (.int y) = penK c y l := by
  have h1 : ¬ ((Sum.inr ("cells" : Str) : Key) = Sum.inr ("begun" : Str)) := fun e => kBC e.symm
  have h2 : ¬ ((Sum.inr ("left" : Str) : Key) = Sum.inr ("begun" : Str)) := kLB
  unfold putK penK
  simp only [List.any_cons, List.any_nil, List.map_cons, List.map_nil, h1, h2, decide_true, decide_false, Bool.or_false, Bool.false_or, Bool.or_true, if_true, if_false]
/-- a pen at p after at most n draws -/
def Pen (H : Hp) (p : Addr) (n : Nat) : Prop := ∃ (c : Addr) (ns : List Int) (k l : Int), H p = some (.dK (penK c k l)) ∧ H c = some (.lst (ns.map V.int)) ∧ ns.length ≤ 63 ∧ 0 ≤ k ∧ k ≤ n ∧ 0 ≤ l
/-- where the pen at p keeps its cells -/
def cellsAt (H : Hp) (p c : Addr) : Prop := ∃ k l, H p = some (.dK (penK c k l))
theorem penK_inj {c c' : Addr} {k l k' l' : Int} (h : penK c k l = penK c' k' l') : c = c' := by
  unfold penK at h
  injection h with h1 _
  injection h1 with _ h2
  injection h2
theorem cellsAt.inj {H : Hp} {p c : Addr} {k l : Int} {c' : Addr} (h : cellsAt H p c) (e : H p = some (.dK (penK c' k l))) : c = c' := by
  obtain ⟨k', l', e'⟩ := h
  rw [e] at e'
  injection e' with e'
  injection e' with e'
  exact (penK_inj e').symm
/-- all but what stands at p is as it was, and the pen there has the same cells -/
structure Frm (p : Addr) (H H' : Hp) : Prop where
  at_ : ∀ b o, H b = some o → b ≠ p → H' b = some o
  ce : ∀ c, cellsAt H p c → cellsAt H' p c
instance {p : Addr} {H H' : Hp} : CoeFun (Frm p H H') (fun _ => ∀ b o, H b = some o → b ≠ p → H' b = some o) := ⟨Frm.at_⟩
theorem Frm.refl (p : Addr) (H : Hp) : Frm p H H := ⟨fun _ _ h _ => h, fun _ h => h⟩
theorem Frm.trans {p : Addr} {H H1 H2 : Hp} (a : Frm p H H1) (b : Frm p H1 H2) : Frm p H H2 := ⟨fun c o h n => b c o (a c o h n) n, fun c h => b.ce c (a.ce c h)⟩
theorem Frm.pen {p c : Addr} {H : Hp} {k l k' l' : Int} (h : H p = some (.dK (penK c k l))) : Frm p H (upd H p (.dK (penK c k' l'))) :=
  ⟨fun b x e n => by rw [upd_ne n]; exact e, fun c' h' => by rw [h'.inj h]; exact ⟨k', l', upd_same⟩⟩
theorem Frm.new {p q : Addr} {H : Hp} {o : HO} (h : H q = none) : Frm p H (upd H q o) :=
  ⟨fun b x e _ => by rw [upd_ne (ne_of_none e h)]; exact e, fun c ⟨k, l, e⟩ => ⟨k, l, by rw [upd_ne (ne_of_none e h)]; exact e⟩⟩
/-- a list that is not the pen's cells is changed -/
theorem Pen.put {H : Hp} {p c a : Addr} {n : Nat} {xs : List V} {o : HO} (P : Pen H p n) (hc : cellsAt H p c) (h : H a = some (.lst xs)) (n1 : c ≠ a) : Pen (upd H a o) p n := by
  obtain ⟨c', ns, k, l, h1, h2, h3⟩ := P
  obtain rfl := hc.inj h1
  exact ⟨c, ns, k, l, by rw [upd_ne (ne_of h1 h (by intro z; cases z))]; exact h1, by rw [upd_ne n1]; exact h2, h3⟩
theorem Pen.cells {H : Hp} {p : Addr} {n : Nat} (P : Pen H p n) : ∃ c, cellsAt H p c ∧ H c ≠ none := by
  obtain ⟨c, ns, k, l, h1, h2, _⟩ := P
  exact ⟨c, ⟨k, l, h1⟩, by rw [h2]; exact fun z => nomatch z⟩
theorem Pen.dict {H : Hp} {p : Addr} {n : Nat} (P : Pen H p n) : ∃ kvs, H p = some (.dK kvs) := by
  obtain ⟨c, ns, k, l, h1, _⟩ := P
  exact ⟨_, h1⟩
/-- what stands at a list, a tuple or an object is not the pen -/
theorem Frm.lst {H H' : Hp} {p a : Addr} {n : Nat} {xs : List V} (f : Frm p H H') (P : Pen H p n) (h : H a = some (.lst xs)) : H' a = some (.lst xs) := by
  obtain ⟨kvs, hp⟩ := P.dict
  exact f _ _ h (ne_of h hp (by intro z; cases z))
theorem Pen.mono {H : Hp} {p : Addr} {n m : Nat} (P : Pen H p n) (h : n ≤ m) : Pen H p m := by
  obtain ⟨c, ns, k, l, h1, h2, h3, h4, h5, h6⟩ := P
  exact ⟨c, ns, k, l, h1, h2, h3, h4, by omega, h6⟩
theorem Pen.new {H : Hp} {p q : Addr} {n : Nat} {o : HO} (P : Pen H p n) (h : H q = none) : Pen (upd H q o) p n := by
  obtain ⟨c, ns, k, l, h1, h2, h3, h4, h5, h6⟩ := P
  exact ⟨c, ns, k, l, by rw [upd_ne (ne_of_none h1 h)]; exact h1, by rw [upd_ne (ne_of_none h2 h)]; exact h2, h3, h4, h5, h6⟩
/-! ### the promises -/
/-- a draw: some number below m -/
def spDraw : Sp := fun vs H Q _ => ∃ (p : Addr) (m : Int) (n : Nat), vs = [.ref p, .int m] ∧ 0 < m ∧ m.natAbs < 2 ^ 200 ∧ Pen H p n ∧ n ≤ 1000000 ∧
  ∀ (r : Int) (H' : Hp), 0 ≤ r → r < m → Pen H' p (n + 1) → Frm p H H' → Q (.int r) H'
/-- a def that lets nothing out, as it is called by its name -/
structure Cl (P : Program) (w : World) (K : PySem.W.Frag) (mg : Str → Option Value) (base : Heap) (k : Nat) (x : Str) (ps : List Str) (sp : Sp) : Prop where
  ex : ∃ (f : Addr) (fd : FuncData), FnOk P w K mg base CX0 k f fd ps sp ∧ mg x = some (.ref f) ∧ PySem.W.keepIn K (.ref f) = true ∧ Binds K fd ps []
theorem pe_cl {X : Cx} {k j : Nat} {x : Str} {ps : List Str} {sp : Sp} {e : Expr} {es : List Expr} {t : TA} {p pos : Pos} (c : Cl X.prog X.w X.K X.mg X.base k x ps sp) (hr : Room j X.A) (hk : k ≤ j) (hg : Gl X x) (ha : PA X (e :: es) t)
    (hdb : (x == ("__debug__" : Str)) = false := by decide) (he : starEach (e :: es) X.env = (false, eval e X.env) :: starEach es X.env := by rfl) (hpl : (backTo pos (starEach es X.env)).any (·.1) = false := by rfl) :
    PE X (.Call (.Name x p) (e :: es) [] pos) (tCall sp [] E0 t) := by
  obtain ⟨f, fd, F, hm, hkp, hb⟩ := c.ex
  exact pe_call F (hr.mono hk) hg hm hkp hb .nil pass0 ha hdb he hpl
theorem Frm.seq {K : PySem.W.Frag} {H H' : Hp} {p a : Addr} {n : Nat} {xs : List V} (f : Frm p H H') (P : Pen H p n) (h : SqL K H a xs) : SqL K H' a xs := by
  obtain ⟨c, ns, k, l, hp, _⟩ := P
  rcases h with (h | ⟨o, h⟩) | h
  · exact .inl (.inl (f _ _ h (ne_of h hp (by intro z; cases z))))
  · exact .inl (.inr ⟨o, f _ _ h (ne_of h hp (by intro z; cases z))⟩)
  · exact .inr h
theorem Frm.tup {K : PySem.W.Frag} {H H' : Hp} {p a : Addr} {n : Nat} {xs : List V} (f : Frm p H H') (P : Pen H p n) (h : SqT K H a xs) : SqT K H' a xs := by
  obtain ⟨c, ns, k, l, hp, _⟩ := P
  rcases h with (h | ⟨o, h⟩) | h
  · exact .inl (.inl (f _ _ h (ne_of h hp (by intro z; cases z))))
  · exact .inl (.inr ⟨o, f _ _ h (ne_of h hp (by intro z; cases z))⟩)
  · exact .inr h
/-- an item of a list that is not empty -/
def spPick (K : PySem.W.Frag) : Sp := fun vs H Q _ => ∃ (p a : Addr) (xs : List V) (n : Nat), vs = [.ref p, .ref a] ∧ SqL K H a xs ∧ 0 < xs.length ∧ xs.length ≤ 1000 ∧ Pen H p n ∧ n ≤ 1000000 ∧
  ∀ (v : V) (H' : Hp), v ∈ xs → Pen H' p (n + 1) → Frm p H H' → Q v H'
/-- some number, not too great -/
def spWhole : Sp := fun vs H Q _ => ∃ (p : Addr) (n : Nat), vs = [.ref p] ∧ Pen H p n ∧ n ≤ 900000 ∧
  ∀ (r : Int) (H' : Hp), -(10 ^ 30) < r → r < 10 ^ 30 → Pen H' p (n + 3) → Frm p H H' → Q (.int r) H'
/-- the pen, made of the script -/
def spPen (K : PySem.W.Frag) : Sp := fun vs H Q _ => ∃ (a : Addr) (ns : List Int), vs = [.ref a] ∧ SqL K H a (ns.map V.int) ∧ ns.length ≤ 63 ∧
  ∀ (p : Addr) (H' : Hp), H p = none → Pen H' p 0 → Same H H' → Q (.ref p) H'
structure Bl (mg : Str → Option Value) : Prop where
  int : mg "int" = none
  len : mg "len" = none
  abs : mg "abs" = none
  list : mg "list" = none
theorem dg {H : Hp} {p : Addr} {kvs : List (Key × V)} {x : Str} {v : V} (h : H p = some (.dK kvs)) (e : valV kvs (.inr x) = some v) : DGet H p (.str x) (some v) := e ▸ DGet.k (k := .inr x) h
theorem dp {H : Hp} {p : Addr} {kvs kvs' : List (Key × V)} {x : Str} {v : V} (h : H p = some (.dK kvs)) (e : putK kvs (.inr x) v = kvs') (hl : kvs.length < sizeLine) : DPut H p (.str x) v (upd H p (.dK kvs')) := e ▸ DPut.k (k := .inr x) h hl
theorem pen_small (c : Addr) (k l : Int) : (penK c k l).length < sizeLine := by show 3 < sizeLine; decide
theorem mod_bd (a b : Int) (h : 0 < b) : 0 ≤ a % b ∧ a % b < b := ⟨Int.emod_nonneg a (by omega), Int.emod_lt_of_pos a h⟩
theorem boot_absO : bootBuiltins ("abs" : Str) = some (.builtin "abs") := by decide +kernel
section
variable {P : Program} {w : World} {K : PySem.W.Frag} {mg : Str → Option Value} {base : Heap}
theorem scDraw : FnScope ["_law_pen_here", "_law_many", "_law_digit", "_law_k", "_law_size", "_law_cell", "_law_mix"] ["_law_pen_here", "_law_many"] (defScope sDraw) := ⟨rfl, rfl, rfl, by decide +kernel, rfl, by decide +kernel, by decide +kernel⟩
theorem div200 {m : Int} (h : 0 < m) (h2 : m.natAbs < 2 ^ 200) (i : Int) : CDivW i m := wide_div h h2 (by decide) (by decide)
theorem ok_draw {f : Addr} {fd : FuncData} (F : Fun K "_law_draw" "_law_draw" sDraw f fd) (B : Bl mg) : FnOk P w K mg base CX0 1 f fd ["_law_pen_here", "_law_many"] spDraw := by
  refine F.ok scDraw (fun vs H Q E h => ?_) (fun cdv A outer s H vs Q E hr h => ?_)
  · obtain ⟨p, m, n, rfl, _⟩ := h
    rfl
  · obtain ⟨p, m, n, rfl, hm, hmb, ⟨c, ns, k, l, hp, hc, hns, hk0, hkn, hl⟩, hn, q⟩ := h
    have hu := hu_of hr
    have ncp : c ≠ p := ne_of hc hp (by intro z; cases z)
    have nd := scDraw.nd
    refine ⟨_, pss_cons (ps_if (pt_cmpR op_gt (pe_dget hu (pv 0) pe_str (fun _ _ => rfl)) pe_int (nomark _))
        (pss_cons (ps_set (i := 2) nd rfl (.inl rfl) (pe_op op_mod (pe_callTy call_int1 (by rfl) B.int boot_int (pa_cons (pe_dget hu (pv 0) pe_str (fun _ _ => rfl)) pa_nil)) (pv 1)))
        (pss_cons (ps_dput hu (pv 0) pe_str (pe_op op_fdivW (pe_dget hu (pv 0) pe_str (fun _ _ => rfl)) (pv 1)) rfl)
        (pss_one (ps_ret (pv 2))))) pss_nil)
      (pss_cons (ps_par (i := 3) (j := 4) rfl nd rfl rfl (by decide) rfl rfl (pa_cons (pe_dget hu (pv 0) pe_str (fun _ _ => rfl)) (pa_cons (pe_callB call_len_seq (by rfl) B.len PySem.boot_len (pa_cons (pe_dget hu (pv 0) pe_str (fun _ _ => rfl)) pa_nil)) pa_nil)) rfl)
      (pss_cons (ps_dput hu (pv 0) pe_str (pe_op op_add (pv 3) pe_int) rfl)
      (Evl.pss_cut (ps_set (i := 5) nd rfl (.inl rfl) (pe_ifExp (pt_cmpR op_gt (pv 4) pe_int (nomark _))
          (pe_ix ix_list (pe_dget hu (pv 0) pe_str (fun _ _ => rfl)) (pe_op op_mod (pe_callTy call_int1 (by rfl) B.int boot_int (pa_cons (pv 3) pa_nil)) (pv 4)) (fun _ _ => rfl))
          (pe_op op_add (pe_op op_mul pe_int (pv 3)) pe_int)))
      (Evl.pss_cut (ps_if (PW.pt (pw_and (pt_cmpR op_lt (pv 3) (pv 4) (nomark _)) (pw_and1 (pt_cmpR op_ge (pe_callB call_abs (by rfl) B.abs boot_absO (pa_cons (pv 5) pa_nil)) (pe_op op_pow pe_int pe_int) (nomark _)))))
        (pss_cons (ps_dput hu (pv 0) pe_str (pe_op op_fdivW (pe_op op_sub (pe_callB call_abs (by rfl) B.abs boot_absO (pa_cons (pv 5) pa_nil)) (pe_op op_pow pe_int pe_int)) (pv 1)) rfl)
        (pss_one (ps_ret (pe_op op_mod (pe_callTy call_int1 (by rfl) B.int boot_int (pa_cons (pe_op op_sub (pe_callB call_abs (by rfl) B.abs boot_absO (pa_cons (pv 5) pa_nil)) (pe_op op_pow pe_int pe_int)) pa_nil)) (pv 1))))) pss_nil)
      (pss_cons (ps_set (i := 6) nd rfl (.inl rfl) (pe_op op_mod (pe_callTy call_int1 (by rfl) B.int boot_int (pa_cons
          (pe_op op_add (pe_op op_add (pe_op op_add (pe_op op_mul (pe_op op_mod (pe_callTy call_int1 (by rfl) B.int boot_int (pa_cons (pv 5) pa_nil)) pe_int) pe_int) (pe_op op_mul (pe_op op_mul pe_int (pv 3)) (pv 3))) (pe_op op_mul pe_int (pv 3))) pe_int) pa_nil)) pe_int))
      (pss_cons (ps_set (i := 6) nd rfl (.inl rfl) (pe_op op_mod (pe_callTy call_int1 (by rfl) B.int boot_int (pa_cons
          (pe_op op_add (pe_op op_add (pe_op op_mul (pv 6) (pv 6)) (pe_op op_mul pe_int (pv 6))) (pe_op op_mul pe_int (pv 3))) pa_nil)) pe_int))
      (pss_one (ps_ret (pe_op op_mod (pe_callTy call_int1 (by rfl) B.int boot_int (pa_cons (pe_op op_fdiv (pe_op op_mod (pe_callTy call_int1 (by rfl) B.int boot_int (pa_cons (pe_op op_mul (pv 6) (pe_op op_add (pv 6) pe_int)) pa_nil)) pe_int) pe_int) pa_nil)) (pv 1)))))))))), ?_⟩
    -- if pen['left'] > 0
    have dL : DGet H p (.str "left") (some (.int l)) := dg hp (pen_left c k l)
    have dB : DGet H p (.str "begun") (some (.int k)) := dg hp (pen_begun c k l)
    have dC : DGet H p (.str "cells") (some (.ref c)) := dg hp (pen_cells c k l)
    refine ⟨_, rfl, p, .int l, rfl, dL, _, _, rfl, rfl, _, rfl, ite2 (fun e => ?_) (fun e => ?_)⟩
    · have hl1 : 0 < l := of_decide_eq_true e
      refine ⟨_, rfl, p, .int l, rfl, dL, .inl ⟨l, rfl, _, rfl, l, m, rfl, rfl, hm, ?_⟩⟩
      refine ⟨_, rfl, p, .int l, rfl, dL, _, rfl, l, m, rfl, rfl, div200 hm hmb l, _, rfl, p, _, rfl, dp hp (pen_put_left c k l _) (pen_small c k l), _, rfl, ?_⟩
      refine q (l % m) _ (mod_bd l m hm).1 (mod_bd l m hm).2 ⟨c, ns, k, l / m, upd_same, by rw [upd_ne ncp]; exact hc, hns, hk0, by omega, Int.ediv_nonneg hl (by omega)⟩ (Frm.pen hp)
    · -- k, size = pen['begun'], len(pen['cells'])
      have hcL : SqL K H c (ns.map V.int) := .inl (.inl hc)
      refine ⟨_, rfl, p, .int k, rfl, dB, _, rfl, p, .ref c, rfl, dC, c, _, rfl, .inl hcL, _, _, rfl, ?_⟩
      refine ⟨_, rfl, _, _, rfl, rfl, _, rfl, p, _, rfl, dp hp (pen_put_begun c k l _) (pen_small c k l), ?_⟩
      -- cell = ..
      have hl0 : l = 0 := by
        have : ¬ (0 < l) := fun z => e (decide_eq_true z)
        omega
      have hp1 : (upd H p (.dK (penK c (k + 1) l))) p = some (.dK (penK c (k + 1) l)) := upd_same
      have hc1 : (upd H p (.dK (penK c (k + 1) l))) c = some (.lst (ns.map V.int)) := by rw [upd_ne ncp]; exact hc
      have dC1 := dg (x := "cells") hp1 (pen_cells c (k + 1) l)
      have hcL1 : SqL K (upd H p (.dK (penK c (k + 1) l))) c (ns.map V.int) := .inl (.inl hc1)
      have fin : ∀ (r y : Int), 0 ≤ r → r < m → 0 ≤ y → ∀ H', H' = upd H p (.dK (penK c (k + 1) y)) → Q (.int r) H' := fun r y h0 h1 hy H' e => by
        subst e
        exact q r _ h0 h1 ⟨c, ns, k + 1, y, upd_same, by rw [upd_ne ncp]; exact hc, hns, by omega, by omega, hy⟩ (Frm.pen hp)
      refine ⟨fun σ' H' => ∃ cell : Int, σ' = [some (.ref p), some (.int m), none, some (.int k), some (.int ((ns.map V.int).length : Int)), some (.int cell), none] ∧ H' = upd H p (.dK (penK c (k + 1) l)), ?_, ?_⟩
      · refine ⟨_, rfl, _, _, rfl, rfl, _, rfl, ite2 (fun e2 => ?_) (fun e2 => ?_)⟩
        · have hsz : (0 : Int) < ((ns.map V.int).length : Int) := of_decide_eq_true e2
          have hb := mod_bd k _ hsz
          have hj : (k % ((ns.map V.int).length : Int)).toNat < ns.length := by
            rw [List.length_map] at hb ⊢
            omega
          refine ⟨_, rfl, p, _, rfl, dC1, _, rfl, .inl ⟨k, rfl, _, rfl, k, _, rfl, rfl, hsz, c, ns.map V.int, _, .int ns[(k % ((ns.map V.int).length : Int)).toNat], rfl, rfl, hcL1, ?_, ?_⟩⟩
          · have := atI_nat (xs := ns.map V.int) (j := (k % ((ns.map V.int).length : Int)).toNat) (v := .int ns[(k % ((ns.map V.int).length : Int)).toNat]) (by rw [List.getElem?_map, List.getElem?_eq_getElem hj]; rfl)
            rw [Int.toNat_of_nonneg hb.1] at this
            exact this
          · exact ⟨_, rfl, rfl⟩
        · refine ⟨_, rfl, _, _, rfl, rfl, .inl ⟨by decide, by decide⟩, _, _, rfl, rfl, ?_⟩
          exact ⟨_, rfl, rfl⟩
      · rintro σ' H' ⟨cell, rfl, rfl⟩
        refine ⟨fun σ' H' => σ' = [some (.ref p), some (.int m), none, some (.int k), some (.int ((ns.map V.int).length : Int)), some (.int cell), none] ∧ H' = upd H p (.dK (penK c (k + 1) l)), ?_, ?_⟩
        · have hpow : CPow 10 18 := ⟨by decide, by decide, by decide⟩
          refine ⟨_, rfl, _, rfl, _, _, rfl, rfl, _, rfl, ite2 (fun e2 => ?_) (fun e2 => ?_)⟩
          · refine ⟨_, rfl, cell, rfl, _, _, rfl, rfl, hpow, _, _, rfl, rfl, _, rfl, ite2 (fun e3 => ?_) (fun e3 => ?_)⟩
            · have hge := of_decide_eq_true e3
              refine ⟨_, rfl, cell, rfl, _, _, rfl, rfl, hpow, _, _, rfl, rfl, _, rfl, _, _, rfl, rfl, div200 hm hmb _, _, rfl, p, _, rfl, dp hp1 (pen_put_left c (k + 1) l _) (pen_small c _ l), ?_⟩
              refine ⟨_, rfl, cell, rfl, _, _, rfl, rfl, hpow, _, _, rfl, rfl, .inl ⟨_, rfl, _, rfl, _, _, rfl, rfl, hm, ?_⟩⟩
              refine fin _ (((if cell < 0 then -cell else cell) - 10 ^ (18 : Int).toNat) / m) (mod_bd _ m hm).1 (mod_bd _ m hm).2 (Int.ediv_nonneg ?_ (by omega)) _ ?_
              · show (0 : Int) ≤ (if cell < 0 then -cell else cell) - 10 ^ (18 : Int).toNat
                have : (10 : Int) ^ (18 : Int).toNat ≤ (if cell < 0 then -cell else cell) := hge
                omega
              · rw [upd_upd]
            · exact ⟨rfl, rfl⟩
          · exact iteF ⟨rfl, rfl⟩
        · rintro σ' H' ⟨rfl, rfl⟩
          -- mix
          refine ⟨_, rfl, .inl ⟨_, rfl, _, _, rfl, rfl, (by show (0 : Int) < 4294966769; decide), _, _, rfl, rfl, .inr ⟨by decide, by decide⟩, _, rfl, _, _, rfl, rfl, .inl ⟨by decide, by decide⟩, _, rfl, _, _, rfl, rfl, .inl ?_, _, _, rfl, rfl, _, rfl, _, _, rfl, rfl, .inl ⟨by decide, by decide⟩, _, _, rfl, rfl, _, _, rfl, rfl, .inl ⟨_, rfl, _, _, rfl, rfl, (by show (0 : Int) < 4294966813; decide), ?_⟩⟩⟩
          · constructor <;> omega
          -- mix again
          generalize hM : (cell % 4294966769 * 43313 + 31699 * k * k + 613 * k + 41) % 4294966813 = M
          have hMb : 0 ≤ M ∧ M < 4294966813 := hM ▸ mod_bd _ _ (by decide)
          refine ⟨_, rfl, _, rfl, _, _, rfl, rfl, .inl (by constructor <;> omega), _, rfl, _, _, rfl, rfl, .inl ⟨by decide, by decide⟩, _, _, rfl, rfl, _, rfl, _, _, rfl, rfl, .inl ⟨by decide, by decide⟩, _, _, rfl, rfl, .inl ⟨_, rfl, _, _, rfl, rfl, (by show (0 : Int) < 4294966787; decide), ?_⟩⟩
          generalize hM2 : (M * M + 40961 * M + 17 * k) % 4294966787 = M2
          have hMb2 : 0 ≤ M2 ∧ M2 < 4294966787 := hM2 ▸ mod_bd _ _ (by decide)
          refine ⟨_, rfl, _, rfl, _, _, rfl, rfl, _, _, rfl, rfl, .inl (by constructor <;> omega), .inl ⟨_, rfl, _, _, rfl, rfl, (by show (0 : Int) < 4294966661; decide), _, _, rfl, rfl, ⟨by decide, by decide⟩, .inl ⟨_, rfl, _, rfl, _, _, rfl, rfl, hm, ?_⟩⟩⟩
          exact fin _ l (mod_bd _ m hm).1 (mod_bd _ m hm).2 hl _ rfl
theorem scPick : FnScope ["_law_pen_here", "_law_items"] ["_law_pen_here", "_law_items"] (defScope sPick) := ⟨rfl, rfl, rfl, by decide +kernel, rfl, by decide +kernel, by decide +kernel⟩
theorem ok_pick {f : Addr} {fd : FuncData} (F : Fun K "_law_pick" "_law_pick" sPick f fd) (B : Bl mg) (D : Cl P w K mg base 1 "_law_draw" ["_law_pen_here", "_law_many"] spDraw) : FnOk P w K mg base CX0 2 f fd ["_law_pen_here", "_law_items"] (spPick K) := by
  refine F.ok scPick (fun vs H Q E h => ?_) (fun cdv A outer s H vs Q E hr h => ?_)
  · obtain ⟨p, a, xs, n, rfl, _⟩ := h
    rfl
  · obtain ⟨p, a, xs, n, rfl, hS, h0, h1, hP, hn, q⟩ := h
    refine ⟨_, pss_one (ps_ret (pe_ix ix_list (pv 1) (pe_cl D hr (by decide) (by rfl) (pa_cons (pv 0) (pa_cons (pe_callB call_len_seq (by rfl) B.len PySem.boot_len (pa_cons (pv 1) pa_nil)) pa_nil))) (fun _ _ => rfl))), ?_⟩
    refine ⟨_, rfl, _, rfl, _, rfl, a, xs, rfl, .inl hS, p, xs.length, n, rfl, by omega, ?_, hP, hn, fun r H' hr0 hr1 hP' hF => ?_⟩
    · have : xs.length < 2 ^ 200 := Nat.lt_of_le_of_lt h1 (by decide)
      simpa using this
    · have hj : r.toNat < xs.length := by omega
      refine ⟨a, xs, r, xs[r.toNat], rfl, rfl, hF.seq hP hS, ?_, q _ _ (List.getElem_mem hj) hP' hF⟩
      have := atI_nat (xs := xs) (j := r.toNat) (v := xs[r.toNat]) (List.getElem?_eq_getElem hj)
      rw [Int.toNat_of_nonneg hr0] at this
      exact this
theorem scPen : FnScope ["_law_script"] ["_law_script"] (defScope sPen) := ⟨rfl, rfl, rfl, by decide +kernel, rfl, by decide +kernel, by decide +kernel⟩
theorem cut63 (ns : List Int) : cutV (ns.map V.int) none (some 63) = (ns.take 63).map V.int := by
  unfold cutV
  rw [HT.sIx_none, show HT.sIx (ns.map V.int).length (ns.map V.int).length (some 63) = min 63 (ns.map V.int).length from HT.sIx_nat _ _ 63, List.drop_zero, Nat.sub_zero, List.map_take]
  rcases Nat.le_total 63 (ns.map V.int).length with h | h
  · rw [Nat.min_eq_left h]
  · rw [Nat.min_eq_right h, List.take_of_length_le (Nat.le_refl _), List.take_of_length_le h]
theorem ok_pen {f : Addr} {fd : FuncData} (F : Fun K "_law_pen" "_law_pen" sPen f fd) (B : Bl mg) : FnOk P w K mg base CX0 1 f fd ["_law_script"] (spPen K) := by
  refine F.ok scPen (fun vs H Q E h => ?_) (fun cdv A outer s H vs Q E hr h => ?_)
  · obtain ⟨a, ns, rfl, _⟩ := h
    rfl
  · obtain ⟨a, ns, rfl, hS, hlen, q⟩ := h
    refine ⟨_, pss_one (ps_ret (pe_disp (pps_cons pe_str (pe_callTy call_list_of (by rfl) B.list (by decide +kernel) (pa_cons (pe_slice sl_list (pv 0) po_none (po_some pe_int)) pa_nil)) (pps_cons pe_str pe_int (pps_cons pe_str pe_int pps_nil))) rfl rfl (by simp) (by decide))), ?_⟩
    intro p hp
    have s1 : Same H (upd H p (.dK [])) := fun b o e => by rw [upd_ne (ne_of_none e hp)]; exact e
    refine ⟨_, rfl, _, rfl, a, _, rfl, s1.seq hS, fun x hx => ?_⟩
    refine ⟨x, _, rfl, .inl (.inl (.inl upd_same)), fun c hc => ?_⟩
    have npx : p ≠ x := ne_of_none upd_same hx
    have npc : p ≠ c := by
      intro e
      subst e
      rw [upd_ne npx, upd_same] at hc
      cases hc
    have a1 : putK ([] : List (Key × V)) (.inr ("cells" : Str)) (.ref c) = [(.inr ("cells" : Str), .ref c)] := putK_new _ valV_nil
    have a2 : putK ([(.inr ("cells" : Str), .ref c)] : List (Key × V)) (.inr ("begun" : Str)) (.int 0) = [(.inr ("cells" : Str), .ref c), (.inr ("begun" : Str), .int 0)] := putK_new _ ((valV_neg (fun e => kBC e.symm)).trans valV_nil)
    have a3 : putK ([(.inr ("cells" : Str), .ref c), (.inr ("begun" : Str), .int 0)] : List (Key × V)) (.inr ("left" : Str)) (.int 0) = penK c 0 0 := putK_new _ ((valV_neg (fun e => kLC e.symm)).trans ((valV_neg (fun e => kLB e.symm)).trans valV_nil))
    have e3 : mergeK [] (penK c 0 0) = penK c 0 0 := by
      show putK (putK (putK ([] : List (Key × V)) (.inr ("cells" : Str)) (.ref c)) (.inr ("begun" : Str)) (.int 0)) (.inr ("left" : Str)) (.int 0) = penK c 0 0
      rw [a1, a2, a3]
    refine ⟨by rw [upd_ne npc, upd_ne npx, upd_same], penK c 0 0, rfl, by show 3 ≤ 15; decide, ?_⟩
    rw [e3]
    refine q p _ hp ⟨c, ns.take 63, 0, 0, upd_same, ?_, by rw [List.length_take]; omega, by omega, by omega, by omega⟩ fun b o e => ?_
    · rw [upd_ne npc.symm, upd_same, cut63]
    · have h1 := s1 b o e
      have nbx : b ≠ x := ne_of_none h1 hx
      have h2 : (upd (upd H p (.dK [])) x (.lst (cutV (ns.map V.int) none (some 63)))) b = some o := by rw [upd_ne nbx]; exact h1
      rw [upd_ne (ne_of_none e hp), upd_ne (ne_of_none h2 hc)]
      exact h2
end
end OR

namespace OR
open PySem PySem.Spec PyProof.Rows L2
/-! ### own classes: double-underscore methods behind the signs -/
/-- a method of the class at C, called with its object and arguments by position -/
structure Md (P : Program) (w : World) (K : PySem.W.Frag) (mg : Str → Option Value) (base : Heap) (k : Nat) (C : Addr) (m : Str) (sp : Sp) : Prop where
  ex : ∃ f, FnR P w K mg base CX0 k f sp ∧ PySem.W.findIn K (.ref C) m = some (some (.ref f)) ∧ PySem.W.isFn K (.ref f) = true ∧ PySem.W.fnIn K f = true
theorem fnR_of {P : Program} {w : World} {K : PySem.W.Frag} {mg : Str → Option Value} {base : Heap} {k : Nat} {f : Addr} {fd : FuncData} {ps : List Str} {sp : Sp} (F : FnOk P w K mg base CX0 k f fd ps sp) (hb : Binds K fd ps []) : FnR P w K mg base CX0 k f sp :=
  (F.raw hb .nil).imp fun vs H Q E h => by rw [List.append_nil]; exact h
section
variable {X : Cx} {n : Nat} {C : Addr} {sp : Sp}
def rBinS (C : Addr) (sp : Sp) : R2 := fun x y H Q => ∃ a b dx dy fs gs, x = .ref a ∧ y = .ref b ∧ H a = some (.ins C dx fs) ∧ H b = some (.ins C dy gs) ∧ sp [x, y] H Q E0
theorem op_binS {op : Operator} (m : Md X.prog X.w X.K X.mg X.base n C (PySem.dunder op.info.2) sp) (sf : PySem.W.selfFirst X.K C = true) (hr : Room n X.A) : OpR X (binaryOp op) (rBinS C sp) := by
  intro pins s σ H x y v u Q I rx ry h
  obtain ⟨f, F, hs, hf, _⟩ := m.ex
  obtain ⟨a, b, dx, dy, fs, gs, rfl, rfl, ha, hb, q⟩ := h
  cases (show v = Value.ref a from rx)
  cases (show u = Value.ref b from ry)
  obtain ⟨mA, J, _⟩ := ins_get I.hok ha
  obtain ⟨mB, J', _⟩ := ins_get I.hok hb
  obtain ⟨od, J, _⟩ := J.look
  obtain ⟨od', J', _⟩ := J'.look
  obtain ⟨m, hF⟩ := I.fr
  refine PySem.W.binop_K hF I.ok.mod.kin J J'.type sf hs hf ?_
  refine wpAny_mono (wpAny_call (run_fnR (us := [.ref a, .ref b]) (vs := [.ref a, .ref b]) F hr pass0 I (.cons rfl (.cons rfl .nil)) q)) (fun w s' z => ?_) fun _ _ x => x
  obtain ⟨z', H', I', rz, qz⟩ := z
  exact SlX.cmpback rz ⟨z', H', I', rz, qz⟩
/-- what + and the like ask of the class for an int on the right -/
structure BinI (K : PySem.W.Frag) (C : Addr) (op : Operator) : Prop where
  rc : ∃ rc, PySem.W.findIn K (.ref C) (PySem.dunderR op.info.2) = some rc ∧ (rc = none ∨ ∃ g : Addr, rc = some (.ref g))
  fo : ∃ fo, PySem.W.findIn K (.type "int") (PySem.dunder op.info.2) = some fo
  ro : ∃ ro, PySem.W.findIn K (.type "int") (PySem.dunderR op.info.2) = some ro
  sub : PySem.W.subIn K (.type "int") (.ref C) = some false
def rBinI (C : Addr) (sp : Sp) : R2 := fun x y H Q => ∃ a dx fs i, x = .ref a ∧ y = .int i ∧ H a = some (.ins C dx fs) ∧ sp [x, y] H Q E0
theorem op_binI {op : Operator} (m : Md X.prog X.w X.K X.mg X.base n C (PySem.dunder op.info.2) sp) (b : BinI X.K C op) (sf : PySem.W.selfFirst X.K C = true) (hr : Room n X.A) : OpR X (binaryOp op) (rBinI C sp) := by
  intro pins s σ H x y v u Q I rx ry h
  obtain ⟨f, F, hs, hf, _⟩ := m.ex
  obtain ⟨a, dx, fs, i, rfl, rfl, ha, q⟩ := h
  cases (show v = Value.ref a from rx)
  obtain ⟨t, rfl⟩ := (show ∃ t, u = Value.int i t from ry)
  obtain ⟨mA, J, _⟩ := ins_get I.hok ha
  obtain ⟨od, J, _⟩ := J.look
  obtain ⟨m, hF⟩ := I.fr
  obtain ⟨rc, hrc, hp⟩ := b.rc
  obtain ⟨fo, h1⟩ := b.fo
  obtain ⟨ro, h2⟩ := b.ro
  refine PySem.W.ksp_binT (T := "int") hF I.ok.mod.kin J rfl sf hs hf hrc hp h1 h2 b.sub ?_
  refine wpAny_mono (wpAny_call (run_fnR (us := [.ref a, .int i t]) (vs := [.ref a, .int i]) F hr pass0 I (.cons rfl (.cons ⟨t, rfl⟩ .nil)) q)) (fun w s' z => ?_) fun _ _ x => x
  obtain ⟨z', H', I', rz, qz⟩ := z
  exact SlX.cmpback rz ⟨z', H', I', rz, qz⟩
def rNegO (C : Addr) (sp : Sp) : V → Hp → VK → Prop := fun x H Q => ∃ a dx fs, x = .ref a ∧ H a = some (.ins C dx fs) ∧ sp [x] H Q E0
theorem un_negO (m : Md X.prog X.w X.K X.mg X.base n C "__neg__" sp) (hr : Room n X.A) : UnR X (unaryOp .USub) (rNegO C sp) := by
  intro pins s σ H x v Q I rx h
  obtain ⟨f, F, hs, hf, _⟩ := m.ex
  obtain ⟨a, dx, fs, rfl, ha, q⟩ := h
  cases (show v = Value.ref a from rx)
  obtain ⟨mA, J, _⟩ := ins_get I.hok ha
  obtain ⟨od, J, _⟩ := J.look
  obtain ⟨m, hF⟩ := I.fr
  refine PySem.W.ksp_neg hF I.ok.mod.kin J hs hf ?_
  refine wpAny_mono (wpAny_call (run_fnR (us := [.ref a]) (vs := [.ref a]) F hr pass0 I (.cons rfl .nil) q)) (fun w s' z => ?_) fun _ _ x => x
  exact z
end
/-- a reading may ask for more -/
theorem pe_imp {X : Cx} {e : Expr} {t t' : TE} (h : PE X e t) (i : ∀ σ H Q, t' σ H Q → t σ H Q) : PE X e t' := ⟨fun pins s σ H Q I q => h.run pins s σ H Q I (i σ H Q q)⟩
structure FnAt (K : PySem.W.Frag) (x : Str) (st : Stmt) : Prop where
  ex : ∃ f fd, Fun K x x st f fd ∧ PySem.W.nsIn K mainGlobals x = some (some (.ref f))
theorem fnAt {K : PySem.W.Frag} {h : Heap} {x : Str} {st : Stmt} {f : Addr} {oc : Value} {od an : Option Addr} {osl : Array (Option Value)} {kV doc pm cdv ct : Value} (_X : K.In h)
    (a : PySem.W.nsIn K mainGlobals x = some (some (.ref f))) (l : K.lookup f = some ⟨oc, od, .func (PySem.W.fnOf x x (defArgs st) (defBody st) (defScope st) .none kV doc pm an cdv ct), osl⟩)
    (c : PySem.W.codeIn K cdv x = true) (k : PySem.W.keepIn K (.ref f) = true) : FnAt K x st := ⟨f, _, fun_mk l c k, a⟩
structure MtAt (K : PySem.W.Frag) (C : Addr) (m m' qual : Str) (st : Stmt) : Prop where
  ex : ∃ f fd, Fun K m qual st f fd ∧ PySem.W.findIn K (.ref C) m' = some (some (.ref f)) ∧ PySem.W.isFn K (.ref f) = true ∧ PySem.W.fnIn K f = true
theorem mtAt {K : PySem.W.Frag} {h : Heap} {C : Addr} {m m' qual : Str} {st : Stmt} {f : Addr} {oc : Value} {od an : Option Addr} {osl : Array (Option Value)} {kV doc pm cdv ct : Value} (_X : K.In h)
    (a : PySem.W.findIn K (.ref C) m' = some (some (.ref f))) (l : K.lookup f = some ⟨oc, od, .func (PySem.W.fnOf m qual (defArgs st) (defBody st) (defScope st) .none kV doc pm an cdv ct), osl⟩)
    (c : PySem.W.codeIn K cdv qual = true) (k : PySem.W.keepIn K (.ref f) = true) (i : PySem.W.isFn K (.ref f) = true) (n : PySem.W.fnIn K f = true) : MtAt K C m m' qual st := ⟨f, _, fun_mk l c k, a, i, n⟩
section
variable {P : Program} {w : World} {K : PySem.W.Frag} {mg : Str → Option Value} {base h : Heap}
theorem cl_of {x : Str} {st : Stmt} {k : Nat} {ps : List Str} {sp : Sp} (a : FnAt K x st) (X : K.In h) (G : h.Ns mainGlobals mg)
    (hb : ∀ (kV doc pm : Value) (an : Option Addr) (cdv ct : Value) (us : List Value), us.length = ps.length → bindArgs (PySem.W.fnOf x x (defArgs st) (defBody st) (defScope st) .none kV doc pm an cdv ct) ⟨us, []⟩ = pure (ps.zip us))
    (ok : ∀ f fd, Fun K x x st f fd → FnOk P w K mg base CX0 k f fd ps sp) : Cl P w K mg base k x ps sp := by
  obtain ⟨f, fd, F, e⟩ := a.ex
  exact ⟨f, fd, ok f fd F, PySem.W.mg_of X G e, F.kp, F.binds hb⟩
theorem md_of {C : Addr} {m m' qual : Str} {st : Stmt} {k : Nat} {ps : List Str} {sp : Sp} (a : MtAt K C m m' qual st)
    (hb : ∀ (kV doc pm : Value) (an : Option Addr) (cdv ct : Value) (us : List Value), us.length = ps.length → bindArgs (PySem.W.fnOf m qual (defArgs st) (defBody st) (defScope st) .none kV doc pm an cdv ct) ⟨us, []⟩ = pure (ps.zip us))
    (ok : ∀ f fd, Fun K m qual st f fd → FnOk P w K mg base CX0 k f fd ps sp) : Md P w K mg base k C m' sp := by
  obtain ⟨f, fd, F, e, i, n⟩ := a.ex
  exact ⟨f, fnR_of (ok f fd F) (F.binds hb), e, i, n⟩
end
end OR

namespace OR
open PySem PySem.Spec PyProof.Rows L2
open AutoSeq1 (wpAny_loadPart')
/-! ### enumerate of a tuple -/
section
variable {prog : Program} {w : World} {A : Around} {E : Value → Shared → Prop} {s : Shared}
theorem nextOf_tup_item {it t : Addr} {i : Nat} {items : Array Value} {x : Value} {Q : Value → Shared → Prop} (hit : s.heap.IsTupleIter it t i) (ht : s.heap.IsTuple t items) (hx : items[i]? = some x)
    (hQ : ∀ h', h'.IsTupleIter it t (i + 1) → Heap.SameBut it s.heap h' → Q x { s with heap := h' }) : wpAny (model prog w) A (Builtin.SmallTypes.nextOf (.ref it)) Q E s := by
  obtain ⟨o, ho, hc, hd⟩ := id hit
  obtain ⟨ol, hol, _, nl, hdl⟩ := ht
  unfold Builtin.SmallTypes.nextOf
  refine wpAny_bind (wpAny_callSpecial?_slot (name := Str.ofString "__next__") hit.typeIs F.slot_tuple_iterator_next (wpAny_call_entry F.slot_tuple_iterator_next hit.typeIs F.entry_tuple_iterator_next ?_ (F.args_tuple_iterator_next_1 _)))
  show wpAny _ _ (field (.ref it) 0 >>= _) _ _ s
  refine wpAny_bind (wpAny_field ho hd (x := .ref t) rfl ?_)
  show wpAny _ _ (if (Value.ref t == Value.none) = true then _ else _) _ _ s
  rw [if_neg (show ¬ ((Value.ref t == Value.none) = true) by exact Bool.false_ne_true)]
  show wpAny _ _ (field (.ref it) 1 >>= _) _ _ s
  refine wpAny_bind (wpAny_field ho hd (x := .int i 0) rfl ?_)
  show wpAny _ _ (seqItems? (.ref t) >>= _) _ _ s
  refine wpAny_bind (wpAny_seqItems hol hdl ?_)
  simp only [Int.toNat_natCast, hx]
  refine wpAny_bind (wpAny_setField ho hd (by simp) (wpAny_pure ⟨x, rfl, wpAny_pure (hQ _ ⟨_, Heap.get?_update_self _ ho (Obj.isFreed_of_fields (Obj.data_mapFields hd _)), (Obj.cls_mapFields ..).trans hc, by
    rw [Obj.data_mapFields hd]; simp [rawInt]⟩ (Heap.SameBut.update ..))⟩))
theorem nextOf_tup_end {it t : Addr} {i : Nat} {items : Array Value} {Q : Value → Shared → Prop} (hh : A.handled = none) (hit : s.heap.IsTupleIter it t i) (ht : s.heap.IsTuple t items) (hx : items[i]? = none)
    (hE : ∀ h' e, Heap.ExtBut it s.heap h' → (∃ o, h'.get? e = some o ∧ o.cls = .type "StopIteration") → E (.ref e) { s with heap := h' }) : wpAny (model prog w) A (Builtin.SmallTypes.nextOf (.ref it)) Q E s := by
  obtain ⟨o, ho, hc, hd⟩ := id hit
  obtain ⟨ol, hol, _, nl, hdl⟩ := ht
  unfold Builtin.SmallTypes.nextOf
  refine wpAny_bind (wpAny_callSpecial?_slot (name := Str.ofString "__next__") hit.typeIs F.slot_tuple_iterator_next (wpAny_call_entry F.slot_tuple_iterator_next hit.typeIs F.entry_tuple_iterator_next ?_ (F.args_tuple_iterator_next_1 _)))
  show wpAny _ _ (field (.ref it) 0 >>= _) _ _ s
  refine wpAny_bind (wpAny_field ho hd (x := .ref t) rfl ?_)
  show wpAny _ _ (if (Value.ref t == Value.none) = true then _ else _) _ _ s
  rw [if_neg (show ¬ ((Value.ref t == Value.none) = true) by exact Bool.false_ne_true)]
  show wpAny _ _ (field (.ref it) 1 >>= _) _ _ s
  refine wpAny_bind (wpAny_field ho hd (x := .int i 0) rfl ?_)
  show wpAny _ _ (seqItems? (.ref t) >>= _) _ _ s
  refine wpAny_bind (wpAny_seqItems hol hdl ?_)
  simp only [Int.toNat_natCast, hx]
  refine wpAny_bind (wpAny_rule (wpAny_bind (wpAny_setField ho hd (by simp) ?_)))
  show wpAny _ _ (newExc (.type "StopIteration") [] >>= _) _ _ _
  refine wpAny_bind ?_
  simp only [newExc, newTuple]
  refine wpAny_bind (wpAny_newObj_type ?_ (by size_fits))
  refine wpAny_bind (m := firstArgMember _ _) (wpAny_of_eq (a := Value.none) (by first | rfl | (simp only [firstArgMember]; rfl)) ?_)
  refine wpAny_newObj_type ?_ (by size_fits)
  simp only [raiseNew]
  refine wpAny_bind (wpAny_handled ?_)
  first | rw [show A.in1.handled = none from hh] | rw [hh]
  refine wpAny_bind (wpAny_pure (wpAny_throw ?_))
  exact hE _ _ (((Heap.SameBut.update ..).extBut.push _).push _) ⟨_, Heap.get?_push_size _ rfl, rfl⟩
theorem draws_tup (hh : A.handled = none) (it t : Addr) (hne : t ≠ it) (items : Array Value) :
    Draws prog w A it [it, t] items.size (fun i v => items[i]? = some v) (fun i h => h.IsTupleIter it t i ∧ h.IsTuple t items) where
  live := fun _ _ st => let ⟨o, ho, _⟩ := st.1; ⟨o, ho⟩
  frame := fun _ _ _ st hk => ⟨let ⟨o, ho, r⟩ := st.1; ⟨o, hk it (by simp) o ho, r⟩, let ⟨o, ho, r⟩ := st.2; ⟨o, hk t (by simp) o ho, r⟩⟩
  item := fun i s Q E hi st hQ => by
    refine nextOf_tup_item st.1 st.2 (x := items[i]) (by simp [hi]) fun h' hit' hs' => ?_
    exact hQ _ h' s.toks (by simp [hi]) ⟨hit', st.2.extBut hs'.extBut hne⟩ hs'
  done := fun s Q E st hE => nextOf_tup_end hh st.1 st.2 (by simp) hE
theorem meets_enum_tup (l : Addr) (items : Array Value) (n : Nat) (dct : Option Addr) (sl : Array (Option Value)) :
    Meets (Builtin.«enumerate.__new__» ⟨[.type "enumerate", .ref l], []⟩) (fun _ R s => s.heap.get? l = some { cls := .type "tuple", dict := dct, data := .seq items n, slots := sl } ∧
      R (.ok (.ret (.ref (s.heap.push { cls := .type "tuple_iterator", data := .fields #[.ref l, .int 0 0] }).objs.size)))
        { s with heap := (s.heap.push { cls := .type "tuple_iterator", data := .fields #[.ref l, .int 0 0] }).push { cls := .type "enumerate", data := .fields #[.none, .bool false, .ref s.heap.objs.size, rawInt 0, .none, .none] } }) :=
  .of_wp fun prog w A R s h => by
    obtain ⟨hp, g, d, tk, os⟩ := s
    obtain ⟨hl, h⟩ := h
    have hsub := sub_enumerate
    have hL : Heap.IsTuple (Shared.heap ⟨hp, g, d, tk, os⟩) l items := ⟨_, hl, rfl, n, rfl⟩
    wp_walk using wpAny_loadPart' hl
    refine wpAny_stack_any fun st => wpAny_pure ?_
    split
    · rename_i c _ _ _ _ _
      cases (c == Value.type "enumerate")
      · wp_walk using wpAny_loadPart' hl, wpAny_pyIter_tuple hL
        exact ⟨_, rfl, h⟩
      · wp_walk using wpAny_loadPart' hl, wpAny_pyIter_tuple hL
        exact ⟨_, rfl, h⟩
    · wp_walk using wpAny_loadPart' hl, wpAny_pyIter_tuple hL
      exact ⟨_, rfl, h⟩
theorem call_enum_tup {l : Addr} {items : Array Value} {Q : Value → Shared → Prop} (hL : s.heap.IsTuple l items)
    (h : ∀ h', IsEnum h' (s.heap.objs.size + 1) s.heap.objs.size 0 .none → h'.IsTupleIter s.heap.objs.size l 0 → h'.objs.size = s.heap.objs.size + 2 →
      (∀ b o, s.heap.get? b = some o → h'.get? b = some o) → Q (.ref (s.heap.objs.size + 1)) { s with heap := h' }) :
    wpAny (model prog w) A (call (.type "enumerate") [.ref l]) Q E s := by
  obtain ⟨⟨c, dct, dt, sl⟩, hl, hc, n, hd⟩ := hL
  replace hc : c = .type "tuple" := hc
  replace hd : dt = .seq items n := hd
  subst hc hd
  refine callType_new F.called_enumerate (by decide) (F.typeCall_enumerate_1 _) (F.newCall_enumerate_1 _) (fun obj => F.args_object_init_2 obj _) F.entry_enumerate_new (meets_enum_tup l items n dct sl) ⟨hl, ?_⟩
  have hz : (s.heap.push { cls := .type "tuple_iterator", data := .fields #[.ref l, .int 0 0] }).objs.size = s.heap.objs.size + 1 := Heap.size_push ..
  show _ ∧ _
  rw [hz]
  have he : IsEnum ((s.heap.push { cls := .type "tuple_iterator", data := .fields #[.ref l, .int 0 0] }).push
      { cls := .type "enumerate", data := .fields #[.none, .bool false, .ref s.heap.objs.size, rawInt 0, .none, .none] }) (s.heap.objs.size + 1) s.heap.objs.size 0 .none := by
    have := Heap.get?_push_size (s.heap.push { cls := .type "tuple_iterator", data := .fields #[.ref l, .int 0 0] })
      (o := { cls := .type "enumerate", data := .fields #[.none, .bool false, .ref s.heap.objs.size, rawInt 0, .none, .none] }) rfl
    rw [hz] at this; exact this
  refine ⟨⟨_, he, rfl⟩, h _ he ⟨_, Heap.get?_push_of_some _ (Heap.get?_push_size _ rfl), rfl, rfl⟩ (by rw [Heap.size_push, hz]) fun b o x => Heap.get?_push_of_some _ (Heap.get?_push_of_some _ x)⟩
end
/-- the tuple at a as it stands at each turn, each item in a new pair -/
def IteT (K : PySem.W.Frag) (a : Addr) : It :=
  ⟨fun i H => ∃ (xs : List V) (x : V), SqT K H a xs ∧ xs[i]? = some x, fun i H v H' => ∃ T x, v = .ref T ∧ H T = none ∧ H' = upd H T (.tup [.int (i : Nat), x]) ∧ ∀ xs, SqT K H a xs → xs[i]? = some x, fun i H => ∃ xs : List V, SqT K H a xs ∧ xs.length ≤ i⟩
theorem turn_enumT {P : Program} {w : World} {K : PySem.W.Frag} {elts : List Expr} {kk : Nat} {tpos : Pos} (a e it : Addr) (hai : a ≠ it) (hea : e ≠ a) :
    Turn P w K (.Tuple elts kk tpos) (IteT K a) [e, it] e (fun i h => (∃ old, IsEnum h e it ((i : Nat) : Int) old) ∧ h.IsTupleIter it a i ∧ e ≠ it) where
  mem := by simp
  obj := fun i h st b hb => by
    obtain ⟨⟨old, he⟩, ⟨o, ho, hc, hd⟩, _⟩ := st
    have e' : b = e ∨ b = it := by simpa using hb
    rcases e' with z | z
    · rw [z]; exact ⟨_, he, fun v q => nomatch q⟩
    · rw [z]; exact ⟨o, ho, fun v q => by rw [hd] at q; cases q⟩
  keep := fun i h h' st k => by
    obtain ⟨⟨old, he⟩, ⟨o, ho, r⟩, hne⟩ := st
    exact ⟨⟨old, k e (by simp) _ he⟩, ⟨o, k it (by simp) o ho, r⟩, hne⟩
  item := by
    intro X hP hw hK hc i pins s σ H E I hf st hg
    subst hP hw hK
    obtain ⟨⟨old, he⟩, hit, hne⟩ := st
    obtain ⟨xs, x, hq, hx⟩ := hg
    obtain ⟨its, rv, p, hz⟩ := I.tuple hq
    obtain ⟨u, hu, ru⟩ := rv.get hx
    have hel : e < s.heap.objs.size := Heap.lt_size he
    have hil : it < s.heap.objs.size := by obtain ⟨_, q, _⟩ := hit; exact Heap.lt_size q
    have hD := draws_tup (prog := X.prog) (w := X.w) (A := X.A.in1) (I.ok.hd hc) it a hai its.toArray
    have hlt : i < its.toArray.size := by
      have := (List.getElem?_eq_some_iff.mp hu).1
      simpa using this
    refine wpAny_pyNext_enum_itemD hD he ⟨hit, show s.heap.IsTuple a its.toArray from p⟩ hlt hne (by simp [hne, hea]) fun y h' tk hy ho hst' hT hsz hk => ?_
    obtain rfl : y = u := by
      have h1 : its[i]? = some y := by simpa using hy
      rw [hu] at h1
      exact (Option.some.inj h1).symm
    refine ⟨_, rfl, wpAny_letOwnedTupleGo_enum (s := { s with heap := h', toks := tk + 1 }) ho fun h'' he' sb => ?_⟩
    have hT2 : h''.get? s.heap.objs.size = some { cls := .type "tuple", data := .seq #[.int i tk, y] } := (sb.2 _ (Nat.ne_of_gt hel)).trans hT
    have new : ObjOk X.prog X.w (upd H s.heap.objs.size (.tup [.int (i : Nat), x])) h'' s.heap.objs.size (.tup [.int (i : Nat), x]) :=
      ⟨by show 2 ≤ sizeLine; decide, [.int i tk, y], .cons ⟨_, rfl⟩ (.cons ru .nil), ⟨_, hT2, rfl, _, rfl⟩⟩
    have I1 : Inv X pins σ (upd H s.heap.objs.size (.tup [.int (i : Nat), x])) { s with heap := h'', toks := tk + 1 } :=
      I.turnedNew (ch := [e, it]) (fun b ob hb q => (sb.2 b (fun z => hb (by simp [z]))).trans (hk b ob (fun z => hb (by simp [z])) (fun z => hb (by simp [z])) q)) hf (Nat.le_refl _) new
    refine ⟨.ref s.heap.objs.size, _, I1, rfl, ⟨_, x, rfl, I.hok.fresh (Nat.le_refl _), rfl, fun ys hy => by rw [I.tuple_inj hy hq]; exact hx⟩, ⟨⟨y, ?_⟩, ?_, hne⟩, fun b hb => ?_⟩
    · have e1 : ((i + 1 : Nat) : Int) = (i : Int) + 1 := by omega
      rw [e1]; exact he'
    · obtain ⟨o, ho', r⟩ := hst'.1
      exact ⟨o, (sb.2 it (Ne.symm hne)).trans ho', r⟩
    · have hb' : b < s.heap.objs.size := by
        have e' : b = e ∨ b = it := by simpa using hb
        rcases e' with z | z
        · rw [z]; exact hel
        · rw [z]; exact hil
      rw [upd_ne (Nat.ne_of_lt hb')]
      exact (hf b hb).1
  done := by
    intro X hP hw hK hc i pins s σ H E I hf st hg
    subst hP hw hK
    obtain ⟨⟨old, he⟩, hit, hne⟩ := st
    obtain ⟨xs, hq, hx⟩ := hg
    obtain ⟨its, rv, p, hz⟩ := I.tuple hq
    obtain ⟨f0, f1, f2, f3, f4, f5⟩ := hf it (by simp)
    have hl := rv.length
    have hT : s.TypeIs (.ref e) "enumerate" := ⟨_, he, rfl⟩
    unfold pyNext
    refine wpAny_bind (wpAny_attempt (wpAny_callSpecial?_slot (name := Str.ofString "__next__") hT F.slot_enumerate_next (wpAny_call_entry F.slot_enumerate_next hT F.entry_enumerate_next ?_ (F.args_enumerate_next_1 _))))
    show wpAny _ _ (field (.ref e) 2 >>= _) _ _ _
    refine wpAny_bind (wpAny_field he rfl (x := .ref it) rfl ?_)
    refine wpAny_bind (nextOf_tup_end (I.ok.hd hc) hit (show s.heap.IsTuple a its.toArray from p) (by simp; omega) fun h' x he' hx' => ?_)
    obtain ⟨o, ho, hc'⟩ := hx'
    refine wpAny_bind (wpAny_isInstance (T := "StopIteration") (b := true) ⟨o, ho, hc'⟩ isSubtype_stop ?_)
    exact wpAny_pure ⟨rfl, I.turned (t' := s.toks) (fun b o hb q => he' b o hb q) f0 f1 f3 f4 f5⟩
  self := fun A i s Q E st h => let ⟨⟨_, he⟩, _⟩ := st; wpAny_pyIter_enum he h
def iEnumT (K : PySem.W.Frag) (ta : TA) : TI := fun σ H R => ta σ H fun vs H1 => ∃ a xs, vs = [.ref a] ∧ SqT K H1 a xs ∧ R (IteT K a) H1
theorem pi_enumT {X : Cx} {e : Expr} {ta : TA} {p pos tpos : Pos} {elts : List Expr} {kk : Nat} (hg : Gl X "enumerate") (hm : X.mg "enumerate" = none) (ha : PA X [e] ta) (hs : starEach [e] X.env = [(false, eval e X.env)] := by rfl) :
    PI X (.Tuple elts kk tpos) (.Call (.Name "enumerate" p) [e] [] pos) (iEnumT X.K ta) := by
  refine ⟨fun pins s σ H R I h => ?_⟩
  refine Call_ (ld_blt I hg hm boot_enumerate (PyProof.Rows.callWith_type1 (thn (ha.run pos pins s σ H _ I h) fun us s1 ⟨vs, H1, I1, r1, q1⟩ => ?_) hs rfl))
  obtain ⟨a, xs, ex, hq, q⟩ := q1
  subst ex
  cases r1 with
  | cons r rr =>
    cases rr
    cases r
    obtain ⟨its, rv, p', hz⟩ := I1.tuple hq
    have pt : s1.heap.IsTuple a its.toArray := p'
    have hal : a < s1.heap.objs.size := by obtain ⟨o, ho, _⟩ := pt; exact Heap.lt_size ho
    refine call_enum_tup pt fun h' he hit hsz hk => wpAny_pyIter_enum he ?_
    have I2 : Inv X pins σ H1 { s1 with heap := h' } := I1.kept (t' := s1.toks) hk
    refine ⟨s1.heap.objs.size + 1, [s1.heap.objs.size + 1, s1.heap.objs.size], _, _, H1, rfl, I2, turn_enumT a (s1.heap.objs.size + 1) s1.heap.objs.size (Nat.ne_of_lt hal) (Nat.ne_of_gt (Nat.lt_succ_of_lt hal)), ⟨⟨.none, he⟩, hit, Nat.succ_ne_self _⟩, fun b hb => ?_, q⟩
    have e' : b = s1.heap.objs.size + 1 ∨ b = s1.heap.objs.size := by simpa using hb
    have hle : s1.heap.objs.size ≤ b := by
      rcases e' with z | z
      · rw [z]; exact Nat.le_add_right _ _
      · rw [z]; exact Nat.le_refl _
    exact I1.fpOk hle (I1.hok.fresh hle)
/-- either reading of what is walked -/
theorem pi_or {X : Cx} {tg iter : Expr} {w1 w2 : TI} (h1 : PI X tg iter w1) (h2 : PI X tg iter w2) : PI X tg iter (fun σ H R => w1 σ H R ∨ w2 σ H R) :=
  ⟨fun pins s σ H R I q => q.elim (h1.run pins s σ H R I) (h2.run pins s σ H R I)⟩
theorem pg_or {X : Cx} {tg : Expr} {g1 g2 : TG} (h1 : PG X tg g1) (h2 : PG X tg g2) : PG X tg (fun v σ H Q => g1 v σ H Q ∨ g2 v σ H Q) :=
  ⟨fun pins s σ H x v Q I r q => q.elim (h1.run pins s σ H x v Q I r) (h2.run pins s σ H x v Q I r)⟩
end OR

namespace OR
abbrev Row := Int × Int
def mem (l : List Row) (x : Int) : Prop := ∃ r ∈ l, r.1 ≤ x ∧ x ≤ r.2
theorem mem_nil (x : Int) : ¬ mem [] x := fun ⟨_, h, _⟩ => nomatch h
theorem mem_cons {r : Row} {l : List Row} {x : Int} : mem (r :: l) x ↔ (r.1 ≤ x ∧ x ≤ r.2) ∨ mem l x := by
  constructor
  · rintro ⟨q, hq, h⟩
    rcases List.mem_cons.mp hq with e | e
    · subst e
      exact .inl h
    · exact .inr ⟨q, e, h⟩
  · rintro (h | ⟨q, hq, h⟩)
    · exact ⟨r, List.mem_cons_self, h⟩
    · exact ⟨q, List.mem_cons_of_mem _ hq, h⟩
theorem mem_append {l m : List Row} {x : Int} : mem (l ++ m) x ↔ mem l x ∨ mem m x := by
  constructor
  · rintro ⟨q, hq, h⟩
    rcases List.mem_append.mp hq with e | e
    · exact .inl ⟨q, e, h⟩
    · exact .inr ⟨q, e, h⟩
  · rintro (⟨q, hq, h⟩ | ⟨q, hq, h⟩)
    · exact ⟨q, List.mem_append_left _ hq, h⟩
    · exact ⟨q, List.mem_append_right _ hq, h⟩
theorem mem_same {l m : List Row} (h : ∀ r, r ∈ l ↔ r ∈ m) (x : Int) : mem l x ↔ mem m x :=
  ⟨fun ⟨q, hq, k⟩ => ⟨q, (h q).mp hq, k⟩, fun ⟨q, hq, k⟩ => ⟨q, (h q).mpr hq, k⟩⟩
theorem mem_reverse {l : List Row} {x : Int} : mem l.reverse x ↔ mem l x := mem_same (fun _ => List.mem_reverse) x
/-- the one form: in order, with a gap between any two -/
structure Nf (l : List Row) : Prop where
  ok : ∀ r ∈ l, r.1 ≤ r.2
  gap : l.Pairwise fun r s => r.2 + 1 < s.1
theorem Nf.nil : Nf [] := ⟨fun _ h => (nomatch h), .nil⟩
theorem Nf.tail {r : Row} {l : List Row} (h : Nf (r :: l)) : Nf l := ⟨fun q hq => h.ok q (List.mem_cons_of_mem _ hq), (List.pairwise_cons.mp h.gap).2⟩
theorem Nf.head {r : Row} {l : List Row} (h : Nf (r :: l)) : r.1 ≤ r.2 := h.ok r List.mem_cons_self
theorem Nf.behind {r : Row} {l : List Row} (h : Nf (r :: l)) {x : Int} (m : mem l x) : r.2 + 1 < x := by
  obtain ⟨q, hq, h1, _⟩ := m
  have := (List.pairwise_cons.mp h.gap).1 q hq
  omega
/-- the one form is told by its places -/
theorem Nf.unique : ∀ {l m : List Row}, Nf l → Nf m → (∀ x, mem l x ↔ mem m x) → l = m
  | [], [], _, _, _ => rfl
  | [], s :: m, _, hm, h => absurd ((h s.1).mpr (mem_cons.mpr (.inl ⟨Int.le_refl _, hm.head⟩))) (mem_nil _)
  | r :: l, [], hl, _, h => absurd ((h r.1).mp (mem_cons.mpr (.inl ⟨Int.le_refl _, hl.head⟩))) (mem_nil _)
  | r :: l, s :: m, hl, hm, h => by
    have lr := hl.head
    have ls := hm.head
    have least : ∀ {x}, mem (r :: l) x → r.1 ≤ x := fun {x} hx => by
      rcases mem_cons.mp hx with k | k
      · exact k.1
      · have := hl.behind k; omega
    have least' : ∀ {x}, mem (s :: m) x → s.1 ≤ x := fun {x} hx => by
      rcases mem_cons.mp hx with k | k
      · exact k.1
      · have := hm.behind k; omega
    have e1 : r.1 = s.1 := by
      have a := least ((h s.1).mpr (mem_cons.mpr (.inl ⟨Int.le_refl _, ls⟩)))
      have b := least' ((h r.1).mp (mem_cons.mpr (.inl ⟨Int.le_refl _, lr⟩)))
      omega
    have nr : ¬ mem (r :: l) (r.2 + 1) := fun k => by
      rcases mem_cons.mp k with k | k
      · omega
      · have := hl.behind k; omega
    have ns : ¬ mem (s :: m) (s.2 + 1) := fun k => by
      rcases mem_cons.mp k with k | k
      · omega
      · have := hm.behind k; omega
    have e2 : r.2 = s.2 := by
      rcases Int.lt_trichotomy r.2 s.2 with k | k | k
      · exact absurd ((h _).mpr (mem_cons.mpr (.inl ⟨by omega, by omega⟩))) nr
      · exact k
      · exact absurd ((h _).mp (mem_cons.mpr (.inl ⟨by omega, by omega⟩))) ns
    have e : r = s := Prod.ext e1 e2
    subst e
    congr 1
    refine Nf.unique hl.tail hm.tail fun x => ⟨fun k => ?_, fun k => ?_⟩
    · have b := hl.behind k
      rcases mem_cons.mp ((h x).mp (mem_cons.mpr (.inr k))) with z | z
      · omega
      · exact z
    · have b := hm.behind k
      rcases mem_cons.mp ((h x).mpr (mem_cons.mpr (.inr k))) with z | z
      · omega
      · exact z
/-- a row more behind rows in one form, which are written backwards -/
def jstep : List Row → Row → List Row
  | [], r => [r]
  | q :: t, r => if r.1 ≤ q.2 + 1 then (q.1, if r.2 > q.2 then r.2 else q.2) :: t else r :: q :: t
def jfold (l : List Row) : List Row := l.foldl jstep []
/-- what the fold keeps: acc stands backwards -/
structure Jn (acc : List Row) (done : List Row) (b : Int) : Prop where
  nf : Nf acc.reverse
  up : ∀ q ∈ acc, q.1 ≤ b
  me : ∀ x, mem acc x ↔ mem done x
theorem nf_snoc {l : List Row} {r : Row} (h : Nf l) (hr : r.1 ≤ r.2) (hg : ∀ q ∈ l, q.2 + 1 < r.1) : Nf (l ++ [r]) := by
  refine ⟨fun q hq => ?_, List.pairwise_append.mpr ⟨h.gap, List.pairwise_singleton _ _, fun a ha b hb => ?_⟩⟩
  · rcases List.mem_append.mp hq with k | k
    · exact h.ok q k
    · rw [List.mem_singleton.mp k]; exact hr
  · rw [List.mem_singleton.mp hb]; exact hg a ha
theorem nf_unsnoc {l : List Row} {r : Row} (h : Nf (l ++ [r])) : Nf l ∧ r.1 ≤ r.2 ∧ ∀ q ∈ l, q.2 + 1 < r.1 := by
  have g := List.pairwise_append.mp h.gap
  exact ⟨⟨fun q hq => h.ok q (List.mem_append_left _ hq), g.1⟩, h.ok r (List.mem_append_right _ (List.mem_singleton.mpr rfl)), fun q hq => g.2.2 q hq r (List.mem_singleton.mpr rfl)⟩
theorem Jn.step {acc done : List Row} {b : Int} {r : Row} (h : Jn acc done b) (hb : b ≤ r.1) (hr : r.1 ≤ r.2) : Jn (jstep acc r) (done ++ [r]) r.1 := by
  have tailm : ∀ x, mem [r] x ↔ (r.1 ≤ x ∧ x ≤ r.2) := fun x => by
    rw [mem_cons]
    exact ⟨fun k => k.elim id fun z => absurd z (mem_nil _), .inl⟩
  cases acc with
  | nil =>
    refine ⟨nf_snoc Nf.nil hr (fun _ z => nomatch z), fun q hq => ?_, fun x => ?_⟩
    · rw [List.mem_singleton.mp hq]; exact Int.le_refl _
    · rw [mem_append, ← h.me x]
      exact ⟨.inr, fun k => k.elim (fun z => absurd z (mem_nil _)) id⟩
  | cons q t =>
    have n := h.nf
    rw [List.reverse_cons] at n
    obtain ⟨nt, hq, gq⟩ := nf_unsnoc n
    have hqr : q.1 ≤ r.1 := Int.le_trans (h.up q List.mem_cons_self) hb
    show Jn (if r.1 ≤ q.2 + 1 then (q.1, if r.2 > q.2 then r.2 else q.2) :: t else r :: q :: t) (done ++ [r]) r.1
    by_cases c : r.1 ≤ q.2 + 1
    · rw [if_pos c]
      refine ⟨?_, fun z hz => ?_, fun x => ?_⟩
      · rw [List.reverse_cons]
        refine nf_snoc nt ?_ fun z hz => gq z hz
        show q.1 ≤ (if r.2 > q.2 then r.2 else q.2)
        split <;> omega
      · rcases List.mem_cons.mp hz with e | e
        · subst e; exact hqr
        · exact Int.le_trans (h.up z (List.mem_cons_of_mem _ e)) hb
      · rw [mem_append, ← h.me x, mem_cons, mem_cons, tailm]
        show ((q.1 ≤ x ∧ x ≤ (if r.2 > q.2 then r.2 else q.2)) ∨ mem t x) ↔ _
        constructor
        · rintro (⟨k1, k2⟩ | k)
          · by_cases hx : x ≤ q.2
            · exact .inl (.inl ⟨k1, hx⟩)
            · split at k2
              · exact .inr ⟨by omega, k2⟩
              · omega
          · exact .inl (.inr k)
        · rintro ((⟨k1, k2⟩ | k) | ⟨k1, k2⟩)
          · refine .inl ⟨k1, ?_⟩
            split <;> omega
          · exact .inr k
          · refine .inl ⟨by omega, ?_⟩
            split <;> omega
    · rw [if_neg c]
      refine ⟨?_, fun z hz => ?_, fun x => ?_⟩
      · rw [List.reverse_cons, List.reverse_cons]
        refine nf_snoc n hr fun z hz => ?_
        rcases List.mem_append.mp hz with k | k
        · have := gq z k; omega
        · rw [List.mem_singleton.mp k]; omega
      · rcases List.mem_cons.mp hz with e | e
        · subst e; exact Int.le_refl _
        · exact Int.le_trans (h.up z e) hb
      · rw [mem_append, ← h.me x, mem_cons, tailm]
        exact ⟨fun k => k.elim .inr .inl, fun k => k.elim .inr .inl⟩
theorem Jn.nil (b : Int) : Jn [] [] b := ⟨Nf.nil, fun _ h => (nomatch h), fun _ => Iff.rfl⟩
/-- the fold over rows that ascend -/
theorem jfold_go : ∀ (l acc done : List Row) (b : Int), Jn acc done b → (∀ r ∈ l, r.1 ≤ r.2) → (∀ r ∈ l, b ≤ r.1) → l.Pairwise (fun r s => r.1 ≤ s.1) → ∃ b', Jn (l.foldl jstep acc) (done ++ l) b'
  | [], acc, done, b, h, _, _, _ => ⟨b, by rw [List.append_nil]; exact h⟩
  | r :: l, acc, done, b, h, ho, hb, hs => by
    have p := List.pairwise_cons.mp hs
    obtain ⟨b', h'⟩ := jfold_go l (jstep acc r) (done ++ [r]) r.1 (h.step (hb r List.mem_cons_self) (ho r List.mem_cons_self)) (fun q hq => ho q (List.mem_cons_of_mem _ hq)) (fun q hq => p.1 q hq) p.2
    exact ⟨b', by rw [List.append_assoc] at h'; exact h'⟩
theorem jfold_ok {l : List Row} (ho : ∀ r ∈ l, r.1 ≤ r.2) (hs : l.Pairwise (fun r s => r.1 ≤ s.1)) : Nf (jfold l).reverse ∧ ∀ x, mem (jfold l).reverse x ↔ mem l x := by
  cases l with
  | nil => exact ⟨Nf.nil, fun _ => Iff.rfl⟩
  | cons r l =>
    have p := List.pairwise_cons.mp hs
    obtain ⟨b', h⟩ := jfold_go (r :: l) [] [] r.1 (Jn.nil _) ho (fun q hq => by
      rcases List.mem_cons.mp hq with e | e
      · subst e; exact Int.le_refl _
      · exact p.1 q e) hs
    exact ⟨h.nf, fun x => by rw [mem_reverse]; exact h.me x⟩
end OR

namespace OR
open PySem PySem.Spec PyProof.Rows L2
/-! ### the code of Places -/
def lastP : Int := 10 ^ 30
def placeB (n : Int) : Bool := decide (0 ≤ n) && decide (n ≤ lastP)
def okRow (r : Row) : Bool := placeB r.1 && (placeB r.2 && decide (r.1 ≤ r.2))
structure PTxt (K : PySem.W.Frag) (mg : Str → Option Value) (C : Addr) : Prop where
  cl : Cls K C
  nS : NoAttr K C "stretches"
  nF : NoAttr K C "_firsts"
  nB : NoAttr K C "_before"
  mgC : mg "Places" = some (.ref C)
  isi : SlX.SIsi K C
  kPP : PySem.W.kitOne K (.ref C) (.ref C) = some true
  zIsi : mg "isinstance" = none
  zInt : mg "int" = none
  zBool : mg "bool" = none
  zTup : mg "tuple" = none
  zList : mg "list" = none
  zLen : mg "len" = none
  zMax : mg "max" = none
  zSort : mg "sorted" = none
  zEnum : mg "enumerate" = none
  last : ∃ t, mg "LAST_PLACE" = some (.int lastP t)
theorem bt_isi : bootBuiltins ("isinstance" : Str) = some (.builtin "isinstance") := by decide +kernel
theorem bt_int : bootBuiltins ("int" : Str) = some (.type "int") := by decide +kernel
theorem bt_bool : bootBuiltins ("bool" : Str) = some (.type "bool") := by decide +kernel
theorem bt_tup : bootBuiltins ("tuple" : Str) = some (.type "tuple") := by decide +kernel
theorem bt_list : bootBuiltins ("list" : Str) = some (.type "list") := by decide +kernel
theorem bt_max : bootBuiltins ("max" : Str) = some (.builtin "max") := by decide +kernel
theorem bt_min : bootBuiltins ("min" : Str) = some (.builtin "min") := by decide +kernel
theorem bt_sorted : bootBuiltins ("sorted" : Str) = some (.builtin "sorted") := by decide +kernel
/-- any value whose type is known -/
def spIsIntG (K : PySem.W.Frag) : Sp := fun vs H Q _ => ∃ (x : V) (T : String) (b1 b2 : Bool), vs = [x] ∧ TyX K H x (.type T) ∧ kitB T "int" = some b1 ∧ kitB T "bool" = some b2 ∧ Q (.bl (b1 && !b2)) H
def spIsPlace (K : PySem.W.Frag) : Sp := fun vs H Q _ => ∃ x, vs = [x] ∧ ((∃ n, x = .int n ∧ Q (.bl (placeB n)) H) ∨ ∃ (T : String) (b1 b2 : Bool), TyX K H x (.type T) ∧ kitB T "int" = some b1 ∧ kitB T "bool" = some b2 ∧ (b1 && !b2) = false ∧ Q (.bl false) H)
/-- a pair of integers, a tuple or a list -/
def PairAt (H : Hp) (a : Addr) (r : Row) : Prop := H a = some (.tup [.int r.1, .int r.2]) ∨ H a = some (.lst [.int r.1, .int r.2])
def spIsStretchP : Sp := fun vs H Q _ => ∃ a r, vs = [.ref a] ∧ PairAt H a r ∧ ∀ H', Same H H' → Q (.bl (okRow r)) H'
section
variable {P : Program} {w : World} {K : PySem.W.Frag} {mg : Str → Option Value} {base : Heap}
theorem scIsI : FnScope ["value"] ["value"] (defScope sIsInt) := ⟨rfl, rfl, rfl, by decide +kernel, rfl, by decide +kernel, by decide +kernel⟩
theorem ok_isintG {f C : Addr} {fd : FuncData} (F : Fun K "is_integer" "is_integer" sIsInt f fd) (T : PTxt K mg C) : FnOk P w K mg base CX0 1 f fd ["value"] (spIsIntG K) := by
  refine F.ok scIsI (fun vs H Q E h => ?_) (fun cdv A outer s H vs Q E hr h => ?_)
  · obtain ⟨x, _, _, _, rfl, _⟩ := h
    rfl
  · obtain ⟨x, ty, b1, b2, rfl, hT, h1, h2, q⟩ := h
    refine ⟨_, pss_one (ps_ret (pe_and (pe_callB call_isi (by rfl) T.zIsi bt_isi (pa_cons (pv 0) (pa_cons (pe_bltn (v := .ty "int") (by rfl) T.zInt bt_int rfl) pa_nil)))
      (pe_one (pe_not (pe_callB call_isi (by rfl) T.zIsi bt_isi (pa_cons (pv 0) (pa_cons (pe_bltn (v := .ty "bool") (by rfl) T.zBool bt_bool rfl) pa_nil))))))), ?_⟩
    refine ⟨_, rfl, x, .ty "int", _, _, b1, rfl, .ty "int", hT, kit_ty h1, b1, rfl, ?_⟩
    cases b1 with
    | true => exact iteT ⟨_, rfl, x, .ty "bool", _, _, b2, rfl, .ty "bool", hT, kit_ty h2, b2, rfl, q⟩
    | false => exact iteF q
theorem scIsP : FnScope ["value"] ["value"] (defScope sIsPlace) := ⟨rfl, rfl, rfl, by decide +kernel, rfl, by decide +kernel, by decide +kernel⟩
theorem ok_isplace {f C : Addr} {fd : FuncData} (F : Fun K "is_place" "is_place" sIsPlace f fd) (T : PTxt K mg C) (I : Cl P w K mg base 1 "is_integer" ["value"] (spIsIntG K)) : FnOk P w K mg base CX0 2 f fd ["value"] (spIsPlace K) := by
  refine F.ok scIsP (fun vs H Q E h => ?_) (fun cdv A outer s H vs Q E hr h => ?_)
  · obtain ⟨x, rfl, _⟩ := h
    rfl
  · obtain ⟨x, rfl, h⟩ := h
    obtain ⟨tl, hl⟩ := T.last
    refine ⟨_, pss_one (ps_ret (pe_and (pe_cl I hr (by decide) (by rfl) (pa_cons (pv 0) pa_nil)) (pe_one (pe_chain op_le op_le pe_int (pv 0) (pe_glob (v := .int lastP) (by rfl) hl ⟨tl, rfl⟩))))), ?_⟩
    rcases h with ⟨n, rfl, q⟩ | ⟨ty, b1, b2, hT, h1, h2, hb, q⟩
    · refine ⟨_, rfl, .int n, "int", true, false, rfl, .base (.int n), by decide +kernel, by decide +kernel, true, rfl, iteT ?_⟩
      refine ⟨_, rfl, _, _, rfl, rfl, _, rfl, ?_⟩
      unfold placeB at q
      cases e : decide ((0 : Int) ≤ n) with
      | true =>
        rw [e] at q
        exact iteT ⟨_, _, rfl, rfl, q⟩
      | false =>
        rw [e] at q
        exact iteF q
    · exact ⟨_, rfl, x, ty, b1, b2, rfl, hT, h1, h2, _, rfl, by rw [hb]; exact iteF q⟩
theorem scIsS : FnScope ["value", "first", "last"] ["value"] (defScope sIsStretch) := ⟨rfl, rfl, rfl, by decide +kernel, rfl, by decide +kernel, by decide +kernel⟩
theorem ok_isstretch {f C : Addr} {fd : FuncData} (F : Fun K "_is_stretch" "_is_stretch" sIsStretch f fd) (T : PTxt K mg C) (I : Cl P w K mg base 2 "is_place" ["value"] (spIsPlace K)) : FnOk P w K mg base CX0 3 f fd ["value"] spIsStretchP := by
  refine F.ok scIsS (fun vs H Q E h => ?_) (fun cdv A outer s H vs Q E hr h => ?_)
  · obtain ⟨a, r, rfl, _⟩ := h
    rfl
  · obtain ⟨a, r, rfl, hp, q⟩ := h
    have nd := scIsS.nd
    refine ⟨_, pss_cons (ps_if (PW.pt (pw_or (pt_not (pt_val (pe_callB call_isiT (by rfl) T.zIsi bt_isi (pa_cons (pv 0) (pa_cons (pe_tup (pa_cons (pe_bltn (v := .ty "tuple") (by rfl) T.zTup bt_tup rfl) (pa_cons (pe_bltn (v := .ty "list") (by rfl) T.zList bt_list rfl) pa_nil))) pa_nil)))))
        (pw_or1 (pt_cmpR op_ne (pe_callB call_len_seq (by rfl) T.zLen PySem.boot_len (pa_cons (pv 0) pa_nil)) pe_int (nomark _))))) (pss_one (ps_ret pe_bl)) pss_nil)
      (pss_cons (ps_asg (pv 0) (pg_or (pg_tup rfl (pgs_cons (pg_name (i := 1) nd rfl (.inl rfl)) (pgs_cons (pg_name (i := 2) nd rfl (.inl rfl)) pgs_nil))) (pg_unl rfl (pgs_cons (pg_name (i := 1) nd rfl (.inl rfl)) (pgs_cons (pg_name (i := 2) nd rfl (.inl rfl)) pgs_nil)))))
      (pss_one (ps_ret (pe_and (pe_cl I hr (by decide) (by rfl) (pa_cons (pv 1) pa_nil)) (pe_and (pe_cl I hr (by decide) (by rfl) (pa_cons (pv 2) pa_nil)) (pe_one (pe_cmpR op_le (pv 1) (pv 2) (nomark _)))))))), ?_⟩
    refine ⟨_, rfl, by show 2 ≤ sizeLine; decide, fun t ht => ?_⟩
    have S1 : Same H (upd H t (.tup [.ty "tuple", .ty "list"])) := fun b o e => by rw [upd_ne (ne_of_none e ht)]; exact e
    have hp1 : PairAt (upd H t (.tup [.ty "tuple", .ty "list"])) a r := hp.elim (fun e => .inl (S1 _ _ e)) fun e => .inr (S1 _ _ e)
    have hseq : SqL K (upd H t (.tup [.ty "tuple", .ty "list"])) a [.int r.1, .int r.2] ∨ SqT K (upd H t (.tup [.ty "tuple", .ty "list"])) a [.int r.1, .int r.2] := hp1.elim (fun e => .inr (.inl (.inl e))) fun e => .inl (.inl (.inl e))
    have hty : ∃ T, TyX K (upd H t (.tup [.ty "tuple", .ty "list"])) (.ref a) (.type T) ∧ PySem.W.kitAny K (.type T) [.type "tuple", .type "list"] = some true := by
      rcases hp1 with e | e
      · exact ⟨"tuple", .base (.tup e), kitAny_cons (kit_ty (b := "tuple") (r := true) (by decide +kernel)) (fun z => nomatch z) fun _ => rfl⟩
      · exact ⟨"list", .base (.lst e), kitAny_cons (kit_ty (b := "tuple") (r := false) (by decide +kernel)) (fun _ => kitAny_cons (kit_ty (b := "list") (r := true) (by decide +kernel)) (fun z => nomatch z) fun _ => rfl) fun z => nomatch z⟩
    obtain ⟨ty, hT, hk⟩ := hty
    refine ⟨.ref a, t, _, .type ty, [.type "tuple", .type "list"], true, rfl, upd_same, .cons (.ty "tuple") (.cons (.ty "list") .nil), hT, hk, true, rfl, iteF ?_⟩
    refine ⟨_, rfl, a, _, rfl, hseq, rfl, _, rfl, iteNS rfl ?_⟩
    have fin : ∀ (Q' : Prop), (Q (.bl (okRow r)) (upd H t (.tup [.ty "tuple", .ty "list"])) → Q') → Q' := fun Q' k => k (q _ S1)
    have tail : ∀ σ : L2.St, σ = [some (.ref a), some (.int r.1), some (.int r.2)] → (tRet (tAndV (tCall (spIsPlace K) [] E0 (tCons (tVar 1) tNil)) (tAndV (tCall (spIsPlace K) [] E0 (tCons (tVar 2) tNil)) (tOp (rI0 fun i j => .bl (decide (i ≤ j))) (tVar 1) (tVar 2))))) { nx := fun _ H' => Q .non H', rt := Q } σ (upd H t (.tup [.ty "tuple", .ty "list"])) := by
      intro σ e
      subst e
      refine ⟨_, rfl, _, rfl, .inl ⟨r.1, rfl, _, rfl, ?_⟩⟩
      have q1 := q _ S1
      unfold okRow at q1
      cases e1 : placeB r.1 with
      | false => rw [e1] at q1; exact iteF q1
      | true =>
        rw [e1] at q1
        refine iteT ⟨_, rfl, _, rfl, .inl ⟨r.2, rfl, _, rfl, ?_⟩⟩
        cases e2 : placeB r.2 with
        | false => rw [e2] at q1; exact iteF q1
        | true =>
          rw [e2] at q1
          exact iteT ⟨_, rfl, _, rfl, _, _, rfl, rfl, q1⟩
    rcases hp1 with e | e
    · exact ⟨_, rfl, .inl ⟨a, _, rfl, .inl (.inl e), rfl, _, _, rfl, _, _, rfl, rfl, tail _ rfl⟩⟩
    · exact ⟨_, rfl, .inr ⟨a, _, rfl, .inl (.inl e), rfl, _, _, rfl, _, _, rfl, rfl, tail _ rfl⟩⟩
end
end OR

namespace OR
open PySem PySem.Spec PyProof.Rows L2
/-- all but what stands at p is as it was -/
def Fre (p : Addr) (H H' : Hp) : Prop := ∀ b o, H b = some o → b ≠ p → H' b = some o
theorem Fre.refl (p : Addr) (H : Hp) : Fre p H H := fun _ _ h _ => h
theorem Fre.trans {p : Addr} {H H1 H2 : Hp} (a : Fre p H H1) (b : Fre p H1 H2) : Fre p H H2 := fun c o h n => b c o (a c o h n) n
theorem Fre.put {p : Addr} {H : Hp} {o : HO} : Fre p H (upd H p o) := fun b x e n => by rw [upd_ne n]; exact e
/-! ### rows of pairs in the heap -/
abbrev ARow := Addr × Row
def refs (L : List ARow) : List V := L.map fun p => V.ref p.1
def rws (L : List ARow) : List Row := L.map (·.2)
def AtR (H : Hp) (L : List ARow) : Prop := ∀ p ∈ L, H p.1 = some (.tup [.int p.2.1, .int p.2.2])
def PairsAt (H : Hp) (L : List ARow) : Prop := ∀ p ∈ L, PairAt H p.1 p.2
theorem AtR.same {H H' : Hp} {L : List ARow} (h : AtR H L) (s : Same H H') : AtR H' L := fun p hp => s _ _ (h p hp)
theorem PairsAt.same {H H' : Hp} {L : List ARow} (h : PairsAt H L) (s : Same H H') : PairsAt H' L := fun p hp => (h p hp).elim (fun e => .inl (s _ _ e)) fun e => .inr (s _ _ e)
theorem AtR.pairs {H : Hp} {L : List ARow} (h : AtR H L) : PairsAt H L := fun p hp => .inl (h p hp)
theorem refs_len (L : List ARow) : (refs L).length = L.length := List.length_map ..
theorem rws_len (L : List ARow) : (rws L).length = L.length := List.length_map ..
theorem refs_snoc (L : List ARow) (p : ARow) : refs (L ++ [p]) = refs L ++ [.ref p.1] := by unfold refs; rw [List.map_append]; rfl
theorem rws_snoc (L : List ARow) (p : ARow) : rws (L ++ [p]) = rws L ++ [p.2] := by unfold rws; rw [List.map_append]; rfl
theorem refs_get {L : List ARow} {i : Nat} {v : V} (h : (refs L)[i]? = some v) : ∃ p, L[i]? = some p ∧ p ∈ L ∧ v = .ref p.1 := by
  unfold refs at h
  rw [List.getElem?_map] at h
  cases e : L[i]? with
  | none => rw [e] at h; cases h
  | some p => rw [e] at h; exact ⟨p, rfl, List.mem_of_getElem? e, (Option.some.inj h).symm⟩
theorem rws_get {L : List ARow} {i : Nat} {p : ARow} (h : L[i]? = some p) : (rws L)[i]? = some p.2 := by
  unfold rws
  rw [List.getElem?_map, h]
  rfl
theorem mem_rws {L : List ARow} {r : Row} : r ∈ rws L ↔ ∃ a, (a, r) ∈ L := by
  unfold rws
  rw [List.mem_map]
  exact ⟨fun ⟨p, hp, e⟩ => ⟨p.1, by rw [← e]; exact hp⟩, fun ⟨a, h⟩ => ⟨(a, r), h, rfl⟩⟩
/-- what a reference to a pair is worth -/
def kOf (H : Hp) : V → Int × Int
  | .ref a => match H a with
    | some (.tup [.int x, .int y]) => (x, y)
    | _ => (0, 0)
  | _ => (0, 0)
theorem kOf_at {H : Hp} {a : Addr} {x y : Int} (h : H a = some (.tup [.int x, .int y])) : kOf H (.ref a) = (x, y) := by
  show (match H a with
    | some (.tup [.int x, .int y]) => (x, y)
    | _ => (0, 0)) = (x, y)
  rw [h]
def adr : V → Addr
  | .ref a => a
  | _ => 0
/-- an arrangement of references is one of rows -/
theorem refs_perm {H : Hp} {M : List ARow} {ys : List V} (hM : AtR H M) (hp : ys.Perm (refs M)) : ∃ S : List ARow, ys = refs S ∧ AtR H S ∧ (∀ r, r ∈ rws S ↔ r ∈ rws M) ∧ S.length = M.length ∧ rws S = ys.map (kOf H) := by
  have each : ∀ y ∈ ys, ∃ p ∈ M, y = .ref p.1 ∧ kOf H y = p.2 := fun y hy => by
    have := hp.mem_iff.mp hy
    unfold refs at this
    obtain ⟨p, hpM, e⟩ := List.mem_map.mp this
    subst e
    exact ⟨p, hpM, rfl, kOf_at (hM p hpM)⟩
  have back : ∀ p ∈ M, V.ref p.1 ∈ ys := fun p hpM => hp.mem_iff.mpr (List.mem_map.mpr ⟨p, hpM, rfl⟩)
  refine ⟨ys.map fun y => (adr y, kOf H y), ?_, ?_, fun r => ?_, ?_, ?_⟩
  · unfold refs
    rw [List.map_map]
    refine Eq.trans (List.map_id ys).symm (List.map_congr_left fun y hy => ?_)
    obtain ⟨p, _, rfl, _⟩ := each y hy
    rfl
  · intro q hq
    obtain ⟨y, hy, e⟩ := List.mem_map.mp hq
    obtain ⟨p, hpM, rfl, k⟩ := each y hy
    subst e
    show H p.1 = some (.tup [.int (kOf H (.ref p.1)).1, .int (kOf H (.ref p.1)).2])
    rw [k]
    exact hM p hpM
  · unfold rws
    rw [List.map_map, List.mem_map, List.mem_map]
    constructor
    · rintro ⟨y, hy, e⟩
      obtain ⟨p, hpM, rfl, k⟩ := each y hy
      exact ⟨p, hpM, by rw [← e]; exact k.symm⟩
    · rintro ⟨p, hpM, e⟩
      exact ⟨.ref p.1, back p hpM, by rw [← e]; exact kOf_at (hM p hpM)⟩
  · rw [List.length_map, hp.length_eq, refs_len]
  · unfold rws
    rw [List.map_map]
    rfl
theorem jstep_len : ∀ (acc : List Row) (r : Row), (jstep acc r).length ≤ acc.length + 1
  | [], r => Nat.le_refl _
  | q :: t, r => by
    show (if r.1 ≤ q.2 + 1 then (q.1, if r.2 > q.2 then r.2 else q.2) :: t else r :: q :: t).length ≤ _
    split
    · exact Nat.le_succ _
    · exact Nat.le_refl _
theorem jfold_len : ∀ (l acc : List Row), (l.foldl jstep acc).length ≤ acc.length + l.length
  | [], acc => Nat.le_refl _
  | r :: l, acc => by
    have h1 := jfold_len l (jstep acc r)
    have h2 := jstep_len acc r
    show (l.foldl jstep (jstep acc r)).length ≤ _
    rw [List.length_cons]
    omega
theorem ixN_last (n : Nat) : ixN (n + 1) (-1) = some n := by
  unfold ixN
  rw [if_neg (by omega), if_pos (by omega)]
  congr 1
  omega
theorem set_last (xs : List V) (v u : V) : (xs ++ [v]).set xs.length u = xs ++ [u] := by
  rw [List.set_append_right _ _ (Nat.le_refl _), Nat.sub_self]
  rfl
def rTupOf (K : PySem.W.Frag) : List V → Hp → VK → Prop := fun xs H Q => ∃ p ys, xs = [.ref p] ∧ ((SqL K H p ys ∧ ∀ l, H l = none → Q (.ref l) (upd H l (.tup ys))) ∨ (SqT K H p ys ∧ Q (.ref p) H))
theorem call_tupOf {X : Cx} (K : PySem.W.Frag) (h : X.K = K) : CallR X (.type "tuple") (rTupOf K) := by
  subst h
  exact call_tuple_of
theorem yesT {σ : L2.St} {H : Hp} {A B : Hp → Prop} (h : A H) : tYes σ H (fun b H3 => if b = true then A H3 else B H3) := by
  show if true = true then A H else B H
  rw [if_pos rfl]
  exact h
theorem same_upd {H H' : Hp} {b : Addr} {u : HO} (s : Same H H') (h : H b = none) : Same H (upd H' b u) := fun c v e => by rw [upd_ne (ne_of_none e h)]; exact s c v e
theorem same_lay {H : Hp} {q : Addr} {o : HO} (h : H q = none) : Same H (upd H q o) := fun b x e => by rw [upd_ne (ne_of_none e h)]; exact e
theorem sameT {K : PySem.W.Frag} {H H' : Hp} {a : Addr} {xs : List V} (e : Same H H') (h : SqT K H a xs) : SqT K H' a xs := by
  rcases h with (h | ⟨o, h⟩) | h
  · exact .inl (.inl (e _ _ h))
  · exact .inl (.inr ⟨o, e _ _ h⟩)
  · exact .inr h
def spJoined (K : PySem.W.Frag) : Sp := fun vs H Q _ => ∃ (a : Addr) (L : List ARow), vs = [.ref a] ∧ (SqL K H a (refs L) ∨ SqT K H a (refs L)) ∧ L.length ≤ 1000 ∧ PairsAt H L ∧ (∀ r ∈ rws L, r.1 ≤ r.2) ∧
  ∀ (t : Addr) (M : List ARow) (H' : Hp), Same H H' → H t = none → H' t = some (.tup (refs M)) → AtR H' M → Nf (rws M) → (∀ x, mem (rws M) x ↔ mem (rws L) x) → M.length ≤ L.length → Q (.ref t) H'
section
variable {P : Program} {w : World} {K : PySem.W.Frag} {mg : Str → Option Value} {base : Heap}
theorem scJ : FnScope ["stretches", "rows", "first", "last", "stretch"] ["stretches"] (defScope sJoined) := ⟨rfl, rfl, rfl, by decide +kernel, rfl, by decide +kernel, by decide +kernel⟩
theorem small_l {n : Nat} (h : n ≤ 1000) : n ≤ sizeLine := Nat.le_of_lt (small1000 h)
theorem ok_joined {f C : Addr} {fd : FuncData} (F : Fun K "_joined" "_joined" sJoined f fd) (T : PTxt K mg C) : FnOk P w K mg base CX0 1 f fd ["stretches"] (spJoined K) := by
  refine F.ok scJ (fun vs H Q E h => ?_) (fun cdv A outer s H vs Q E hr h => ?_)
  · obtain ⟨a, L, rfl, _⟩ := h
    rfl
  · obtain ⟨a, L, rfl, hS, hlen, hP, hok, q⟩ := h
    have nd := scJ.nd
    refine ⟨_, pss_cons (ps_set (i := 1) nd rfl (.inl rfl) (pe_lst pa_nil))
      (pss_cons (ps_for PassesOwn.never rfl (pi_list (pe_callB cr_sortedPO (by rfl) T.zSort bt_sorted (pa_cons
            (pe_lc (own := [("stretch", 4)]) (g := gName 4) (tt := tYes) rfl nd (pi_or (pi_list (pv 0)) (pi_tup (pv 0))) (blkOk_by (N := ["stretches", "rows", "first", "last", "stretch"]) (sc := defScope sJoined) (by decide +kernel))
              (fun _ _ _ _ _ => pg_name (i := 4) nd rfl (.inl rfl)) (fun _ _ _ _ _ => pts_nil) (fun _ _ _ _ _ => pe_callTy (call_tupOf K rfl) (by rfl) T.zTup bt_tup (pa_cons (pv 4) pa_nil))) pa_nil)))
          (pg_tup rfl (pgs_cons (pg_name (i := 2) nd rfl (.inl rfl)) (pgs_cons (pg_name (i := 3) nd rfl (.inl rfl)) pgs_nil)))
        (pss_one (ps_if (PW.pt (pw_and (pt_truth (pv 1) (by intro _; rfl)) (pw_and1 (pt_cmpR op_le (pv 2) (pe_op op_add (pe_ix ix_tup (pe_ix ix_list (pv 1) (pe_un un_neg pe_int) (fun _ _ => rfl)) pe_int (fun _ _ => rfl)) pe_int) (nomark _)))))
          (pss_one (ps_asg (pe_tup (pa_cons (pe_ix ix_tup (pe_ix ix_list (pv 1) (pe_un un_neg pe_int) (fun _ _ => rfl)) pe_int (fun _ _ => rfl))
              (pa_cons (pe_callB (call_max2 rfl) (by rfl) T.zMax bt_max (pa_cons (pe_ix ix_tup (pe_ix ix_list (pv 1) (pe_un un_neg pe_int) (fun _ _ => rfl)) pe_int (fun _ _ => rfl)) (pa_cons (pv 3) pa_nil))) pa_nil)))
            (pg_sub (pv 1) (pe_un un_neg pe_int) set_list)))
          (pss_one (ps_expr (pe_bm PySem.F.plainAttrs_list PySem.F.slot_list_append PySem.F.type_list_append mt_append (pv 1) (pa_cons (pe_tup (pa_cons (pv 2) (pa_cons (pv 3) pa_nil))) pa_nil)))))))
      (pss_one (ps_ret (pe_callTy call_tuple_of (by rfl) T.zTup bt_tup (pa_cons (pv 1) pa_nil))))), ?_⟩
    refine ⟨Nat.zero_le _, fun o no => ?_⟩
    have S1 : Same H (upd H o (.lst [])) := fun b u e => by rw [upd_ne (ne_of_none e no)]; exact e
    rcases hS with hS | hS
    · refine .inl ⟨_, rfl, a, rfl, ⟨_, S1.seq hS⟩, fun D hD => lc_list (K := K) (a := a) (xs := refs L) (fun i H2 => ∃ M : List ARow, H2 D = some (.lst (refs M)) ∧ AtR H2 M ∧ rws M = (rws L).take i ∧ Same (upd H o (.lst [])) H2)
        ⟨[], upd_same, (fun _ z => nomatch z), rfl, same_lay hD⟩ (fun i H2 _ ⟨_, _, _, _, s⟩ => s.seq (S1.seq hS)) ?_ ?_⟩
      · intro i x H2 hx hI
        obtain ⟨M, hD2, hM, eM, s2⟩ := hI
        obtain ⟨p, hp, hpL, rfl⟩ := refs_get hx
        have hil : i < L.length := (List.getElem?_eq_some_iff.mp hp).1
        have hlM : M.length = i := by
          rw [← rws_len M, eM, List.length_take, rws_len]
          omega
        have e1 : (rws L).take (i + 1) = (rws L).take i ++ [p.2] := by rw [List.take_add_one, rws_get hp]; rfl
        have nDp : ∀ q ∈ M, q.1 ≠ D := fun q hq => ne_of (hM q hq) hD2 (by intro z; cases z)
        refine ⟨rfl, yesT ?_⟩
        refine ⟨_, rfl, p.1, [.int p.2.1, .int p.2.2], rfl, ?_⟩
        rcases hP p hpL with e | e
        · have e3 := s2 _ _ (S1 _ _ e)
          refine .inr ⟨.inl (.inl e3), refs M, hD2, small1000 (by rw [refs_len, hlM]; omega), M ++ [p], ?_, ?_, ?_, same_upd s2 hD⟩
          · rw [upd_same, refs_snoc]
          · intro q hq
            rcases List.mem_append.mp hq with k | k
            · rw [upd_ne (nDp q k)]; exact hM q k
            · rw [List.mem_singleton.mp k, upd_ne (ne_of e3 hD2 (by intro z; cases z))]; exact e3
          · rw [rws_snoc, eM, e1]
        · have e3 := s2 _ _ (S1 _ _ e)
          refine .inl ⟨.inl (.inl e3), fun l hl => ?_⟩
          have nDl : D ≠ l := ne_of_none hD2 hl
          have s3 := same_lay (o := .tup [.int p.2.1, .int p.2.2]) hl
          refine ⟨refs M, s3 _ _ hD2, small1000 (by rw [refs_len, hlM]; omega), M ++ [(l, p.2)], ?_, ?_, ?_, same_upd (s2.trans s3) hD⟩
          · rw [upd_same, refs_snoc]
          · intro q hq
            rcases List.mem_append.mp hq with k | k
            · rw [upd_ne (nDp q k)]; exact s3 _ _ (hM q k)
            · rw [List.mem_singleton.mp k, upd_ne nDl.symm, upd_same]
          · rw [rws_snoc, eM, e1]
      · intro H2 hI
        obtain ⟨M, hD2, hM, eM, s2⟩ := hI
        rw [refs_len, List.take_of_length_le (by rw [rws_len]; exact Nat.le_refl _)] at eM
        have no2 : H2 o = some (.lst []) := s2 _ _ upd_same
        have lM : M.length = L.length := by rw [← rws_len M, eM, rws_len]
        -- sorted
        refine ⟨D, refs M, kOf H2, rfl, .inl (.inl hD2), fun y hy => ?_, fun ys p hs hb np => ?_⟩
        · unfold refs at hy
          obtain ⟨z, hz, rfl⟩ := List.mem_map.mp hy
          exact ⟨z.1, rfl, by rw [kOf_at (hM z hz)]; exact hM z hz⟩
        obtain ⟨S, rfl, hSA, hSm, hSl, hSk⟩ := refs_perm hM hb.perm
        have hso : (rws S).Pairwise fun r s => r.1 ≤ s.1 := by
          rw [hSk]
          refine List.pairwise_map.mpr (hs.imp fun {x y} hxy => ?_)
          have := SrtO.lexB_no.mp hxy
          omega
        have hSok : ∀ r ∈ rws S, r.1 ≤ r.2 := fun r hr => hok r (by rw [← eM]; exact (hSm r).mp hr)
        obtain ⟨hnf, hme⟩ := jfold_ok hSok hso
        have s3 := same_lay (o := .lst (refs S)) np
        have nop : o ≠ p := ne_of_none no2 np
        refine ⟨p, rfl, ⟨_, .inl (.inl upd_same)⟩, for_list (K := K) (a := p) (xs := refs S) (fun i σ H' => ∃ f l, ∃ A : List ARow, σ = [some (.ref a), some (.ref o), f, l, none] ∧ H' o = some (.lst (refs A)) ∧ AtR H' A ∧ rws A = (((rws S).take i).foldl jstep []).reverse ∧ Fre o (upd H2 p (.lst (refs S))) H' ∧ A.length ≤ i)
          ⟨none, none, [], rfl, by rw [upd_ne nop]; exact no2, (fun _ z => nomatch z), rfl, Fre.refl _ _, Nat.le_refl _⟩ (fun i σ H' _ ⟨_, _, _, _, _, _, _, fr, _⟩ => .inl (.inl (fr _ _ upd_same nop.symm))) ?_ ?_⟩
        · rintro i y σ H' hy ⟨f, l, A, rfl, hoA, hA, eA, fr, hAl⟩
          obtain ⟨z, hz, hzS, rfl⟩ := refs_get hy
          have hil : i < S.length := (List.getElem?_eq_some_iff.mp hz).1
          have ez : H' z.1 = some (.tup [.int z.2.1, .int z.2.2]) := fr _ _ (s3 _ _ (hSA z hzS)) (ne_of (hSA z hzS) no2 (by intro q; cases q))
          have e1 : ((rws S).take (i + 1)).foldl jstep [] = jstep (((rws S).take i).foldl jstep []) z.2 := by
            rw [List.take_add_one, rws_get hz, List.foldl_append]
            rfl
          have nAo : ∀ q ∈ A, q.1 ≠ o := fun q hq => ne_of (hA q hq) hoA (by intro w; cases w)
          refine ⟨z.1, _, rfl, .inl (.inl ez), rfl, _, _, rfl, _, _, rfl, rfl, ?_⟩
          refine ⟨_, rfl, !(refs A).isEmpty, .inl ⟨refs A, .inl (.inl hoA), rfl⟩, ?_⟩
          -- the row goes to the end
          have app : ∀ (hj : jstep (((rws S).take i).foldl jstep []) z.2 = z.2 :: ((rws S).take i).foldl jstep []) (T : Addr), H' T = none →
              ∃ f' l', ∃ A' : List ARow, [some (V.ref a), some (.ref o), some (.int z.2.1), some (.int z.2.2), none] = [some (.ref a), some (.ref o), f', l', none] ∧ (upd (upd H' T (.tup [.int z.2.1, .int z.2.2])) o (.lst (refs A ++ [.ref T]))) o = some (.lst (refs A')) ∧ AtR (upd (upd H' T (.tup [.int z.2.1, .int z.2.2])) o (.lst (refs A ++ [.ref T]))) A' ∧
                rws A' = (((rws S).take (i + 1)).foldl jstep []).reverse ∧ Fre o (upd H2 p (.lst (refs S))) (upd (upd H' T (.tup [.int z.2.1, .int z.2.2])) o (.lst (refs A ++ [.ref T]))) ∧ A'.length ≤ i + 1 := by
            intro hj Tn hT
            have s4 := same_lay (o := .tup [.int z.2.1, .int z.2.2]) hT
            have noT : Tn ≠ o := by
              intro e
              rw [e] at hT
              rw [hT] at hoA
              cases hoA
            refine ⟨_, _, A ++ [(Tn, z.2)], rfl, by rw [upd_same, refs_snoc], ?_, ?_, (fr.trans (fun b u e _ => s4 b u e)).trans Fre.put, by rw [List.length_append]; exact Nat.succ_le_succ hAl⟩
            · intro q hq
              rcases List.mem_append.mp hq with k | k
              · rw [upd_ne (nAo q k)]; exact s4 _ _ (hA q k)
              · rw [List.mem_singleton.mp k, upd_ne noT, upd_same]
            · rw [rws_snoc, eA, e1, hj, List.reverse_cons]
          have alen : (refs A).length < sizeLine := small1000 (by rw [refs_len]; omega)
          have two : 2 ≤ sizeLine := by decide
          cases hacc : ((rws S).take i).foldl jstep [] with
          | nil =>
            have eA0 : A = [] := by
              rw [hacc] at eA
              exact List.map_eq_nil_iff.mp eA
            refine ite2 (fun k => ?_) (fun _ => iteF ?_)
            · rw [eA0] at k
              exact absurd k (by decide)
            · refine ⟨_, rfl, .inl ⟨rfl, _, .inl (.inl hoA)⟩, _, rfl, _, rfl, two, fun Tn hT => ?_⟩
              refine ⟨o, refs A, _, rfl, rfl, same_lay hT _ _ hoA, alen, ?_⟩
              exact app (by rw [hacc]; rfl) Tn hT
          | cons q0 t0 =>
            have eA1 : rws A = t0.reverse ++ [q0] := by rw [eA, hacc, List.reverse_cons]
            obtain ⟨B, A2, rfl, eB, eA2⟩ := List.map_eq_append_iff.mp eA1
            obtain ⟨⟨aq, q1⟩, A3, rfl, eq1, eA3⟩ := List.map_eq_cons_iff.mp eA2
            obtain rfl := List.map_eq_nil_iff.mp eA3
            obtain rfl : q1 = q0 := eq1
            have haq : H' aq = some (.tup [.int q1.1, .int q1.2]) := hA (aq, q1) (List.mem_append_right _ (List.mem_singleton.mpr rfl))
            rw [refs_snoc] at hoA
            have hSo : SqL K H' o (refs B ++ [.ref aq]) := .inl (.inl hoA)
            have hSq : SqT K H' aq [.int q1.1, .int q1.2] := .inl (.inl haq)
            have g0 : atI [V.int q1.1, .int q1.2] 0 = some (.int q1.1) := atI_nat (j := 0) rfl
            have g1 : atI [V.int q1.1, .int q1.2] 1 = some (.int q1.2) := atI_nat (j := 1) rfl
            have gl : atI (refs B ++ [V.ref aq]) (-1) = some (.ref aq) := atI_last _ _
            refine ite2 (fun _ => ?_) (fun k => ?_)
            · refine ⟨_, rfl, _, rfl, 1, rfl, o, _, -1, _, rfl, rfl, hSo, gl, aq, _, 1, _, rfl, rfl, hSq, g1, _, _, rfl, rfl, _, _, rfl, rfl, _, rfl, ite2 (fun c => ?_) (fun c => ?_)⟩
              · have hc : z.2.1 ≤ q1.2 + 1 := of_decide_eq_true c
                refine ⟨_, rfl, 1, rfl, o, _, -1, _, rfl, rfl, hSo, gl, aq, _, 0, _, rfl, rfl, hSq, g0, _, rfl, 1, rfl, o, _, -1, _, rfl, rfl, hSo, gl, aq, _, 1, _, rfl, rfl, hSq, g1, _, rfl, _, _, rfl, two, fun Tn hT => ?_⟩
                have s4 := same_lay (o := .tup [.int q1.1, .int (if z.2.2 > q1.2 then z.2.2 else q1.2)]) hT
                have noT : Tn ≠ o := by
                  intro e
                  rw [e] at hT
                  rw [hT] at hoA
                  cases hoA
                have ixe : ixN (refs B ++ [V.ref aq]).length (-1) = some (refs B).length := by
                  rw [List.length_append]
                  exact ixN_last _
                refine ⟨_, rfl, 1, rfl, o, _, -1, _, rfl, rfl, s4 _ _ hoA, ixe, ?_⟩
                refine ⟨_, _, B ++ [(Tn, (q1.1, if z.2.2 > q1.2 then z.2.2 else q1.2))], rfl, by rw [upd_same, set_last, refs_snoc], ?_, ?_, (fr.trans (fun b u e _ => s4 b u e)).trans Fre.put, ?_⟩
                · intro q hq
                  rcases List.mem_append.mp hq with k | k
                  · rw [upd_ne (nAo q (List.mem_append_left _ k))]; exact s4 _ _ (hA q (List.mem_append_left _ k))
                  · rw [List.mem_singleton.mp k, upd_ne noT, upd_same]
                · rw [rws_snoc, e1, hacc]
                  show rws B ++ [(q1.1, if z.2.2 > q1.2 then z.2.2 else q1.2)] = (if z.2.1 ≤ q1.2 + 1 then (q1.1, if z.2.2 > q1.2 then z.2.2 else q1.2) :: t0 else z.2 :: q1 :: t0).reverse
                  rw [if_pos hc, List.reverse_cons]
                  exact congrArg (· ++ [(q1.1, if z.2.2 > q1.2 then z.2.2 else q1.2)]) eB
                · rw [List.length_append] at hAl ⊢
                  exact Nat.le_succ_of_le hAl
              · have hc : ¬ z.2.1 ≤ q1.2 + 1 := fun w => c (decide_eq_true w)
                refine ⟨_, rfl, .inl ⟨rfl, _, .inl (.inl hoA)⟩, _, rfl, _, rfl, two, fun Tn hT => ?_⟩
                refine ⟨o, _, _, rfl, rfl, same_lay hT _ _ hoA, by rw [← refs_snoc]; exact alen, ?_⟩
                rw [← refs_snoc]
                refine app ?_ Tn hT
                rw [hacc]
                show (if z.2.1 ≤ q1.2 + 1 then (q1.1, if z.2.2 > q1.2 then z.2.2 else q1.2) :: t0 else z.2 :: q1 :: t0) = z.2 :: q1 :: t0
                rw [if_neg hc]
            · exfalso
              apply k
              rw [refs_snoc]
              simp
        · rintro σ H' ⟨f, l, A, rfl, hoA, hA, eA, fr, hAl⟩
          rw [refs_len, List.take_of_length_le (by rw [rws_len]; exact Nat.le_refl _)] at eA
          have eN : rws A = (jfold (rws S)).reverse := eA
          refine ⟨_, rfl, o, refs A, rfl, .inl ⟨.inl (.inl hoA), fun t ht => ?_⟩⟩
          have s5 := same_lay (o := .tup (refs A)) ht
          have s6 : Same H H' := fun b u e => fr b u (s3 b u (s2 b u (S1 b u e))) (ne_of_none e no)
          refine q t A _ (s6.trans s5) (s6.free ht) upd_same (hA.same s5) (by rw [eN]; exact hnf) (fun x => ?_) ?_
          · rw [eN, hme x, ← eM]
            exact mem_same hSm x
          · rw [refs_len] at hAl
            omega
    · refine .inr ⟨_, rfl, a, rfl, ⟨_, sameT S1 hS⟩, fun D hD => lc_tup (K := K) (a := a) (xs := refs L) (fun i H2 => ∃ M : List ARow, H2 D = some (.lst (refs M)) ∧ AtR H2 M ∧ rws M = (rws L).take i ∧ Same (upd H o (.lst [])) H2)
        ⟨[], upd_same, (fun _ z => nomatch z), rfl, same_lay hD⟩ (fun i H2 _ ⟨_, _, _, _, s⟩ => sameT s (sameT S1 hS)) ?_ ?_⟩
      · intro i x H2 hx hI
        obtain ⟨M, hD2, hM, eM, s2⟩ := hI
        obtain ⟨p, hp, hpL, rfl⟩ := refs_get hx
        have hil : i < L.length := (List.getElem?_eq_some_iff.mp hp).1
        have hlM : M.length = i := by
          rw [← rws_len M, eM, List.length_take, rws_len]
          omega
        have e1 : (rws L).take (i + 1) = (rws L).take i ++ [p.2] := by rw [List.take_add_one, rws_get hp]; rfl
        have nDp : ∀ q ∈ M, q.1 ≠ D := fun q hq => ne_of (hM q hq) hD2 (by intro z; cases z)
        refine ⟨rfl, yesT ?_⟩
        refine ⟨_, rfl, p.1, [.int p.2.1, .int p.2.2], rfl, ?_⟩
        rcases hP p hpL with e | e
        · have e3 := s2 _ _ (S1 _ _ e)
          refine .inr ⟨.inl (.inl e3), refs M, hD2, small1000 (by rw [refs_len, hlM]; omega), M ++ [p], ?_, ?_, ?_, same_upd s2 hD⟩
          · rw [upd_same, refs_snoc]
          · intro q hq
            rcases List.mem_append.mp hq with k | k
            · rw [upd_ne (nDp q k)]; exact hM q k
            · rw [List.mem_singleton.mp k, upd_ne (ne_of e3 hD2 (by intro z; cases z))]; exact e3
          · rw [rws_snoc, eM, e1]
        · have e3 := s2 _ _ (S1 _ _ e)
          refine .inl ⟨.inl (.inl e3), fun l hl => ?_⟩
          have nDl : D ≠ l := ne_of_none hD2 hl
          have s3 := same_lay (o := .tup [.int p.2.1, .int p.2.2]) hl
          refine ⟨refs M, s3 _ _ hD2, small1000 (by rw [refs_len, hlM]; omega), M ++ [(l, p.2)], ?_, ?_, ?_, same_upd (s2.trans s3) hD⟩
          · rw [upd_same, refs_snoc]
          · intro q hq
            rcases List.mem_append.mp hq with k | k
            · rw [upd_ne (nDp q k)]; exact s3 _ _ (hM q k)
            · rw [List.mem_singleton.mp k, upd_ne nDl.symm, upd_same]
          · rw [rws_snoc, eM, e1]
      · intro H2 hI
        obtain ⟨M, hD2, hM, eM, s2⟩ := hI
        rw [refs_len, List.take_of_length_le (by rw [rws_len]; exact Nat.le_refl _)] at eM
        have no2 : H2 o = some (.lst []) := s2 _ _ upd_same
        have lM : M.length = L.length := by rw [← rws_len M, eM, rws_len]
        -- sorted
        refine ⟨D, refs M, kOf H2, rfl, .inl (.inl hD2), fun y hy => ?_, fun ys p hs hb np => ?_⟩
        · unfold refs at hy
          obtain ⟨z, hz, rfl⟩ := List.mem_map.mp hy
          exact ⟨z.1, rfl, by rw [kOf_at (hM z hz)]; exact hM z hz⟩
        obtain ⟨S, rfl, hSA, hSm, hSl, hSk⟩ := refs_perm hM hb.perm
        have hso : (rws S).Pairwise fun r s => r.1 ≤ s.1 := by
          rw [hSk]
          refine List.pairwise_map.mpr (hs.imp fun {x y} hxy => ?_)
          have := SrtO.lexB_no.mp hxy
          omega
        have hSok : ∀ r ∈ rws S, r.1 ≤ r.2 := fun r hr => hok r (by rw [← eM]; exact (hSm r).mp hr)
        obtain ⟨hnf, hme⟩ := jfold_ok hSok hso
        have s3 := same_lay (o := .lst (refs S)) np
        have nop : o ≠ p := ne_of_none no2 np
        refine ⟨p, rfl, ⟨_, .inl (.inl upd_same)⟩, for_list (K := K) (a := p) (xs := refs S) (fun i σ H' => ∃ f l, ∃ A : List ARow, σ = [some (.ref a), some (.ref o), f, l, none] ∧ H' o = some (.lst (refs A)) ∧ AtR H' A ∧ rws A = (((rws S).take i).foldl jstep []).reverse ∧ Fre o (upd H2 p (.lst (refs S))) H' ∧ A.length ≤ i)
          ⟨none, none, [], rfl, by rw [upd_ne nop]; exact no2, (fun _ z => nomatch z), rfl, Fre.refl _ _, Nat.le_refl _⟩ (fun i σ H' _ ⟨_, _, _, _, _, _, _, fr, _⟩ => .inl (.inl (fr _ _ upd_same nop.symm))) ?_ ?_⟩
        · rintro i y σ H' hy ⟨f, l, A, rfl, hoA, hA, eA, fr, hAl⟩
          obtain ⟨z, hz, hzS, rfl⟩ := refs_get hy
          have hil : i < S.length := (List.getElem?_eq_some_iff.mp hz).1
          have ez : H' z.1 = some (.tup [.int z.2.1, .int z.2.2]) := fr _ _ (s3 _ _ (hSA z hzS)) (ne_of (hSA z hzS) no2 (by intro q; cases q))
          have e1 : ((rws S).take (i + 1)).foldl jstep [] = jstep (((rws S).take i).foldl jstep []) z.2 := by
            rw [List.take_add_one, rws_get hz, List.foldl_append]
            rfl
          have nAo : ∀ q ∈ A, q.1 ≠ o := fun q hq => ne_of (hA q hq) hoA (by intro w; cases w)
          refine ⟨z.1, _, rfl, .inl (.inl ez), rfl, _, _, rfl, _, _, rfl, rfl, ?_⟩
          refine ⟨_, rfl, !(refs A).isEmpty, .inl ⟨refs A, .inl (.inl hoA), rfl⟩, ?_⟩
          -- the row goes to the end
          have app : ∀ (hj : jstep (((rws S).take i).foldl jstep []) z.2 = z.2 :: ((rws S).take i).foldl jstep []) (T : Addr), H' T = none →
              ∃ f' l', ∃ A' : List ARow, [some (V.ref a), some (.ref o), some (.int z.2.1), some (.int z.2.2), none] = [some (.ref a), some (.ref o), f', l', none] ∧ (upd (upd H' T (.tup [.int z.2.1, .int z.2.2])) o (.lst (refs A ++ [.ref T]))) o = some (.lst (refs A')) ∧ AtR (upd (upd H' T (.tup [.int z.2.1, .int z.2.2])) o (.lst (refs A ++ [.ref T]))) A' ∧
                rws A' = (((rws S).take (i + 1)).foldl jstep []).reverse ∧ Fre o (upd H2 p (.lst (refs S))) (upd (upd H' T (.tup [.int z.2.1, .int z.2.2])) o (.lst (refs A ++ [.ref T]))) ∧ A'.length ≤ i + 1 := by
            intro hj Tn hT
            have s4 := same_lay (o := .tup [.int z.2.1, .int z.2.2]) hT
            have noT : Tn ≠ o := by
              intro e
              rw [e] at hT
              rw [hT] at hoA
              cases hoA
            refine ⟨_, _, A ++ [(Tn, z.2)], rfl, by rw [upd_same, refs_snoc], ?_, ?_, (fr.trans (fun b u e _ => s4 b u e)).trans Fre.put, by rw [List.length_append]; exact Nat.succ_le_succ hAl⟩
            · intro q hq
              rcases List.mem_append.mp hq with k | k
              · rw [upd_ne (nAo q k)]; exact s4 _ _ (hA q k)
              · rw [List.mem_singleton.mp k, upd_ne noT, upd_same]
            · rw [rws_snoc, eA, e1, hj, List.reverse_cons]
          have alen : (refs A).length < sizeLine := small1000 (by rw [refs_len]; omega)
          have two : 2 ≤ sizeLine := by decide
          cases hacc : ((rws S).take i).foldl jstep [] with
          | nil =>
            have eA0 : A = [] := by
              rw [hacc] at eA
              exact List.map_eq_nil_iff.mp eA
            refine ite2 (fun k => ?_) (fun _ => iteF ?_)
            · rw [eA0] at k
              exact absurd k (by decide)
            · refine ⟨_, rfl, .inl ⟨rfl, _, .inl (.inl hoA)⟩, _, rfl, _, rfl, two, fun Tn hT => ?_⟩
              refine ⟨o, refs A, _, rfl, rfl, same_lay hT _ _ hoA, alen, ?_⟩
              exact app (by rw [hacc]; rfl) Tn hT
          | cons q0 t0 =>
            have eA1 : rws A = t0.reverse ++ [q0] := by rw [eA, hacc, List.reverse_cons]
            obtain ⟨B, A2, rfl, eB, eA2⟩ := List.map_eq_append_iff.mp eA1
            obtain ⟨⟨aq, q1⟩, A3, rfl, eq1, eA3⟩ := List.map_eq_cons_iff.mp eA2
            obtain rfl := List.map_eq_nil_iff.mp eA3
            obtain rfl : q1 = q0 := eq1
            have haq : H' aq = some (.tup [.int q1.1, .int q1.2]) := hA (aq, q1) (List.mem_append_right _ (List.mem_singleton.mpr rfl))
            rw [refs_snoc] at hoA
            have hSo : SqL K H' o (refs B ++ [.ref aq]) := .inl (.inl hoA)
            have hSq : SqT K H' aq [.int q1.1, .int q1.2] := .inl (.inl haq)
            have g0 : atI [V.int q1.1, .int q1.2] 0 = some (.int q1.1) := atI_nat (j := 0) rfl
            have g1 : atI [V.int q1.1, .int q1.2] 1 = some (.int q1.2) := atI_nat (j := 1) rfl
            have gl : atI (refs B ++ [V.ref aq]) (-1) = some (.ref aq) := atI_last _ _
            refine ite2 (fun _ => ?_) (fun k => ?_)
            · refine ⟨_, rfl, _, rfl, 1, rfl, o, _, -1, _, rfl, rfl, hSo, gl, aq, _, 1, _, rfl, rfl, hSq, g1, _, _, rfl, rfl, _, _, rfl, rfl, _, rfl, ite2 (fun c => ?_) (fun c => ?_)⟩
              · have hc : z.2.1 ≤ q1.2 + 1 := of_decide_eq_true c
                refine ⟨_, rfl, 1, rfl, o, _, -1, _, rfl, rfl, hSo, gl, aq, _, 0, _, rfl, rfl, hSq, g0, _, rfl, 1, rfl, o, _, -1, _, rfl, rfl, hSo, gl, aq, _, 1, _, rfl, rfl, hSq, g1, _, rfl, _, _, rfl, two, fun Tn hT => ?_⟩
                have s4 := same_lay (o := .tup [.int q1.1, .int (if z.2.2 > q1.2 then z.2.2 else q1.2)]) hT
                have noT : Tn ≠ o := by
                  intro e
                  rw [e] at hT
                  rw [hT] at hoA
                  cases hoA
                have ixe : ixN (refs B ++ [V.ref aq]).length (-1) = some (refs B).length := by
                  rw [List.length_append]
                  exact ixN_last _
                refine ⟨_, rfl, 1, rfl, o, _, -1, _, rfl, rfl, s4 _ _ hoA, ixe, ?_⟩
                refine ⟨_, _, B ++ [(Tn, (q1.1, if z.2.2 > q1.2 then z.2.2 else q1.2))], rfl, by rw [upd_same, set_last, refs_snoc], ?_, ?_, (fr.trans (fun b u e _ => s4 b u e)).trans Fre.put, ?_⟩
                · intro q hq
                  rcases List.mem_append.mp hq with k | k
                  · rw [upd_ne (nAo q (List.mem_append_left _ k))]; exact s4 _ _ (hA q (List.mem_append_left _ k))
                  · rw [List.mem_singleton.mp k, upd_ne noT, upd_same]
                · rw [rws_snoc, e1, hacc]
                  show rws B ++ [(q1.1, if z.2.2 > q1.2 then z.2.2 else q1.2)] = (if z.2.1 ≤ q1.2 + 1 then (q1.1, if z.2.2 > q1.2 then z.2.2 else q1.2) :: t0 else z.2 :: q1 :: t0).reverse
                  rw [if_pos hc, List.reverse_cons]
                  exact congrArg (· ++ [(q1.1, if z.2.2 > q1.2 then z.2.2 else q1.2)]) eB
                · rw [List.length_append] at hAl ⊢
                  exact Nat.le_succ_of_le hAl
              · have hc : ¬ z.2.1 ≤ q1.2 + 1 := fun w => c (decide_eq_true w)
                refine ⟨_, rfl, .inl ⟨rfl, _, .inl (.inl hoA)⟩, _, rfl, _, rfl, two, fun Tn hT => ?_⟩
                refine ⟨o, _, _, rfl, rfl, same_lay hT _ _ hoA, by rw [← refs_snoc]; exact alen, ?_⟩
                rw [← refs_snoc]
                refine app ?_ Tn hT
                rw [hacc]
                show (if z.2.1 ≤ q1.2 + 1 then (q1.1, if z.2.2 > q1.2 then z.2.2 else q1.2) :: t0 else z.2 :: q1 :: t0) = z.2 :: q1 :: t0
                rw [if_neg hc]
            · exfalso
              apply k
              rw [refs_snoc]
              simp
        · rintro σ H' ⟨f, l, A, rfl, hoA, hA, eA, fr, hAl⟩
          rw [refs_len, List.take_of_length_le (by rw [rws_len]; exact Nat.le_refl _)] at eA
          have eN : rws A = (jfold (rws S)).reverse := eA
          refine ⟨_, rfl, o, refs A, rfl, .inl ⟨.inl (.inl hoA), fun t ht => ?_⟩⟩
          have s5 := same_lay (o := .tup (refs A)) ht
          have s6 : Same H H' := fun b u e => fr b u (s3 b u (s2 b u (S1 b u e))) (ne_of_none e no)
          refine q t A _ (s6.trans s5) (s6.free ht) upd_same (hA.same s5) (by rw [eN]; exact hnf) (fun x => ?_) ?_
          · rw [eN, hme x, ← eM]
            exact mem_same hSm x
          · rw [refs_len] at hAl
            omega
end
end OR

namespace OR
open PySem PySem.Spec PyProof.Rows L2
/-! ### counts before, and __init__ -/
def tot (l : List Row) : Int := l.foldl (fun t r => t + r.2 - r.1 + 1) 0
def befs (l : List Row) : List Int := (List.range l.length).map fun j => tot (l.take j)
theorem tot_snoc (l : List Row) (r : Row) : tot (l ++ [r]) = tot l + r.2 - r.1 + 1 := by
  unfold tot
  rw [List.foldl_append]
  rfl
def spCounts (K : PySem.W.Frag) : Sp := fun vs H Q _ => ∃ (t : Addr) (M : List ARow), vs = [.ref t] ∧ H t = some (.tup (refs M)) ∧ AtR H M ∧ M.length ≤ 1000 ∧
  ∀ (b : Addr) (H' : Hp), Same H H' → H b = none → H' b = some (.tup ((befs (rws M)).map V.int)) → Q (.ref b) H'
/-- an instance of Places with these rows -/
theorem kFS : ¬ (("_firsts" : Str) = "stretches") := by decide +kernel
theorem kBS : ¬ (("_before" : Str) = "stretches") := by decide +kernel
theorem kBF : ¬ (("_before" : Str) = "_firsts") := by decide +kernel
def pFl (t f b : Addr) : List (Str × V) := putF "_before" (.ref b) (putF "_firsts" (.ref f) (putF "stretches" (.ref t) []))
theorem pFl_s (t f b : Addr) : (pFl t f b).lookup ("stretches" : Str) = some (.ref t) := by
  unfold pFl
  rw [lookup_putF, if_neg (fun e => kBS e.symm), lookup_putF, if_neg (fun e => kFS e.symm), lookup_putF, if_pos rfl]
theorem pFl_f (t f b : Addr) : (pFl t f b).lookup ("_firsts" : Str) = some (.ref f) := by
  unfold pFl
  rw [lookup_putF, if_neg (fun e => kBF e.symm), lookup_putF, if_pos rfl]
theorem pFl_b (t f b : Addr) : (pFl t f b).lookup ("_before" : Str) = some (.ref b) := by
  unfold pFl
  rw [lookup_putF, if_pos rfl]
theorem pFl_no (t f b : Addr) {m : Str} (h1 : ¬ m = "_before") (h2 : ¬ m = "_firsts") (h3 : ¬ m = "stretches") : (pFl t f b).lookup m = none := by
  unfold pFl
  rw [lookup_putF, if_neg h1, lookup_putF, if_neg h2, lookup_putF, if_neg h3]
  rfl
structure IsP (C : Addr) (H : Hp) (x : Addr) (l : List Row) : Prop where
  nf : Nf l
  ex : ∃ (dx t f b : Addr) (M : List ARow), H x = some (.ins C dx (pFl t f b)) ∧ H t = some (.tup (refs M)) ∧ AtR H M ∧ rws M = l ∧ H f = some (.tup (l.map fun r => V.int r.1)) ∧ H b = some (.tup ((befs l).map V.int)) ∧ M.length ≤ 1000
theorem IsP.same {C : Addr} {H H' : Hp} {x : Addr} {l : List Row} (h : IsP C H x l) (s : Same H H') : IsP C H' x l := by
  obtain ⟨nf, dx, t, f, b, M, h1, h2, h3, h4, h5, h6, h7⟩ := h
  exact ⟨nf, dx, t, f, b, M, s _ _ h1, s _ _ h2, h3.same s, h4, s _ _ h5, s _ _ h6, h7⟩
/-- enumerate, turn by turn -/
theorem for_enum {K : PySem.W.Frag} {a : Addr} {xs : List V} {g : TG} {tb : TS} {D : Ends} {σ : L2.St} {H : Hp} (Pv : Nat → L2.St → Hp → Prop) (h0 : Pv 0 σ H) (hl : ∀ i σ H, i ≤ xs.length → Pv i σ H → SqL K H a xs)
    (hs : ∀ i x σ H T, xs[i]? = some x → Pv i σ H → H T = none → g (.ref T) σ (upd H T (.tup [.int (i : Nat), x])) fun σ2 H2 => tb { D with nx := Pv (i + 1), ct := Pv (i + 1), bk := D.nx } σ2 H2) (hd : ∀ σ H, Pv xs.length σ H → D.nx σ H) :
    ∃ W : Nat → Nat → L2.St → Hp → Prop, (∃ m, W 0 m σ H) ∧ ∀ i m σ H, W i m σ H →
      ((Ite K a).stop i H ∧ D.nx σ H) ∨ ((Ite K a).go i H ∧ ∃ N : L2.St → Hp → Prop, (∀ σ' H', N σ' H' → ∃ m', m' < m ∧ W (i + 1) m' σ' H') ∧ ∀ x H', (Ite K a).yld i H x H' → g x σ H' fun σ2 H2 => tb { D with nx := N, ct := N, bk := D.nx } σ2 H2) := by
  refine ⟨fun i m σ H => m = xs.length - i ∧ i ≤ xs.length ∧ Pv i σ H, ⟨xs.length, by simp, Nat.zero_le _, h0⟩, ?_⟩
  rintro i m σ H ⟨rfl, hi, p⟩
  have q := hl i σ H hi p
  by_cases hlt : i < xs.length
  · refine .inr ⟨⟨xs, xs[i], q, by simp [hlt]⟩, Pv (i + 1), fun σ' H' p' => ⟨xs.length - (i + 1), by omega, rfl, hlt, p'⟩, fun v H' y => ?_⟩
    obtain ⟨T, x, rfl, hT, rfl, hx⟩ := y
    exact hs i x σ H T (hx xs q) p hT
  · obtain rfl : i = xs.length := by omega
    exact .inl ⟨⟨xs, q, Nat.le_refl _⟩, hd σ H p⟩
theorem for_enumT {K : PySem.W.Frag} {a : Addr} {xs : List V} {g : TG} {tb : TS} {D : Ends} {σ : L2.St} {H : Hp} (Pv : Nat → L2.St → Hp → Prop) (h0 : Pv 0 σ H) (hl : ∀ i σ H, i ≤ xs.length → Pv i σ H → SqT K H a xs)
    (hs : ∀ i x σ H T, xs[i]? = some x → Pv i σ H → H T = none → g (.ref T) σ (upd H T (.tup [.int (i : Nat), x])) fun σ2 H2 => tb { D with nx := Pv (i + 1), ct := Pv (i + 1), bk := D.nx } σ2 H2) (hd : ∀ σ H, Pv xs.length σ H → D.nx σ H) :
    ∃ W : Nat → Nat → L2.St → Hp → Prop, (∃ m, W 0 m σ H) ∧ ∀ i m σ H, W i m σ H →
      ((IteT K a).stop i H ∧ D.nx σ H) ∨ ((IteT K a).go i H ∧ ∃ N : L2.St → Hp → Prop, (∀ σ' H', N σ' H' → ∃ m', m' < m ∧ W (i + 1) m' σ' H') ∧ ∀ x H', (IteT K a).yld i H x H' → g x σ H' fun σ2 H2 => tb { D with nx := N, ct := N, bk := D.nx } σ2 H2) := by
  refine ⟨fun i m σ H => m = xs.length - i ∧ i ≤ xs.length ∧ Pv i σ H, ⟨xs.length, by simp, Nat.zero_le _, h0⟩, ?_⟩
  rintro i m σ H ⟨rfl, hi, p⟩
  have q := hl i σ H hi p
  by_cases hlt : i < xs.length
  · refine .inr ⟨⟨xs, xs[i], q, by simp [hlt]⟩, Pv (i + 1), fun σ' H' p' => ⟨xs.length - (i + 1), by omega, rfl, hlt, p'⟩, fun v H' y => ?_⟩
    obtain ⟨T, x, rfl, hT, rfl, hx⟩ := y
    exact hs i x σ H T (hx xs q) p hT
  · obtain rfl : i = xs.length := by omega
    exact .inl ⟨⟨xs, q, Nat.le_refl _⟩, hd σ H p⟩
def spPlInit (K : PySem.W.Frag) (C : Addr) : Sp := fun vs H Q _ => ∃ (x dx a : Addr) (L : List ARow), vs = [.ref x, .ref a] ∧ H x = some (.ins C dx []) ∧ (SqL K H a (refs L) ∨ SqT K H a (refs L)) ∧ L.length ≤ 1000 ∧ PairsAt H L ∧ (∀ r ∈ rws L, okRow r = true) ∧
  ∀ (l : List Row) (H' : Hp), (∀ c o, H c = some o → c ≠ x → H' c = some o) → IsP C H' x l → (∀ z, mem l z ↔ mem (rws L) z) → l.length ≤ L.length → Q .non H'
theorem okRow_le {r : Row} (h : okRow r = true) : r.1 ≤ r.2 := by
  unfold okRow at h
  simp only [Bool.and_eq_true, decide_eq_true_eq] at h
  exact h.2.2
section
variable {P : Program} {w : World} {K : PySem.W.Frag} {mg : Str → Option Value} {base : Heap}
theorem scC : FnScope ["stretches", "counts", "total", "first", "last"] ["stretches"] (defScope sCounts) := ⟨rfl, rfl, rfl, by decide +kernel, rfl, by decide +kernel, by decide +kernel⟩
theorem ok_counts {f C : Addr} {fd : FuncData} (F : Fun K "_counts_before" "_counts_before" sCounts f fd) (T : PTxt K mg C) : FnOk P w K mg base CX0 1 f fd ["stretches"] (spCounts K) := by
  refine F.ok scC (fun vs H Q E h => ?_) (fun cdv A outer s H vs Q E hr h => ?_)
  · obtain ⟨t, M, rfl, _⟩ := h
    rfl
  · obtain ⟨t, M, rfl, ht, hM, hlen, q⟩ := h
    have nd := scC.nd
    refine ⟨_, pss_cons (ps_set (i := 1) nd rfl (.inl rfl) (pe_lst pa_nil))
      (pss_cons (ps_set (i := 2) nd rfl (.inl rfl) pe_int)
      (pss_cons (ps_for PassesOwn.never rfl (pi_tup (pv 0)) (pg_tup rfl (pgs_cons (pg_name (i := 3) nd rfl (.inl rfl)) (pgs_cons (pg_name (i := 4) nd rfl (.inl rfl)) pgs_nil)))
        (pss_cons (ps_expr (pe_bm PySem.F.plainAttrs_list PySem.F.slot_list_append PySem.F.type_list_append mt_append (pv 1) (pa_cons (pv 2) pa_nil)))
        (pss_one (ps_set (i := 2) nd rfl (.inl rfl) (pe_op op_add (pe_op op_sub (pe_op op_add (pv 2) (pv 4)) (pv 3)) pe_int)))))
      (pss_one (ps_ret (pe_callTy call_tuple_of (by rfl) T.zTup bt_tup (pa_cons (pv 1) pa_nil)))))), ?_⟩
    refine ⟨Nat.zero_le _, fun o no => ?_⟩
    have s1 := same_lay (o := .lst []) no
    refine ⟨_, rfl, t, rfl, ⟨_, .inl (.inl (s1 _ _ ht))⟩, for_tup (K := K) (a := t) (xs := refs M) (fun i σ H' => ∃ f l, σ = [some (.ref t), some (.ref o), some (.int (tot ((rws M).take i))), f, l] ∧ H' o = some (.lst (((List.range i).map fun j => tot ((rws M).take j)).map V.int)) ∧ Fre o (upd H o (.lst [])) H')
      ⟨none, none, rfl, upd_same, Fre.refl _ _⟩ (fun i σ H' _ ⟨_, _, _, _, fr⟩ => .inl (.inl (fr _ _ (s1 _ _ ht) (ne_of_none ht no)))) ?_ ?_⟩
    · rintro i y σ H' hy ⟨f, l, rfl, ho, fr⟩
      obtain ⟨z, hz, hzM, rfl⟩ := refs_get hy
      have hil : i < M.length := (List.getElem?_eq_some_iff.mp hz).1
      have ez : H' z.1 = some (.tup [.int z.2.1, .int z.2.2]) := fr _ _ (s1 _ _ (hM z hzM)) (ne_of_none (hM z hzM) no)
      refine ⟨z.1, _, rfl, .inl (.inl ez), rfl, _, _, rfl, _, _, rfl, rfl, ?_⟩
      refine ⟨_, rfl, .inl ⟨rfl, _, .inl (.inl ho)⟩, _, rfl, o, _, _, rfl, rfl, ho, small1000 (by rw [List.length_map, List.length_map, List.length_range]; omega), ?_⟩
      refine ⟨_, rfl, _, rfl, _, _, rfl, rfl, _, rfl, _, _, rfl, rfl, _, _, rfl, rfl, ?_⟩
      have e1 : (rws M).take (i + 1) = (rws M).take i ++ [z.2] := by rw [List.take_add_one, rws_get hz]; rfl
      refine ⟨some (.int z.2.1), some (.int z.2.2), ?_, ?_, fr.trans Fre.put⟩
      · rw [e1, tot_snoc]
        rfl
      · rw [upd_same, List.range_succ, List.map_append, List.map_append]
        rfl
    · rintro σ H' ⟨f, l, rfl, ho, fr⟩
      refine ⟨_, rfl, o, _, rfl, .inl ⟨.inl (.inl ho), fun b hb => ?_⟩⟩
      have s2 := same_lay (o := .tup (((List.range (refs M).length).map fun j => tot ((rws M).take j)).map V.int)) hb
      have s3 : Same H H' := fun c u e => fr c u (s1 c u e) (ne_of_none e no)
      refine q b _ (s3.trans s2) (s3.free hb) ?_
      rw [upd_same]
      unfold befs
      rw [rws_len, refs_len]
theorem scPI : FnScope ["self", "stretches", "index", "stretch", "first", "_"] ["self", "stretches"] (defScope sPlInit) := ⟨rfl, rfl, rfl, by decide +kernel, rfl, by decide +kernel, by decide +kernel⟩
theorem ok_plinit {f C : Addr} {fd : FuncData} {dvs : List V} (F : FunD K "__init__" "Places.__init__" (defArgs sPlInit) (defBody sPlInit) (defScope sPlInit) dvs [] f fd) (T : PTxt K mg C) (S : Cl P w K mg base 3 "_is_stretch" ["value"] spIsStretchP)
    (J : Cl P w K mg base 1 "_joined" ["stretches"] (spJoined K)) (B : Cl P w K mg base 1 "_counts_before" ["stretches"] (spCounts K)) : FnOk P w K mg base CX0 4 f fd ["self", "stretches"] (spPlInit K C) := by
  refine F.ok scPI (fun vs H Q E h => ?_) (fun cdv A outer s H vs Q E hr h => ?_)
  · obtain ⟨x, dx, a, L, rfl, _⟩ := h
    rfl
  · obtain ⟨x, dx, a, L, rfl, hx, hS, hlen, hP, hok, q⟩ := h
    have nd := scPI.nd
    have hb := PSs.nox (X := cxOf CX0 P w K mg base ["self", "stretches", "index", "stretch", "first", "_"] "Places.__init__" (defScope sPlInit) f cdv A outer s H E) (st := defBody sPlInit) (pss_cons (ps_for PassesOwn.never rfl (pi_or (pi_enum (by rfl) T.zEnum (pa_cons (pv 1) pa_nil)) (pi_enumT (by rfl) T.zEnum (pa_cons (pv 1) pa_nil)))
          (pg_tup rfl (pgs_cons (pg_name (i := 2) nd rfl (.inl rfl)) (pgs_cons (pg_name (i := 3) nd rfl (.inl rfl)) pgs_nil)))
        (pss_one (ps_if (pt_not (pt_val (pe_cl S hr (by decide) (by rfl) (pa_cons (pv 3) pa_nil)))) (pss_one ps_never) pss_nil)))
      (pss_cons (ps_fld (pv 0) (pe_cl J hr (by decide) (by rfl) (pa_cons (pv 1) pa_nil)) rfl)
      (pss_cons (ps_fld (pv 0) (pe_callTy call_tuple_of (by rfl) T.zTup bt_tup (pa_cons
          (pe_lc (own := [("first", 4), ("_", 5)]) (g := gTup K 2 (gCons (gName 4) (gCons (gName 5) gNil))) (tt := tYes) rfl nd (pi_tup (pe_fld (pv 0) rfl)) (blkOk_by (N := ["self", "stretches", "index", "stretch", "first", "_"]) (sc := defScope sPlInit) (by decide +kernel))
            (fun _ _ _ _ _ => pg_tup rfl (pgs_cons (pg_name (i := 4) nd rfl (.inl rfl)) (pgs_cons (pg_name (i := 5) nd rfl (.inl rfl)) pgs_nil))) (fun _ _ _ _ _ => pts_nil) (fun _ _ _ _ _ => pv 4)) pa_nil)) rfl)
      (pss_one (ps_fld (pv 0) (pe_cl B hr (by decide) (by rfl) (pa_cons (pe_fld (pv 0) rfl) pa_nil)) rfl)))))
    refine ⟨_, hb, ?_⟩
    clear hb
    -- what follows the loop
    have after : ∀ (σ : L2.St) (H1 : Hp) (i1 s1 : Option V), σ = [some (.ref x), some (.ref a), i1, s1, none, none] → Same H H1 → (tSeq (sFld K (tVar 0) (tCall (spJoined K) [] E0 (tCons (tVar 1) tNil)) "stretches")
        (tSeq (sFld K (tVar 0) (tCB (fun xs H Q => ∃ p ys, xs = [V.ref p] ∧ ((SqL K H p ys ∧ ∀ l, H l = none → Q (.ref l) (upd H l (.tup ys))) ∨ (SqT K H p ys ∧ Q (.ref p) H))) (tCons (tLc (iTup K (tFld K (tVar 0) "stretches")) (gTup K 2 (gCons (gName 4) (gCons (gName 5) gNil))) tYes (tVar 4) [4, 5]) tNil)) "_firsts")
        (sFld K (tVar 0) (tCall (spCounts K) [] E0 (tCons (tFld K (tVar 0) "stretches") tNil)) "_before"))) { nx := fun _ H' => Q .non H', rt := Q } σ H1 := by
      rintro σ H1 i1 s1 rfl S1
      have hS1 : SqL K H1 a (refs L) ∨ SqT K H1 a (refs L) := hS.elim (fun e => .inl (S1.seq e)) fun e => .inr (sameT S1 e)
      refine ⟨_, rfl, a, L, rfl, hS1, hlen, hP.same S1, fun r hr => okRow_le (hok r hr), fun t M H2 S2 nt ht hM hnf hme hlM => ?_⟩
      have hx2 := S2 _ _ (S1 _ _ hx)
      refine ⟨_, rfl, x, C, dx, [], rfl, hx2, T.cl, T.nS, (by show 0 < 1000; decide), ?_⟩
      have ntx : t ≠ x := ne_of ht hx2 (by intro z; cases z)
      have nMx : ∀ p ∈ M, p.1 ≠ x := fun p hp => ne_of (hM p hp) hx2 (by intro z; cases z)
      -- firsts
      generalize hH3 : upd H2 x (.ins C dx (putF "stretches" (.ref t) [])) = H3
      have hx3 : H3 x = some (.ins C dx (putF "stretches" (.ref t) [])) := by rw [← hH3, upd_same]
      have ht3 : H3 t = some (.tup (refs M)) := by rw [← hH3, upd_ne ntx]; exact ht
      have hM3 : AtR H3 M := fun p hp => by rw [← hH3, upd_ne (nMx p hp)]; exact hM p hp
      have f3 : ∀ c o, H c = some o → c ≠ x → H3 c = some o := fun c o e n => by rw [← hH3, upd_ne n]; exact S2 _ _ (S1 _ _ e)
      have lk : (putF "stretches" (V.ref t) []).lookup ("stretches" : Str) = some (V.ref t) := by rw [lookup_putF, if_pos rfl]
      refine ⟨_, rfl, x, C, dx, _, _, rfl, hx3, T.cl, T.nS, lk, t, rfl, ⟨_, .inl (.inl ht3)⟩, fun D hD => lc_tup (K := K) (a := t) (xs := refs M) (fun i H4 => H4 D = some (.lst ((rws M).take i |>.map fun r => V.int r.1)) ∧ Same H3 H4)
        ⟨upd_same, same_lay hD⟩ (fun i H4 _ ⟨_, s⟩ => .inl (.inl (s _ _ ht3))) ?_ ?_⟩
      · rintro i y H4 hy ⟨hD4, s4⟩
        obtain ⟨z, hz, hzM, rfl⟩ := refs_get hy
        have hil : i < M.length := (List.getElem?_eq_some_iff.mp hz).1
        have ez := s4 _ _ (hM3 z hzM)
        refine ⟨z.1, _, rfl, .inl (.inl ez), rfl, _, _, rfl, _, _, rfl, rfl, rfl, yesT ?_⟩
        refine ⟨_, rfl, _, hD4, small1000 (by rw [List.length_map, List.length_take]; omega), ?_, same_upd s4 hD⟩
        have e1 : (rws M).take (i + 1) = (rws M).take i ++ [z.2] := by rw [List.take_add_one, rws_get hz]; rfl
        rw [upd_same, e1, List.map_append]
        rfl
      · rintro H4 ⟨hD4, s4⟩
        rw [refs_len, List.take_of_length_le (by rw [rws_len]; exact Nat.le_refl _)] at hD4
        refine ⟨D, _, rfl, .inl ⟨.inl (.inl hD4), fun f nf => ?_⟩⟩
        have s5 := same_lay (o := .tup ((rws M).map fun r => V.int r.1)) nf
        have s35 := s4.trans s5
        have hx5 := s35 _ _ hx3
        refine ⟨_, rfl, x, C, dx, _, rfl, hx5, T.cl, T.nF, (by show 1 < 1000; decide), ?_⟩
        have nfx : f ≠ x := by
          intro e
          rw [e] at nf
          rw [s4 _ _ hx3] at nf
          cases nf
        generalize hH6 : upd (upd H4 f (.tup ((rws M).map fun r => V.int r.1))) x (.ins C dx (putF "_firsts" (.ref f) (putF "stretches" (.ref t) []))) = H6
        have hx6 : H6 x = some (.ins C dx (putF "_firsts" (.ref f) (putF "stretches" (.ref t) []))) := by rw [← hH6, upd_same]
        have ht6 : H6 t = some (.tup (refs M)) := by rw [← hH6, upd_ne ntx]; exact s35 _ _ ht3
        have hM6 : AtR H6 M := fun p hp => by rw [← hH6, upd_ne (nMx p hp)]; exact s35 _ _ (hM3 p hp)
        have hf6 : H6 f = some (.tup ((rws M).map fun r => V.int r.1)) := by rw [← hH6, upd_ne nfx, upd_same]
        have f6 : ∀ c o, H c = some o → c ≠ x → H6 c = some o := fun c o e n => by rw [← hH6, upd_ne n]; exact s35 _ _ (f3 c o e n)
        have lk6 : (putF "_firsts" (V.ref f) (putF "stretches" (V.ref t) [])).lookup ("stretches" : Str) = some (V.ref t) := by
          rw [lookup_putF, if_neg (fun e => kFS e.symm), lookup_putF, if_pos rfl]
        refine ⟨_, rfl, x, C, dx, _, _, rfl, hx6, T.cl, T.nS, lk6, t, M, rfl, ht6, hM6, Nat.le_trans hlM hlen, fun b H7 s7 nb hb => ?_⟩
        have hx7 := s7 _ _ hx6
        refine ⟨_, rfl, x, C, dx, _, rfl, hx7, T.cl, T.nB, (by show 2 < 1000; decide), ?_⟩
        have nbx : b ≠ x := ne_of hb hx7 (by intro z; cases z)
        refine q (rws M) _ (fun c o e n => by rw [upd_ne n]; exact s7 _ _ (f6 c o e n)) ⟨hnf, dx, t, f, b, M, upd_same, ?_, fun p hp => ?_, rfl, ?_, ?_, Nat.le_trans hlM hlen⟩ hme (by rw [rws_len]; exact hlM)
        · rw [upd_ne ntx]; exact s7 _ _ ht6
        · rw [upd_ne (nMx p hp)]; exact s7 _ _ (hM6 p hp)
        · rw [upd_ne nfx]; exact s7 _ _ hf6
        · rw [upd_ne nbx]; exact hb
    rcases hS with hS' | hS'
    · refine .inl ⟨_, rfl, a, refs L, rfl, hS', for_enum (K := K) (a := a) (xs := refs L) (fun i σ H' => ∃ i1 s1, σ = [some (.ref x), some (.ref a), i1, s1, none, none] ∧ Same H H')
        ⟨none, none, rfl, Same.refl _⟩ (fun i σ H' _ ⟨_, _, _, s⟩ => s.seq hS') ?_ ?_⟩
      · rintro i y σ H' Tn hy ⟨i1, s1, rfl, S1⟩ hT
        obtain ⟨z, hz, hzL, rfl⟩ := refs_get hy
        have s2 := same_lay (o := .tup [.int (i : Nat), .ref z.1]) hT
        have pz := (hP.same (S1.trans s2)) z hzL
        have okz : okRow z.2 = true := hok z.2 (mem_rws.mpr ⟨z.1, hzL⟩)
        refine ⟨Tn, _, rfl, .inl (.inl upd_same), rfl, _, _, rfl, _, _, rfl, rfl, ?_⟩
        refine ⟨_, rfl, z.1, z.2, rfl, pz, fun H'' S3 => ⟨_, rfl, ?_⟩⟩
        rw [okz]
        exact iteF ⟨_, _, rfl, (S1.trans s2).trans S3⟩
      · rintro σ H' ⟨i1, s1, rfl, S1⟩
        exact after _ _ i1 s1 rfl S1
    · refine .inr ⟨_, rfl, a, refs L, rfl, hS', for_enumT (K := K) (a := a) (xs := refs L) (fun i σ H' => ∃ i1 s1, σ = [some (.ref x), some (.ref a), i1, s1, none, none] ∧ Same H H')
        ⟨none, none, rfl, Same.refl _⟩ (fun i σ H' _ ⟨_, _, _, s⟩ => sameT s hS') ?_ ?_⟩
      · rintro i y σ H' Tn hy ⟨i1, s1, rfl, S1⟩ hT
        obtain ⟨z, hz, hzL, rfl⟩ := refs_get hy
        have s2 := same_lay (o := .tup [.int (i : Nat), .ref z.1]) hT
        have pz := (hP.same (S1.trans s2)) z hzL
        have okz : okRow z.2 = true := hok z.2 (mem_rws.mpr ⟨z.1, hzL⟩)
        refine ⟨Tn, _, rfl, .inl (.inl upd_same), rfl, _, _, rfl, _, _, rfl, rfl, ?_⟩
        refine ⟨_, rfl, z.1, z.2, rfl, pz, fun H'' S3 => ⟨_, rfl, ?_⟩⟩
        rw [okz]
        exact iteF ⟨_, _, rfl, (S1.trans s2).trans S3⟩
      · rintro σ H' ⟨i1, s1, rfl, S1⟩
        exact after _ _ i1 s1 rfl S1
end
end OR

namespace OR
open PySem PySem.Spec PyProof.Rows L2
/-! ### deep data made of rows -/
def rowD (r : Row) : PyData := .tuple [.int r.1, .int r.2]
theorem dp_row {K : PySem.W.Frag} {H : Hp} {a : Addr} {r : Row} (h : H a = some (.tup [.int r.1, .int r.2])) : Dp K H (.ref a) (rowD r) := .tup (.inl (.inl h)) (.cons (.int _) (.cons (.int _) .nil))
theorem dp_rows {K : PySem.W.Frag} {H : Hp} : ∀ {L : List ARow}, AtR H L → DpAll K H (refs L) ((rws L).map rowD)
  | [], _ => .nil
  | p :: L, h => .cons (dp_row (h p List.mem_cons_self)) (dp_rows fun q hq => h q (List.mem_cons_of_mem _ hq))
theorem lay_rows : ∀ l : List Row, PyData.canLayAll0 (l.map rowD) = true
  | [] => rfl
  | r :: l => by
    show (PyData.canLay0 (rowD r) && PyData.canLayAll0 (l.map rowD)) = true
    rw [lay_rows l]
    rfl
theorem dep_rows : ∀ l : List Row, PyData.depthAll (l.map rowD) ≤ 1
  | [] => Nat.zero_le _
  | r :: l => by
    show max (PyData.depth (rowD r)) (PyData.depthAll (l.map rowD)) ≤ 1
    have := dep_rows l
    have e : PyData.depth (rowD r) = 1 := rfl
    omega
theorem shp_tup (l : List Row) : SeqAt.shaped (.tuple (l.map rowD)) = true := by
  unfold SeqAt.shaped
  rw [show PyData.canLay0 (.tuple (l.map rowD)) = true from lay_rows l, Bool.true_and]
  refine decide_eq_true ?_
  show PyData.depthAll (l.map rowD) + 1 ≤ 64
  have := dep_rows l
  omega
theorem shp_lst (l : List Row) : SeqAt.shaped (.list (l.map rowD)) = true := by
  unfold SeqAt.shaped
  rw [show PyData.canLay0 (.list (l.map rowD)) = true from lay_rows l, Bool.true_and]
  refine decide_eq_true ?_
  show PyData.depthAll (l.map rowD) + 1 ≤ 64
  have := dep_rows l
  omega
theorem eqv_row (r s : Row) : PyData.eqv (rowD r) (rowD s) = decide (r = s) := by
  show ((r.1 == s.1) && ((r.2 == s.2) && true)) = decide (r = s)
  rw [Bool.and_true]
  by_cases h : r = s
  · subst h
    simp
  · rw [decide_eq_false h]
    by_cases h1 : r.1 = s.1
    · have h2 : r.2 ≠ s.2 := fun e => h (Prod.ext h1 e)
      simp [h2]
    · simp [h1]
theorem eqv_rows : ∀ l m : List Row, PyData.eqvAll (l.map rowD) (m.map rowD) = decide (l = m)
  | [], [] => by simp [PyData.eqvAll]
  | [], _ :: _ => by simp [PyData.eqvAll]
  | _ :: _, [] => by simp [PyData.eqvAll]
  | r :: l, s :: m => by
    show (PyData.eqv (rowD r) (rowD s) && PyData.eqvAll (l.map rowD) (m.map rowD)) = decide (r :: l = s :: m)
    rw [eqv_row, eqv_rows l m]
    by_cases h1 : r = s
    · by_cases h2 : l = m
      · simp [h1, h2]
      · simp [h1, h2]
    · simp [h1]
theorem AtR.frm {H H' : Hp} {L : List ARow} {p : Addr} {n : Nat} (h : AtR H L) (f : Frm p H H') (P : Pen H p n) : AtR H' L := fun q hq => by
  obtain ⟨c, ns, k, l, hp, _⟩ := P
  exact f _ _ (h q hq) (ne_of (h q hq) hp (by intro z; cases z))
theorem Frm.free {p q : Addr} {H H' : Hp} {n : Nat} (f : Frm p H H') (P : Pen H' p n) (h : H' q = none) : H q = none := by
  obtain ⟨c, ns, k, l, hp, _⟩ := P
  cases e : H q with
  | none => rfl
  | some o =>
    by_cases ep : q = p
    · rw [ep, hp] at h
      cases h
    · rw [f q o e ep] at h
      cases h
theorem frmS {p : Addr} {H H' : Hp} (s : Same H H') : Frm p H H' := ⟨fun b o e _ => s b o e, fun c ⟨k, l, e⟩ => ⟨k, l, s _ _ e⟩⟩
theorem Pen.same' {H H' : Hp} {p : Addr} {n : Nat} (P : Pen H p n) (s : Same H H') : Pen H' p n := by
  obtain ⟨c, ns, k, l, h1, h2, h⟩ := P
  exact ⟨c, ns, k, l, s _ _ h1, s _ _ h2, h⟩
/-! ### the law's drawing of rows -/
def spSpot : Sp := fun vs H Q _ => ∃ (p : Addr) (n : Nat), vs = [.ref p] ∧ Pen H p n ∧ n ≤ 900000 ∧ ∀ (r : Int) (H' : Hp), placeB r = true → Pen H' p (n + 2) → Frm p H H' → Q (.int r) H'
def spDrawn : Sp := fun vs H Q _ => ∃ (p : Addr) (m n : Nat), vs = [.ref p, .int m] ∧ m ≤ 20 ∧ Pen H p n ∧ n ≤ 700000 ∧
  ∀ (a : Addr) (L : List ARow) (H' : Hp), H a = none → H' a = some (.lst (refs L)) → AtR H' L → (∀ r ∈ rws L, okRow r = true) → L.length ≤ m → Pen H' p (n + 1000) → Frm p H H' → Q (.ref a) H'
theorem place_of {r : Int} (h0 : 0 ≤ r) (h1 : r ≤ lastP) : placeB r = true := by
  unfold placeB
  rw [decide_eq_true h0, decide_eq_true h1]
  rfl
theorem place_iff {r : Int} (h : placeB r = true) : 0 ≤ r ∧ r ≤ lastP := by
  unfold placeB at h
  simp only [Bool.and_eq_true, decide_eq_true_eq] at h
  exact h
theorem okRow_of {a b : Int} (h0 : 0 ≤ a) (h1 : a ≤ b) (h2 : b ≤ lastP) : okRow (a, b) = true := by
  unfold okRow
  rw [place_of (r := a) h0 (Int.le_trans h1 h2), place_of (r := b) (Int.le_trans h0 h1) h2, Bool.true_and, Bool.true_and]
  exact decide_eq_true h1
theorem okRow_iff {r : Row} (h : okRow r = true) : 0 ≤ r.1 ∧ r.1 ≤ r.2 ∧ r.2 ≤ lastP := by
  unfold okRow at h
  rw [Bool.and_eq_true, Bool.and_eq_true, decide_eq_true_eq] at h
  exact ⟨(place_iff h.1).1, h.2.2, (place_iff h.2.1).2⟩
structure Bd (mg : Str → Option Value) : Prop where
  range : mg "range" = none
  min : mg "min" = none
  max : mg "max" = none
  int : mg "int" = none
  len : mg "len" = none
  list : mg "list" = none
  set : mg "set" = none
  sorted : mg "sorted" = none
section
variable {P : Program} {w : World} {K : PySem.W.Frag} {mg : Str → Option Value} {base : Heap}
theorem scSpot : FnScope ["_law_pen_here", "_law_way"] ["_law_pen_here"] (defScope sSpot) := ⟨rfl, rfl, rfl, by decide +kernel, rfl, by decide +kernel, by decide +kernel⟩
theorem ok_spot {f : Addr} {fd : FuncData} (F : Fun K "_law_spot" "_law_spot" sSpot f fd) (D : Cl P w K mg base 1 "_law_draw" ["_law_pen_here", "_law_many"] spDraw) : FnOk P w K mg base CX0 2 f fd ["_law_pen_here"] spSpot := by
  refine F.ok scSpot (fun vs H Q E h => ?_) (fun cdv A outer s H vs Q E hr h => ?_)
  · obtain ⟨p, n, rfl, _⟩ := h
    rfl
  · obtain ⟨p, n, rfl, hP, hn, q⟩ := h
    have nd := scSpot.nd
    refine ⟨_, pss_cons (ps_set (i := 1) nd rfl (.inl rfl) (pe_cl D hr (by decide) (by rfl) (pa_cons (pv 0) (pa_cons pe_int pa_nil))))
      (pss_cons (ps_if (pt_cmpR op_lt (pv 1) pe_int (nomark _)) (pss_one (ps_ret (pe_cl D hr (by decide) (by rfl) (pa_cons (pv 0) (pa_cons (pe_ix ix_list (pe_lst (pa_cons pe_int (pa_cons pe_int pa_nil))) (pv 1) (fun _ _ => rfl)) pa_nil))))) pss_nil)
      (pss_cons (ps_if (pt_cmpR op_eq (pv 1) pe_int (nomark _)) (pss_one (ps_ret (pe_cl D hr (by decide) (by rfl) (pa_cons (pv 0) (pa_cons (pe_op op_add (pe_op op_pow pe_int pe_int) pe_int) pa_nil))))) pss_nil)
      (pss_one (ps_ret (pe_ifExp (pt_cmpR op_eq (pv 1) pe_int (nomark _)) (pe_op op_sub (pe_op op_pow pe_int pe_int) (pe_cl D hr (by decide) (by rfl) (pa_cons (pv 0) (pa_cons pe_int pa_nil))))
        (pe_op op_add (pe_op op_pow pe_int pe_int) (pe_cl D hr (by decide) (by rfl) (pa_cons (pv 0) (pa_cons pe_int pa_nil))))))))), ?_⟩
    have hpow : CPow 10 30 := ⟨by decide, by decide, by decide⟩
    have hpow15 : CPow 10 15 := ⟨by decide, by decide, by decide⟩
    have eL : lastP = 10 ^ 30 := rfl
    refine ⟨_, rfl, p, 5, n, rfl, by decide, by decide, hP, by omega, fun way H1 w0 w5 P1 F1 => ?_⟩
    refine ⟨_, rfl, _, _, rfl, rfl, _, rfl, ite2 (fun c => ?_) (fun _ => ?_)⟩
    · have hw : way < 2 := of_decide_eq_true c
      refine ⟨_, rfl, by show 2 ≤ sizeLine; decide, fun l hl => ?_⟩
      obtain ⟨m, hm, hm0, hm1⟩ : ∃ m : Int, atI [V.int 9, V.int 60] way = some (.int m) ∧ 0 < m ∧ m ≤ 60 := by
        have : way = 0 ∨ way = 1 := by omega
        rcases this with e | e <;> subst e
        · exact ⟨9, atI_nat (j := 0) rfl, by decide, by decide⟩
        · exact ⟨60, atI_nat (j := 1) rfl, by decide, by decide⟩
      have hmb : m.natAbs < 2 ^ 200 := Nat.lt_of_le_of_lt (show m.natAbs ≤ 60 by omega) (by decide)
      refine ⟨_, rfl, l, _, way, _, rfl, rfl, .inl (.inl upd_same), hm, p, m, n + 1, rfl, hm0, hmb, P1.new hl, by omega, fun r H2 r0 r1 P2 F2 => ?_⟩
      exact q r H2 (place_of r0 (by rw [eL]; omega)) P2 (F1.trans ((Frm.new hl).trans F2))
    refine ⟨_, rfl, rfl, _, rfl, ite2 (fun _ => ?_) (fun _ => ?_)⟩
    · refine ⟨_, rfl, _, _, rfl, rfl, hpow, _, _, rfl, rfl, p, _, n + 1, rfl, by decide, by decide, P1, by omega, fun r H2 r0 r1 P2 F2 => ?_⟩
      have r1' : r < 10 ^ 30 + 1 := r1
      exact q r H2 (place_of r0 (by rw [eL]; omega)) P2 (F1.trans F2)
    refine ⟨_, rfl, rfl, _, rfl, ite2 (fun _ => ?_) (fun _ => ?_)⟩
    · refine ⟨_, _, rfl, rfl, hpow, _, rfl, p, 9, n + 1, rfl, by decide, by decide, P1, by omega, fun r H2 r0 r1 P2 F2 => ⟨_, _, rfl, rfl, ?_⟩⟩
      refine q _ H2 (place_of ?_ ?_) P2 (F1.trans F2)
      · show (0 : Int) ≤ 10 ^ 30 - r
        omega
      · show (10 : Int) ^ 30 - r ≤ 10 ^ 30
        omega
    · refine ⟨_, _, rfl, rfl, hpow15, _, rfl, p, 99, n + 1, rfl, by decide, by decide, P1, by omega, fun r H2 r0 r1 P2 F2 => ⟨_, _, rfl, rfl, ?_⟩⟩
      refine q _ H2 (place_of ?_ ?_) P2 (F1.trans F2)
      · show (0 : Int) ≤ 10 ^ 15 + r
        omega
      · show (10 : Int) ^ 15 + r ≤ 10 ^ 30
        omega
theorem scDn : FnScope ["_law_pen_here", "_law_most", "_law_found", "_law_k", "_law_first", "_law_size"] ["_law_pen_here", "_law_most"] (defScope sDrawn) := ⟨rfl, rfl, rfl, by decide +kernel, rfl, by decide +kernel, by decide +kernel⟩
theorem ok_drawn {f : Addr} {fd : FuncData} (F : Fun K "_law_drawn" "_law_drawn" sDrawn f fd) (B : Bd mg) (D : Cl P w K mg base 1 "_law_draw" ["_law_pen_here", "_law_many"] spDraw) (C : Cl P w K mg base 2 "_law_pick" ["_law_pen_here", "_law_items"] (spPick K))
    (S : Cl P w K mg base 2 "_law_spot" ["_law_pen_here"] spSpot) : FnOk P w K mg base CX0 3 f fd ["_law_pen_here", "_law_most"] spDrawn := by
  refine F.ok scDn (fun vs H Q E h => ?_) (fun cdv A outer s H vs Q E hr h => ?_)
  · obtain ⟨p, m, n, rfl, _⟩ := h
    rfl
  · obtain ⟨p, m, n, rfl, hm, hP, hn, q⟩ := h
    have nd := scDn.nd
    have hu64 : (A.deeper (envOfC "_law_drawn" (defScope sDrawn) s.heap.objs.size f cdv)).units + 64 < cLine := hr.units
    refine ⟨_, pss_cons (ps_set (i := 2) nd rfl (.inl rfl) (pe_lst pa_nil))
      (pss_cons (ps_for PassesOwn.never rfl (pi_range1 (by rfl) B.range (pa_cons (pe_cl D hr (by decide) (by rfl) (pa_cons (pv 0) (pa_cons (pe_op op_add (pv 1) pe_int) pa_nil))) pa_nil)) (pg_name (i := 3) nd rfl (.inl rfl))
        (pss_cons (ps_set (i := 4) nd rfl (.inl rfl) (pe_cl S hr (by decide) (by rfl) (pa_cons (pv 0) pa_nil)))
        (Evl.pss_cut (ps_if (PW.pt (pw_and (pt_cmpR (op_neD hu64) (pv 2) (pe_lst pa_nil) (nomark _)) (pw_and1 (pt_cmpR op_eq (pe_cl D hr (by decide) (by rfl) (pa_cons (pv 0) (pa_cons pe_int pa_nil))) pe_int (nomark _)))))
          (pss_one (ps_set (i := 4) nd rfl (.inl rfl) (pe_callB (call_min2 rfl) (by rfl) B.min bt_min (pa_cons (pe_op op_pow pe_int pe_int) (pa_cons (pe_callTy call_int1 (by rfl) B.int bt_int (pa_cons
            (pe_op op_add (pe_ix ix_tup (pe_cl C hr (by decide) (by rfl) (pa_cons (pv 0) (pa_cons (pv 2) pa_nil))) pe_int (fun _ _ => rfl)) (pe_cl C hr (by decide) (by rfl) (pa_cons (pv 0) (pa_cons (pe_lst (pa_cons pe_int (pa_cons pe_int (pa_cons pe_int (pa_cons pe_int (pa_cons pe_int pa_nil)))))) pa_nil)))) pa_nil)) pa_nil))))) pss_nil)
        (pss_cons (ps_set (i := 5) nd rfl (.inl rfl) (pe_cl C hr (by decide) (by rfl) (pa_cons (pv 0) (pa_cons (pe_lst (pa_cons pe_int (pa_cons pe_int (pa_cons pe_int (pa_cons pe_int (pa_cons (pe_cl D hr (by decide) (by rfl) (pa_cons (pv 0) (pa_cons pe_int pa_nil)))
            (pa_cons (pe_cl D hr (by decide) (by rfl) (pa_cons (pv 0) (pa_cons (pe_op op_pow pe_int pe_int) pa_nil))) pa_nil))))))) pa_nil))))
        (pss_one (ps_expr (pe_bm PySem.F.plainAttrs_list PySem.F.slot_list_append PySem.F.type_list_append mt_append (pv 2) (pa_cons (pe_tup (pa_cons (pv 4) (pa_cons (pe_callB (call_min2 rfl) (by rfl) B.min bt_min (pa_cons (pe_op op_pow pe_int pe_int)
            (pa_cons (pe_callTy call_int1 (by rfl) B.int bt_int (pa_cons (pe_op op_add (pv 4) (pv 5)) pa_nil)) pa_nil))) pa_nil))) pa_nil))))))))
      (pss_one (ps_ret (pv 2)))), ?_⟩
    have hpow : CPow 10 30 := ⟨by decide, by decide, by decide⟩
    have eL : lastP = 10 ^ 30 := rfl
    obtain ⟨c0, hc0, hcn⟩ := hP.cells
    refine ⟨Nat.zero_le _, fun a0 na => ?_⟩
    have nca0 : c0 ≠ a0 := fun e => hcn (by rw [e]; exact na)
    have P0 := hP.new (o := .lst []) na
    refine ⟨_, rfl, _, rfl, _, _, rfl, rfl, p, _, n, rfl, by omega, Nat.lt_of_le_of_lt (show ((m : Int) + 1).natAbs ≤ 21 by omega) (by decide), P0, by omega, fun r H1 r0 r1 P1 F1 => ?_⟩
    have a1 : H1 a0 = some (.lst []) := F1.lst P0 upd_same
    refine ⟨r, rfl, by omega, by omega, for_range (n := r.toNat) (fun i σ H' => ∃ s3 s4 s5, ∃ L : List ARow, σ = [some (.ref p), some (.int m), some (.ref a0), s3, s4, s5] ∧ H' a0 = some (.lst (refs L)) ∧ AtR H' L ∧ (∀ r ∈ rws L, okRow r = true) ∧ L.length = i ∧ Pen H' p (n + 1 + 20 * i) ∧ Frm p H H')
      ⟨none, none, none, [], rfl, a1, (fun _ z => nomatch z), (fun _ z => nomatch z), rfl, P1, (Frm.new na).trans F1⟩ ?_ ?_⟩
    · rintro i σ H' hi ⟨s3, s4, s5, L, rfl, ha, hA, hok, hlen, hPn, hF⟩
      have hi20 : i < 20 := by omega
      -- first
      refine ⟨_, rfl, p, _, rfl, hPn, by omega, fun fst H2 hf P2 F2 => ?_⟩
      have ha2 : H2 a0 = some (.lst (refs L)) := F2.lst hPn ha
      have hA2 := hA.frm F2 hPn
      have hF2 := hF.trans F2
      refine ⟨fun σ'' H'' => ∃ fst : Int, σ'' = [some (.ref p), some (.int m), some (.ref a0), some (.int (0 + i)), some (.int fst), s5] ∧ placeB fst = true ∧ H'' a0 = some (.lst (refs L)) ∧ AtR H'' L ∧ Pen H'' p (n + 1 + 20 * i + 5) ∧ Frm p H H'', ?_, ?_⟩
      · refine ⟨_, rfl, Nat.zero_le _, fun e he => ?_⟩
        have se := same_lay (o := .lst []) he
        have ha3 := se _ _ ha2
        have hA3 := hA2.same se
        have P3 := P2.same' se
        have hF3 := hF2.trans (frmS se)
        refine ⟨.list ((rws L).map rowD), .list [], .lst (.inl (.inl ha3)) (dp_rows hA3), .lst (.inl (.inl upd_same)) .nil, shp_lst _, rfl, _, rfl, ?_⟩
        refine ite2 (fun hne => ?_) (fun _ => iteF ⟨fst, rfl, hf, ha3, hA3, P3.mono (by omega), hF3⟩)
        have hL0 : 0 < L.length := by
          cases L with
          | nil => exact absurd hne (by decide)
          | cons _ _ => exact Nat.succ_pos _
        refine ⟨_, rfl, p, 2, _, rfl, by decide, by decide, P3, by omega, fun c H4 _ _ P4 F4 => ?_⟩
        have ha4 : H4 a0 = some (.lst (refs L)) := F4.lst P3 ha3
        have hA4 := hA3.frm F4 P3
        have hF4 := hF3.trans F4
        refine ⟨rfl, _, rfl, ite2 (fun _ => ?_) (fun _ => ⟨fst, rfl, hf, ha4, hA4, P4.mono (by omega), hF4⟩)⟩
        refine ⟨_, _, rfl, rfl, hpow, _, rfl, _, rfl, p, a0, refs L, _, rfl, .inl (.inl ha4), by rw [refs_len]; exact hL0, by rw [refs_len]; omega, P4, by omega, fun v H5 hv P5 F5 => ?_⟩
        obtain ⟨z, hz, rfl⟩ := List.mem_map.mp hv
        have ha5 : H5 a0 = some (.lst (refs L)) := F5.lst P4 ha4
        have hA5 := hA4.frm F5 P4
        have okz := okRow_iff (hok z.2 (mem_rws.mpr ⟨z.1, hz⟩))
        refine ⟨z.1, _, 1, .int z.2.2, rfl, rfl, .inl (.inl (hA5 z hz)), atI_nat (j := 1) rfl, _, rfl, by show 5 ≤ sizeLine; decide, fun l2 hl2 => ?_⟩
        refine ⟨p, l2, _, _, rfl, .inl (.inl upd_same), by show 0 < 5; decide, by show 5 ≤ 1000; decide, P5.new hl2, by omega, fun v2 H6 hv2 P6 F6 => ?_⟩
        obtain ⟨j, rfl, hj0, hj1⟩ : ∃ j : Int, v2 = .int j ∧ 0 ≤ j ∧ j ≤ 3 := by
          simp only [List.mem_cons, List.not_mem_nil, or_false] at hv2
          rcases hv2 with e | e | e | e | e <;> subst e <;> exact ⟨_, rfl, by decide, by decide⟩
        have s2 := same_lay (o := .lst [.int 0, .int 1, .int 1, .int 2, .int 3]) hl2
        have ha6 : H6 a0 = some (.lst (refs L)) := F6.lst (P5.new hl2) (s2 _ _ ha5)
        refine ⟨_, _, rfl, rfl, .inl ⟨_, rfl, _, _, rfl, ?_⟩⟩
        refine ⟨_, rfl, place_of ?_ ?_, ha6, (hA5.same s2).frm F6 (P5.new hl2), P6.mono (by omega), ((hF4.trans F5).trans (frmS s2)).trans F6⟩
        · show (0 : Int) ≤ (if z.2.2 + j < 10 ^ 30 then z.2.2 + j else 10 ^ 30)
          split <;> omega
        · show (if z.2.2 + j < 10 ^ 30 then z.2.2 + j else 10 ^ 30) ≤ (10 : Int) ^ 30
          split <;> omega
      clear hf ha2 hA2 hF2 F2 P2
      rintro σ'' H3 ⟨fst, rfl, hf, ha3, hA3, P3, hF3⟩
      -- size
      refine ⟨_, rfl, _, rfl, p, 9, _, rfl, by decide, by decide, P3, by omega, fun r1 H4 h10 _ P4 F4 => ?_⟩
      refine ⟨_, rfl, _, _, rfl, rfl, hpow, p, _, _, rfl, by decide, by decide, P4, by omega, fun r2 H5 h20 _ P5 F5 => ?_⟩
      refine ⟨by show 6 ≤ sizeLine; decide, fun l hl => ?_⟩
      refine ⟨p, l, _, _, rfl, .inl (.inl upd_same), by show 0 < 6; decide, by show 6 ≤ 1000; decide, P5.new hl, by omega, fun v H6 hv P6 F6 => ?_⟩
      obtain ⟨sz, rfl, hsz⟩ : ∃ sz : Int, v = .int sz ∧ 0 ≤ sz := by
        simp only [List.mem_cons, List.not_mem_nil, or_false] at hv
        rcases hv with e | e | e | e | e | e <;> subst e <;> exact ⟨_, rfl, by omega⟩
      have sl := same_lay (o := .lst [.int 0, .int 0, .int 1, .int 2, .int r1, .int r2]) hl
      have FF : Frm p H3 H6 := ((F4.trans F5).trans (frmS sl)).trans F6
      have ha6 : H6 a0 = some (.lst (refs L)) := FF.lst P3 ha3
      have hA6 := hA3.frm FF P3
      have hf2 := place_iff hf
      have hfe : fst ≤ 10 ^ 30 := hf2.2
      refine ⟨_, rfl, .inl ⟨rfl, _, .inl (.inl ha6)⟩, _, rfl, _, _, rfl, rfl, hpow, _, rfl, _, rfl, _, _, rfl, rfl, .inl ⟨_, rfl, _, _, rfl, by show 2 ≤ sizeLine; decide, fun T hT => ?_⟩⟩
      have sT := same_lay (o := .tup [.int fst, .int (if fst + sz < 10 ^ (30 : Int).toNat then fst + sz else 10 ^ (30 : Int).toNat)]) hT
      have nTa : T ≠ a0 := by
        intro e
        rw [e, ha6] at hT
        cases hT
      refine ⟨a0, _, _, rfl, rfl, sT _ _ ha6, small1000 (by rw [refs_len]; omega), ?_⟩
      have nLa : ∀ q ∈ L, q.1 ≠ a0 := fun q hq => ne_of (hA6 q hq) ha6 (by intro z; cases z)
      refine ⟨_, _, _, L ++ [(T, (fst, if fst + sz < 10 ^ (30 : Int).toNat then fst + sz else 10 ^ (30 : Int).toNat))], rfl, by rw [upd_same, refs_snoc], ?_, ?_, by rw [List.length_append, hlen]; rfl, ?_, ?_⟩
      · intro q hq
        rcases List.mem_append.mp hq with k | k
        · rw [upd_ne (nLa q k)]; exact sT _ _ (hA6 q k)
        · rw [List.mem_singleton.mp k, upd_ne nTa, upd_same]
      · intro x hx
        rw [rws_snoc] at hx
        rcases List.mem_append.mp hx with k | k
        · exact hok x k
        · rw [List.mem_singleton.mp k]
          refine okRow_of hf2.1 ?_ ?_
          · show fst ≤ (if fst + sz < 10 ^ 30 then fst + sz else 10 ^ 30)
            split <;> omega
          · show (if fst + sz < 10 ^ 30 then fst + sz else 10 ^ 30) ≤ (10 : Int) ^ 30
            split <;> omega
      · exact ((P6.same' sT).put (((hF3.trans FF).trans (frmS sT)).ce c0 hc0) (sT _ _ ha6) nca0).mono (by omega)
      · refine ⟨fun b o e nb => ?_, fun c hc => ?_⟩
        · rw [upd_ne (ne_of_none e na)]
          exact sT _ _ (FF _ _ (hF3 _ _ e nb) nb)
        · obtain ⟨k, l', e⟩ := ((hF3.trans FF).trans (frmS sT)).ce c hc
          exact ⟨k, l', by rw [upd_ne (ne_of e (sT _ _ ha6) (by intro z; cases z))]; exact e⟩
    · rintro σ H' ⟨s3, s4, s5, L, rfl, ha, hA, hok, hl, hPn, hF⟩
      exact ⟨_, rfl, q a0 L H' na ha hA hok (by omega) (hPn.mono (by omega)) hF⟩
end
end OR

namespace OR
open PySem PySem.Spec PyProof.Rows L2
/-! ### shuffling and cutting -/
theorem dp_pairs {K : PySem.W.Frag} {H : Hp} : ∀ {L : List ARow}, PairsAt H L → ∃ ds, DpAll K H (refs L) ds ∧ PyData.canLayAll0 ds = true ∧ PyData.depthAll ds ≤ 1 ∧ ds.length = L.length
  | [], _ => ⟨[], .nil, rfl, Nat.zero_le _, rfl⟩
  | p :: L, h => by
    obtain ⟨ds, h1, h2, h3, h4⟩ := dp_pairs (K := K) (H := H) (L := L) fun q hq => h q (List.mem_cons_of_mem _ hq)
    have hi2 : DpAll K H [.int p.2.1, .int p.2.2] [.int p.2.1, .int p.2.2] := .cons (.int _) (.cons (.int _) .nil)
    rcases h p List.mem_cons_self with e | e
    · refine ⟨.tuple [.int p.2.1, .int p.2.2] :: ds, .cons (.tup (.inl (.inl e)) hi2) h1, ?_, ?_, by rw [List.length_cons, h4]; rfl⟩
      · show (true && PyData.canLayAll0 ds) = true
        rw [h2]
        rfl
      · show max 1 (PyData.depthAll ds) ≤ 1
        omega
    · refine ⟨.list [.int p.2.1, .int p.2.2] :: ds, .cons (.lst (.inl (.inl e)) hi2) h1, ?_, ?_, by rw [List.length_cons, h4]; rfl⟩
      · show (true && PyData.canLayAll0 ds) = true
        rw [h2]
        rfl
      · show max 1 (PyData.depthAll ds) ≤ 1
        omega
theorem shp_of {ds : List PyData} (h1 : PyData.canLayAll0 ds = true) (h2 : PyData.depthAll ds ≤ 1) : SeqAt.shaped (.list ds) = true := by
  unfold SeqAt.shaped
  rw [show PyData.canLay0 (.list ds) = true from h1, Bool.true_and]
  refine decide_eq_true ?_
  show PyData.depthAll ds + 1 ≤ 64
  omega
theorem PairsAt.frm {H H' : Hp} {L : List ARow} {p : Addr} {n : Nat} (h : PairsAt H L) (f : Frm p H H') (P : Pen H p n) : PairsAt H' L := fun q hq => by
  obtain ⟨kvs, hp⟩ := P.dict
  rcases h q hq with e | e
  · exact .inl (f _ _ e (ne_of e hp (by intro z; cases z)))
  · exact .inr (f _ _ e (ne_of e hp (by intro z; cases z)))
theorem refs_erase : ∀ (L : List ARow) (k : Nat), (refs L).eraseIdx k = refs (L.eraseIdx k)
  | [], _ => rfl
  | _ :: _, 0 => rfl
  | p :: L, k + 1 => by
    show V.ref p.1 :: (refs L).eraseIdx k = V.ref p.1 :: refs (L.eraseIdx k)
    rw [refs_erase L k]
theorem erase_perm : ∀ (L : List ARow) (k : Nat) (h : k < L.length), (L[k] :: L.eraseIdx k).Perm L
  | p :: L, 0, _ => List.Perm.refl _
  | p :: L, k + 1, h => by
    have ih := erase_perm L k (Nat.lt_of_succ_lt_succ h)
    exact (List.Perm.swap p _ _).trans (ih.cons p)
def spShuffled (K : PySem.W.Frag) : Sp := fun vs H Q _ => ∃ (p a : Addr) (L : List ARow) (n : Nat), vs = [.ref p, .ref a] ∧ SqL K H a (refs L) ∧ PairsAt H L ∧ L.length ≤ 200 ∧ Pen H p n ∧ n ≤ 800000 ∧
  ∀ (o : Addr) (M : List ARow) (H' : Hp), H o = none → H' o = some (.lst (refs M)) → M.Perm L → PairsAt H' M → Pen H' p (n + 500) → Frm p H H' → Q (.ref o) H'
def lenAt (l : Addr) (H : Hp) : Nat := match H l with
  | some (.lst xs) => xs.length
  | _ => 0
theorem lenAt_of {l : Addr} {H : Hp} {xs : List V} (h : H l = some (.lst xs)) : lenAt l H = xs.length := by
  unfold lenAt
  rw [h]
theorem ixN_in {n : Nat} {r : Int} (h0 : 0 ≤ r) (h1 : r < n) : ixN n r = some r.toNat := by
  unfold ixN
  rw [if_pos h0, if_pos h1]
section
variable {P : Program} {w : World} {K : PySem.W.Frag} {mg : Str → Option Value} {base : Heap}
theorem scSh : FnScope ["_law_pen_here", "_law_items", "_law_left", "_law_found"] ["_law_pen_here", "_law_items"] (defScope sShuffled) := ⟨rfl, rfl, rfl, by decide +kernel, rfl, by decide +kernel, by decide +kernel⟩
theorem ok_shuffled {f : Addr} {fd : FuncData} (F : Fun K "_law_shuffled" "_law_shuffled" sShuffled f fd) (B : Bd mg) (D : Cl P w K mg base 1 "_law_draw" ["_law_pen_here", "_law_many"] spDraw) : FnOk P w K mg base CX0 2 f fd ["_law_pen_here", "_law_items"] (spShuffled K) := by
  refine F.ok scSh (fun vs H Q E h => ?_) (fun cdv A outer s H vs Q E hr h => ?_)
  · obtain ⟨p, a, L, n, rfl, _⟩ := h
    rfl
  · obtain ⟨p, a, L, n, rfl, hS, hPa, hlen, hP, hn, q⟩ := h
    have nd := scSh.nd
    have hu64 : (A.deeper (envOfC "_law_shuffled" (defScope sShuffled) s.heap.objs.size f cdv)).units + 64 < cLine := hr.units
    obtain ⟨c0, hc0, hcn⟩ := hP.cells
    obtain ⟨kvs, hpd⟩ := hP.dict
    refine ⟨_, pss_cons (ps_par (i := 2) (j := 3) rfl nd rfl rfl (by decide) rfl rfl (pa_cons (pe_callTy call_list_of (by rfl) B.list bt_list (pa_cons (pv 1) pa_nil)) (pa_cons (pe_lst pa_nil) pa_nil)) rfl)
      (pss_cons (ps_while PassesOwn.never (pt_cmpR (op_neD hu64) (pv 2) (pe_lst pa_nil) (nomark _))
        (pss_one (ps_expr (pe_bm PySem.F.plainAttrs_list PySem.F.slot_list_append PySem.F.type_list_append mt_append (pv 3) (pa_cons
          (pe_bm PySem.F.plainAttrs_list PySem.F.slot_list_pop PySem.F.type_list_pop mt_popAt (pv 2) (pa_cons (pe_cl D hr (by decide) (by rfl) (pa_cons (pv 0) (pa_cons (pe_callB call_len_seq (by rfl) B.len PySem.boot_len (pa_cons (pv 2) pa_nil)) pa_nil))) pa_nil)) pa_nil)))))
      (pss_one (ps_ret (pv 3)))), ?_⟩
    refine ⟨_, rfl, a, _, rfl, .inl hS, fun l nl => ?_⟩
    have s1 := same_lay (o := .lst (refs L)) nl
    refine ⟨Nat.zero_le _, fun o no => ⟨_, _, rfl, ?_⟩⟩
    have s2 := s1.trans (same_lay (o := .lst []) no)
    have nlo : l ≠ o := ne_of_none upd_same no
    have no0 : H o = none := s1.free no
    have ncl : c0 ≠ l := fun e => hcn (by rw [e]; exact nl)
    have nco : c0 ≠ o := fun e => hcn (by rw [e]; exact no0)
    refine while_by (fun σ H' => ∃ R F : List ARow, σ = [some (.ref p), some (.ref a), some (.ref l), some (.ref o)] ∧ H' l = some (.lst (refs R)) ∧ H' o = some (.lst (refs F)) ∧ PairsAt H' R ∧ PairsAt H' F ∧ (F ++ R).Perm L ∧ Pen H' p (n + 2 * F.length) ∧ Frm p H H')
      (fun _ H' => lenAt l H') ⟨L, [], rfl, by rw [upd_ne nlo, upd_same], upd_same, hPa.same s2, (fun _ z => nomatch z), List.Perm.refl _, hP.same' s2, frmS s2⟩ ?_ (fun σ H Q Q' hQ h => by
        obtain ⟨v, e, l1, fw⟩ := h
        exact ⟨v, e, l1, fun p hp => by
          obtain ⟨d, e', a1, a2, a3, a4, k, ek, q⟩ := fw p hp
          exact ⟨d, e', a1, a2, a3, a4, k, ek, hQ _ _ q⟩⟩)
    rintro σ H' ⟨R, F', rfl, hl, ho, hR, hF, hpm, hPn, hFr⟩
    have hlF : F'.length + R.length = L.length := by rw [← List.length_append, hpm.length_eq]
    refine ⟨_, rfl, Nat.zero_le _, fun e ne => ?_⟩
    have se := same_lay (o := .lst []) ne
    obtain ⟨ds, hd1, hd2, hd3, hd4⟩ := dp_pairs (K := K) (hR.same se)
    have hl3 := se _ _ hl
    have ho3 := se _ _ ho
    have P3 := hPn.same' se
    have hFr3 := hFr.trans (frmS se)
    refine ⟨.list ds, .list [], .lst (.inl (.inl hl3)) hd1, .lst (.inl (.inl upd_same)) .nil, shp_of hd2 hd3, rfl, _, rfl, ite2 (fun hne => ?_) (fun hne => ?_)⟩
    · have hR0 : 0 < R.length := by
        cases R with
        | nil =>
          have : ds = [] := List.length_eq_zero_iff.mp hd4
          rw [this] at hne
          exact absurd hne (by decide)
        | cons _ _ => exact Nat.succ_pos _
      refine ⟨_, rfl, .inl ⟨rfl, _, .inl (.inl ho3)⟩, _, rfl, .inl ⟨rfl, _, .inl (.inl hl3)⟩, _, rfl, _, rfl, l, _, rfl, .inl (.inl (.inl hl3)), p, _, _, rfl, by rw [refs_len]; omega, ?_, P3, by omega, fun r H4 r0 r1 P4 F4 => ?_⟩
      · rw [refs_len]
        exact Nat.lt_of_le_of_lt (show ((R.length : Nat) : Int).natAbs ≤ 200 by omega) (by decide)
      rw [refs_len] at r1
      have hl4 := F4.lst P3 hl3
      have ho4 := F4.lst P3 ho3
      have hk : r.toNat < R.length := by omega
      have hix := (ixN_seq (ixN_in r0 (show r < ((refs R).length : Nat) by rw [refs_len]; exact r1))).1
      have hget : (refs R)[r.toNat]? = some (.ref R[r.toNat].1) := by
        unfold refs
        rw [List.getElem?_map, List.getElem?_eq_getElem hk]
        rfl
      refine ⟨l, refs R, r, r.toNat, _, rfl, rfl, hl4, by omega, by omega, hix, hget, ?_⟩
      have ho5 : (upd H4 l (.lst ((refs R).eraseIdx r.toNat))) o = some (.lst (refs F')) := by rw [upd_ne nlo.symm]; exact ho4
      refine ⟨o, refs F', _, rfl, rfl, ho5, small1000 (by rw [refs_len]; omega), ?_⟩
      have hR4 := (hR.same se).frm F4 P3
      have hF4 := (hF.same se).frm F4 P3
      have ce4 := (hFr3.trans F4).ce c0 hc0
      have inL : ∀ q ∈ F' ++ R, q.1 ≠ l ∧ q.1 ≠ o := fun q hq => by
        have hqL := hpm.mem_iff.mp hq
        have hne : H q.1 ≠ none := (hPa q hqL).elim (fun e => by rw [e]; exact fun z => nomatch z) fun e => by rw [e]; exact fun z => nomatch z
        exact ⟨fun e => hne (by rw [e]; exact nl), fun e => hne (by rw [e]; exact no0)⟩
      have keep : ∀ q ∈ F' ++ R, PairAt H4 q.1 q.2 → PairAt (upd (upd H4 l (.lst ((refs R).eraseIdx r.toNat))) o (.lst (refs F' ++ [.ref R[r.toNat].1]))) q.1 q.2 := fun q hq hp => by
        obtain ⟨n1, n2⟩ := inL q hq
        exact hp.elim (fun e => .inl (by rw [upd_ne n2, upd_ne n1]; exact e)) fun e => .inr (by rw [upd_ne n2, upd_ne n1]; exact e)
      have hmem : R[r.toNat] ∈ R := List.getElem_mem hk
      refine ⟨⟨R.eraseIdx r.toNat, F' ++ [R[r.toNat]], rfl, by rw [upd_ne nlo, upd_same, refs_erase], by rw [upd_same, refs_snoc], fun q hq => ?_, fun q hq => ?_, ?_, ?_, ?_⟩, ?_⟩
      · have hqR := List.mem_of_mem_eraseIdx hq
        exact keep q (List.mem_append_right _ hqR) (hR4 q hqR)
      · rcases List.mem_append.mp hq with k | k
        · exact keep q (List.mem_append_left _ k) (hF4 q k)
        · rw [List.mem_singleton.mp k]
          exact keep _ (List.mem_append_right _ hmem) (hR4 _ hmem)
      · rw [List.append_assoc]
        exact ((erase_perm R r.toNat hk).append_left F').trans hpm
      · have p5 := P4.put (o := .lst ((refs R).eraseIdx r.toNat)) ce4 hl4 ncl
        have ce5 : cellsAt (upd H4 l (.lst ((refs R).eraseIdx r.toNat))) p c0 := by
          obtain ⟨k1, k2, e⟩ := ce4
          exact ⟨k1, k2, by rw [upd_ne (ne_of e hl4 (by intro z; cases z))]; exact e⟩
        exact (p5.put ce5 ho5 nco).mono (by rw [List.length_append]; show _ ≤ n + 2 * (F'.length + 1); omega)
      · have fr4 := hFr3.trans F4
        refine ⟨fun b u eb nb => ?_, fun c hc => ?_⟩
        · have n1 : b ≠ l := ne_of_none eb nl
          have n2 : b ≠ o := ne_of_none eb no0
          rw [upd_ne n2, upd_ne n1]
          exact fr4 _ _ eb nb
        · obtain ⟨k1, k2, e⟩ := fr4.ce c hc
          exact ⟨k1, k2, by rw [upd_ne (ne_of e ho4 (by intro z; cases z)), upd_ne (ne_of e hl4 (by intro z; cases z))]; exact e⟩
      · show lenAt l _ < lenAt l H'
        rw [lenAt_of (xs := (refs R).eraseIdx r.toNat) (by rw [upd_ne nlo, upd_same]), lenAt_of hl, refs_erase, refs_len, refs_len, List.length_eraseIdx, if_pos hk]
        omega
    · have hR0 : R = [] := by
        cases R with
        | nil => rfl
        | cons _ _ =>
          cases ds with
          | nil => cases hd4
          | cons _ _ => exact absurd rfl hne
      subst hR0
      rw [List.append_nil] at hpm
      exact ⟨_, rfl, q o F' _ no0 ho3 hpm (hF.same se) (P3.mono (by rw [hpm.length_eq]; omega)) hFr3⟩
end
end OR

namespace OR
open PySem PySem.Spec PyProof.Rows L2
/-! ### cutting rows -/
def spCut (K : PySem.W.Frag) : Sp := fun vs H Q _ => ∃ (p a : Addr) (L : List ARow) (n : Nat), vs = [.ref p, .ref a] ∧ (SqL K H a (refs L) ∨ SqT K H a (refs L)) ∧ AtR H L ∧ (∀ r ∈ rws L, okRow r = true) ∧ L.length ≤ 100 ∧ Pen H p n ∧ n ≤ 600000 ∧
  ∀ (o : Addr) (M : List ARow) (H' : Hp), H o = none → H' o = some (.lst (refs M)) → PairsAt H' M → (∀ r ∈ rws M, okRow r = true) → (∀ x, mem (rws M) x ↔ mem (rws L) x) → M.length ≤ 200 → Pen H' p (n + 2000) → Frm p H H' → Q (.ref o) H'
/-- what may be picked: a pair, as a tuple or a list -/
def mnOf (a b : Int) : Int := if a < b then a else b
theorem mnOf_ok (a b : Int) : mnOf a b ≤ a ∧ mnOf a b ≤ b ∧ (mnOf a b = a ∨ mnOf a b = b) := by
  unfold mnOf
  split <;> omega
theorem mem_two {l m : List Row} {r r1 r2 : Row} (h : ∀ x, mem l x ↔ mem m x) (e : ∀ x, (r.1 ≤ x ∧ x ≤ r.2) ↔ ((r1.1 ≤ x ∧ x ≤ r1.2) ∨ (r2.1 ≤ x ∧ x ≤ r2.2))) (x : Int) : mem ((l ++ [r1]) ++ [r2]) x ↔ mem (m ++ [r]) x := by
  have one : ∀ q : Row, mem [q] x ↔ (q.1 ≤ x ∧ x ≤ q.2) := fun q => by
    rw [mem_cons]
    exact ⟨fun k => k.elim id fun z => absurd z (mem_nil _), .inl⟩
  rw [mem_append, mem_append, mem_append, one, one, one, e x, h x]
  constructor
  · rintro ((k | k) | k)
    · exact .inl k
    · exact .inr (.inl k)
    · exact .inr (.inr k)
  · rintro (k | k | k)
    · exact .inl (.inl k)
    · exact .inl (.inr k)
    · exact .inr k
section
variable {P : Program} {w : World} {K : PySem.W.Frag} {mg : Str → Option Value} {base : Heap}
theorem scCu : FnScope ["_law_pen_here", "_law_rows", "_law_found", "_law_first", "_law_last", "_law_at"] ["_law_pen_here", "_law_rows"] (defScope sCut) := ⟨rfl, rfl, rfl, by decide +kernel, rfl, by decide +kernel, by decide +kernel⟩
theorem ok_cut {f : Addr} {fd : FuncData} (F : Fun K "_law_cut" "_law_cut" sCut f fd) (B : Bd mg) (D : Cl P w K mg base 1 "_law_draw" ["_law_pen_here", "_law_many"] spDraw) (C : Cl P w K mg base 2 "_law_pick" ["_law_pen_here", "_law_items"] (spPick K))
    (S : Cl P w K mg base 2 "_law_shuffled" ["_law_pen_here", "_law_items"] (spShuffled K)) : FnOk P w K mg base CX0 3 f fd ["_law_pen_here", "_law_rows"] (spCut K) := by
  refine F.ok scCu (fun vs H Q E h => ?_) (fun cdv A outer s H vs Q E hr h => ?_)
  · obtain ⟨p, a, L, n, rfl, _⟩ := h
    rfl
  · obtain ⟨p, a, L, n, rfl, hS, hA, hok, hlen, hP, hn, q⟩ := h
    have nd := scCu.nd
    obtain ⟨c0, hc0, hcn⟩ := hP.cells
    refine ⟨_, pss_cons (ps_set (i := 2) nd rfl (.inl rfl) (pe_lst pa_nil))
      (pss_cons (ps_for PassesOwn.never rfl (pi_or (pi_list (pv 1)) (pi_tup (pv 1))) (pg_tup rfl (pgs_cons (pg_name (i := 3) nd rfl (.inl rfl)) (pgs_cons (pg_name (i := 4) nd rfl (.inl rfl)) pgs_nil)))
        (pss_cons (ps_set (i := 5) nd rfl (.inl rfl) (pe_op op_add (pv 3) (pe_cl D hr (by decide) (by rfl) (pa_cons (pv 0) (pa_cons (pe_op op_add (pe_op op_sub (pv 4) (pv 3)) pe_int) pa_nil)))))
        (pss_cons (ps_expr (pe_bm PySem.F.plainAttrs_list PySem.F.slot_list_append PySem.F.type_list_append mt_append (pv 2) (pa_cons (pe_cl C hr (by decide) (by rfl) (pa_cons (pv 0) (pa_cons (pe_lst (pa_cons (pe_tup (pa_cons (pv 3) (pa_cons (pv 5) pa_nil)))
            (pa_cons (pe_lst (pa_cons (pv 3) (pa_cons (pv 5) pa_nil))) (pa_cons (pe_tup (pa_cons (pv 3) (pa_cons (pv 4) pa_nil))) pa_nil)))) pa_nil))) pa_nil)))
        (pss_one (ps_expr (pe_bm PySem.F.plainAttrs_list PySem.F.slot_list_append PySem.F.type_list_append mt_append (pv 2) (pa_cons (pe_cl C hr (by decide) (by rfl) (pa_cons (pv 0) (pa_cons (pe_lst (pa_cons
              (pe_tup (pa_cons (pe_callB (call_min2 rfl) (by rfl) B.min bt_min (pa_cons (pe_callTy call_int1 (by rfl) B.int bt_int (pa_cons (pe_op op_add (pv 5) pe_int) pa_nil)) (pa_cons (pe_callTy call_int1 (by rfl) B.int bt_int (pa_cons (pv 4) pa_nil)) pa_nil))) (pa_cons (pv 4) pa_nil)))
            (pa_cons (pe_lst (pa_cons (pv 5) (pa_cons (pv 4) pa_nil))) (pa_cons (pe_tup (pa_cons (pv 3) (pa_cons (pv 4) pa_nil))) pa_nil)))) pa_nil))) pa_nil)))))))
      (pss_one (ps_ret (pe_cl S hr (by decide) (by rfl) (pa_cons (pv 0) (pa_cons (pv 2) pa_nil)))))), ?_⟩
    refine ⟨Nat.zero_le _, fun o no => ?_⟩
    have s1 := same_lay (o := .lst []) no
    have nco : c0 ≠ o := fun e => hcn (by rw [e]; exact no)
    have two : 2 ≤ sizeLine := by decide
    have three : 3 ≤ sizeLine := by decide
    have npo : p ≠ o := by
      obtain ⟨kvs, hp⟩ := hP.dict
      exact ne_of_none hp no
    have eL : lastP = 10 ^ 30 := rfl
    rcases hS with hS' | hS'
    · refine .inl ⟨_, rfl, a, rfl, ⟨_, s1.seq hS'⟩, for_list (K := K) (a := a) (xs := refs L) (fun i σ H' => ∃ f l t, ∃ G : List ARow, σ = [some (.ref p), some (.ref a), some (.ref o), f, l, t] ∧ H' o = some (.lst (refs G)) ∧ PairsAt H' G ∧ (∀ q ∈ G, q.1 ≠ o) ∧ (∀ r ∈ rws G, okRow r = true) ∧ (∀ x, mem (rws G) x ↔ mem ((rws L).take i) x) ∧ G.length = 2 * i ∧ Pen H' p (n + 10 * i) ∧ Frm p H H')
        ⟨none, none, none, [], rfl, upd_same, (fun _ z => nomatch z), (fun _ z => nomatch z), (fun _ z => nomatch z), (fun _ => Iff.rfl), rfl, hP.new no, Frm.new no⟩ (fun i σ H' _ ⟨_, _, _, _, _, _, _, _, _, _, _, _, fr⟩ => fr.seq hP hS') ?_ ?_⟩
      · rintro i y σ H' hy ⟨f, l, t, G, rfl, ho, hG, nG, okG, mG, lG, hPn, hFr⟩
        obtain ⟨z, hz, hzL, rfl⟩ := refs_get hy
        have hil : i < L.length := (List.getElem?_eq_some_iff.mp hz).1
        have ez := (hA.frm hFr hP) z hzL
        have okz := okRow_iff (hok z.2 (mem_rws.mpr ⟨z.1, hzL⟩))
        refine ⟨z.1, _, rfl, .inl (.inl ez), rfl, _, _, rfl, _, _, rfl, rfl, ?_⟩
        refine ⟨_, rfl, _, rfl, _, rfl, _, rfl, _, _, rfl, rfl, _, _, rfl, rfl, p, _, _, rfl, by omega, Nat.lt_of_le_of_lt (show (z.2.2 - z.2.1 + 1).natAbs ≤ 10 ^ 30 + 1 by omega) (by decide), hPn, by omega, fun r H1 r0 r1 P1 F1 => ⟨_, _, rfl, rfl, ?_⟩⟩
        have hat1 : z.2.1 ≤ z.2.1 + r := by omega
        have hat2 : (z.2.1 + r) ≤ z.2.2 := by omega
        have ho1 := F1.lst hPn ho
        have hG1 := hG.frm F1 hPn
        have hF1 := hFr.trans F1
        -- the first half
        refine ⟨_, rfl, .inl ⟨rfl, _, .inl (.inl ho1)⟩, _, rfl, _, rfl, _, rfl, two, fun t1 h1 => ?_⟩
        refine ⟨_, rfl, _, rfl, two, fun t2 h2 => ?_⟩
        refine ⟨_, rfl, _, rfl, two, fun t3 h3 => ?_⟩
        refine ⟨three, fun l1 hl1 => ?_⟩
        have sa := same_lay (o := .tup [.int z.2.1, .int (z.2.1 + r)]) h1
        have sb := same_lay (o := .lst [.int z.2.1, .int (z.2.1 + r)]) h2
        have sc := same_lay (o := .tup [.int z.2.1, .int z.2.2]) h3
        have sd := same_lay (o := .lst [.ref t1, .ref t2, .ref t3]) hl1
        have sA := ((sa.trans sb).trans sc).trans sd
        have hT : PairsAt (upd (upd (upd (upd H1 t1 (.tup [.int z.2.1, .int (z.2.1 + r)])) t2 (.lst [.int z.2.1, .int (z.2.1 + r)])) t3 (.tup [.int z.2.1, .int z.2.2])) l1 (.lst [.ref t1, .ref t2, .ref t3])) [(t1, (z.2.1, (z.2.1 + r))), (t2, (z.2.1, (z.2.1 + r))), (t3, (z.2.1, z.2.2))] := fun q hq => by
          simp only [List.mem_cons, List.not_mem_nil, or_false] at hq
          rcases hq with e | e | e <;> subst e
          · exact .inl (sd _ _ (sc _ _ (sb _ _ upd_same)))
          · exact .inr (sd _ _ (sc _ _ upd_same))
          · exact .inl (sd _ _ upd_same)
        have nT : ∀ q ∈ [(t1, (z.2.1, (z.2.1 + r))), (t2, (z.2.1, (z.2.1 + r))), (t3, (z.2.1, z.2.2))], q.1 ≠ o := fun q hq => by
          simp only [List.mem_cons, List.not_mem_nil, or_false] at hq
          rcases hq with e | e | e <;> subst e
          · exact (ne_of_none ho1 h1).symm
          · exact (ne_of_none (sa _ _ ho1) h2).symm
          · exact (ne_of_none (sb _ _ (sa _ _ ho1)) h3).symm
        have P1d := P1.same' sA
        refine ⟨p, l1, refs [(t1, (z.2.1, (z.2.1 + r))), (t2, (z.2.1, (z.2.1 + r))), (t3, (z.2.1, z.2.2))], _, rfl, .inl (.inl upd_same), Nat.succ_pos 2, (show 3 ≤ 1000 by decide), P1d, by omega, fun v H2 hv P2 F2 => ?_⟩
        obtain ⟨q1, hq1, rfl⟩ := List.mem_map.mp hv
        have hTq := (hT.frm F2 P1d) q1 hq1
        have hn1 := nT q1 hq1
        have hq1v : q1.2 = (z.2.1, (z.2.1 + r)) ∨ q1.2 = (z.2.1, z.2.2) := by
          simp only [List.mem_cons, List.not_mem_nil, or_false] at hq1
          rcases hq1 with e | e | e <;> subst e
          · exact .inl rfl
          · exact .inl rfl
          · exact .inr rfl
        have ho2 := F2.lst P1d (sA _ _ ho1)
        have hG2 := (hG1.same sA).frm F2 P1d
        have hF2 := (hF1.trans (frmS sA)).trans F2
        refine ⟨o, _, _, rfl, rfl, ho2, small1000 (by rw [refs_len]; omega), ?_⟩
        have P2' := P2.put (o := .lst (refs G ++ [.ref q1.1])) (hF2.ce c0 hc0) ho2 nco
        have put_frm : ∀ {Hx : Hp} {xs ys : List V}, Frm p H Hx → Hx o = some (.lst xs) → Frm p H (upd Hx o (.lst ys)) := fun {Hx xs ys} fx hx => ⟨fun b u eb nb => by rw [upd_ne (ne_of_none eb no)]; exact fx _ _ eb nb, fun c hc => by
          obtain ⟨k1, k2, e⟩ := fx.ce c hc
          exact ⟨k1, k2, by rw [upd_ne npo]; exact e⟩⟩
        have hF2' := put_frm (ys := refs G ++ [.ref q1.1]) hF2 ho2
        have ho2' : (upd H2 o (.lst (refs G ++ [.ref q1.1]))) o = some (.lst (refs (G ++ [q1]))) := by rw [upd_same, refs_snoc]
        have hG2' : PairsAt (upd H2 o (.lst (refs G ++ [.ref q1.1]))) (G ++ [q1]) := fun w hw => by
          rcases List.mem_append.mp hw with k | k
          · exact (hG2 w k).elim (fun e => .inl (by rw [upd_ne (nG w k)]; exact e)) fun e => .inr (by rw [upd_ne (nG w k)]; exact e)
          · rw [List.mem_singleton.mp k]
            exact hTq.elim (fun e => .inl (by rw [upd_ne hn1]; exact e)) fun e => .inr (by rw [upd_ne hn1]; exact e)
        generalize upd H2 o (.lst (refs G ++ [.ref q1.1])) = H3 at *
        -- the second half
        refine ⟨_, rfl, .inl ⟨rfl, _, .inl (.inl ho2')⟩, _, rfl, _, rfl, _, _, rfl, rfl, .inl ⟨_, rfl, _, rfl, .inl ⟨_, rfl, _, _, rfl, _, rfl, two, fun u1 g1 => ?_⟩⟩⟩
        refine ⟨_, rfl, _, rfl, two, fun u2 g2 => ?_⟩
        refine ⟨_, rfl, _, rfl, two, fun u3 g3 => ?_⟩
        refine ⟨three, fun l2 hl2 => ?_⟩
        have hmn1 : (mnOf z.2.2 (z.2.1 + r + 1)) ≤ z.2.2 ∧ (mnOf z.2.2 (z.2.1 + r + 1)) ≤ (z.2.1 + r) + 1 ∧ z.2.1 ≤ (mnOf z.2.2 (z.2.1 + r + 1)) ∧ ((mnOf z.2.2 (z.2.1 + r + 1)) = z.2.2 ∨ (mnOf z.2.2 (z.2.1 + r + 1)) = (z.2.1 + r) + 1) := by
          have := mnOf_ok z.2.2 (z.2.1 + r + 1)
          omega
        have ta := same_lay (o := .tup [.int (mnOf z.2.2 (z.2.1 + r + 1)), .int z.2.2]) g1
        have tb := same_lay (o := .lst [.int (z.2.1 + r), .int z.2.2]) g2
        have tc := same_lay (o := .tup [.int z.2.1, .int z.2.2]) g3
        have td := same_lay (o := .lst [.ref u1, .ref u2, .ref u3]) hl2
        have tA := ((ta.trans tb).trans tc).trans td
        have hU : PairsAt (upd (upd (upd (upd H3 u1 (.tup [.int (mnOf z.2.2 (z.2.1 + r + 1)), .int z.2.2])) u2 (.lst [.int (z.2.1 + r), .int z.2.2])) u3 (.tup [.int z.2.1, .int z.2.2])) l2 (.lst [.ref u1, .ref u2, .ref u3])) [(u1, ((mnOf z.2.2 (z.2.1 + r + 1)), z.2.2)), (u2, ((z.2.1 + r), z.2.2)), (u3, (z.2.1, z.2.2))] := fun q hq => by
          simp only [List.mem_cons, List.not_mem_nil, or_false] at hq
          rcases hq with e | e | e <;> subst e
          · exact .inl (td _ _ (tc _ _ (tb _ _ upd_same)))
          · exact .inr (td _ _ (tc _ _ upd_same))
          · exact .inl (td _ _ upd_same)
        have nU : ∀ q ∈ [(u1, ((mnOf z.2.2 (z.2.1 + r + 1)), z.2.2)), (u2, ((z.2.1 + r), z.2.2)), (u3, (z.2.1, z.2.2))], q.1 ≠ o := fun q hq => by
          simp only [List.mem_cons, List.not_mem_nil, or_false] at hq
          rcases hq with e | e | e <;> subst e
          · exact (ne_of_none ho2' g1).symm
          · exact (ne_of_none (ta _ _ ho2') g2).symm
          · exact (ne_of_none (tb _ _ (ta _ _ ho2')) g3).symm
        have P3d := P2'.same' tA
        refine ⟨p, l2, refs [(u1, ((mnOf z.2.2 (z.2.1 + r + 1)), z.2.2)), (u2, ((z.2.1 + r), z.2.2)), (u3, (z.2.1, z.2.2))], _, rfl, .inl (.inl upd_same), Nat.succ_pos 2, (show 3 ≤ 1000 by decide), P3d, by omega, fun v H4 hv P4 F4 => ?_⟩
        obtain ⟨q2, hq2, rfl⟩ := List.mem_map.mp hv
        have hUq := (hU.frm F4 P3d) q2 hq2
        have hn2 := nU q2 hq2
        have hq2v : q2.2 = ((mnOf z.2.2 (z.2.1 + r + 1)), z.2.2) ∨ q2.2 = ((z.2.1 + r), z.2.2) ∨ q2.2 = (z.2.1, z.2.2) := by
          simp only [List.mem_cons, List.not_mem_nil, or_false] at hq2
          rcases hq2 with e | e | e <;> subst e
          · exact .inl rfl
          · exact .inr (.inl rfl)
          · exact .inr (.inr rfl)
        have ho4 := F4.lst P3d (tA _ _ ho2')
        have hG4 := (hG2'.same tA).frm F4 P3d
        have hF4 := (hF2'.trans (frmS tA)).trans F4
        refine ⟨o, _, _, rfl, rfl, ho4, small1000 (by rw [refs_len, List.length_append]; show G.length + 1 ≤ 1000; omega), ?_⟩
        have nG2 : ∀ w ∈ G ++ [q1], w.1 ≠ o := fun w hw => (List.mem_append.mp hw).elim (nG w) fun k => by rw [List.mem_singleton.mp k]; exact hn1
        refine ⟨_, _, _, (G ++ [q1]) ++ [q2], rfl, by rw [upd_same, refs_snoc _ q2], fun w hw => ?_, fun w hw => ?_, fun w hw => ?_, ?_, ?_, (P4.put (hF4.ce c0 hc0) ho4 nco).mono (by omega), put_frm hF4 ho4⟩
        · rcases List.mem_append.mp hw with k | k
          · exact (hG4 w k).elim (fun e => .inl (by rw [upd_ne (nG2 w k)]; exact e)) fun e => .inr (by rw [upd_ne (nG2 w k)]; exact e)
          · rw [List.mem_singleton.mp k]
            exact hUq.elim (fun e => .inl (by rw [upd_ne hn2]; exact e)) fun e => .inr (by rw [upd_ne hn2]; exact e)
        · exact (List.mem_append.mp hw).elim (nG2 w) fun k => by rw [List.mem_singleton.mp k]; exact hn2
        · rw [rws_snoc, rws_snoc] at hw
          rcases List.mem_append.mp hw with k | k
          · rcases List.mem_append.mp k with k | k
            · exact okG w k
            · rw [List.mem_singleton.mp k]
              rcases hq1v with e | e <;> rw [e]
              · exact okRow_of okz.1 hat1 (by omega)
              · exact okRow_of okz.1 okz.2.1 okz.2.2
          · rw [List.mem_singleton.mp k]
            rcases hq2v with e | e | e <;> rw [e]
            · exact okRow_of (by omega) hmn1.1 okz.2.2
            · exact okRow_of (by omega) hat2 okz.2.2
            · exact okRow_of okz.1 okz.2.1 okz.2.2
        · have e1 : (rws L).take (i + 1) = (rws L).take i ++ [z.2] := by rw [List.take_add_one, rws_get hz]; rfl
          rw [e1, rws_snoc, rws_snoc]
          refine mem_two mG fun x => ?_
          rcases hq1v with e | e <;> rcases hq2v with e' | e' | e' <;> rw [e, e'] <;> constructor <;> (intro hx; dsimp only at hx ⊢; omega)
        · rw [List.length_append, List.length_append, lG]
          show 2 * i + 1 + 1 = 2 * (i + 1)
          omega
      · rintro σ H' ⟨f, l, t, G, rfl, ho, hG, nG, okG, mG, lG, hPn, hFr⟩
        rw [refs_len] at lG hPn
        rw [refs_len, List.take_of_length_le (by rw [rws_len]; exact Nat.le_refl _)] at mG
        refine ⟨_, rfl, _, rfl, p, o, G, _, rfl, .inl (.inl ho), hG, by omega, hPn, by omega, fun o2 M H2 n2 ho2 hpm hM P2 F2 => ?_⟩
        have hmr : ∀ r, r ∈ rws M ↔ r ∈ rws G := fun r => (hpm.map (·.2)).mem_iff
        exact q o2 M H2 (hFr.free hPn n2) ho2 hM (fun r hr => okG r ((hmr r).mp hr)) (fun x => (mem_same hmr x).trans (mG x)) (by rw [hpm.length_eq]; omega) (P2.mono (by omega)) (hFr.trans F2)
    · refine .inr ⟨_, rfl, a, rfl, ⟨_, sameT s1 hS'⟩, for_tup (K := K) (a := a) (xs := refs L) (fun i σ H' => ∃ f l t, ∃ G : List ARow, σ = [some (.ref p), some (.ref a), some (.ref o), f, l, t] ∧ H' o = some (.lst (refs G)) ∧ PairsAt H' G ∧ (∀ q ∈ G, q.1 ≠ o) ∧ (∀ r ∈ rws G, okRow r = true) ∧ (∀ x, mem (rws G) x ↔ mem ((rws L).take i) x) ∧ G.length = 2 * i ∧ Pen H' p (n + 10 * i) ∧ Frm p H H')
        ⟨none, none, none, [], rfl, upd_same, (fun _ z => nomatch z), (fun _ z => nomatch z), (fun _ z => nomatch z), (fun _ => Iff.rfl), rfl, hP.new no, Frm.new no⟩ (fun i σ H' _ ⟨_, _, _, _, _, _, _, _, _, _, _, _, fr⟩ => fr.tup hP hS') ?_ ?_⟩
      · rintro i y σ H' hy ⟨f, l, t, G, rfl, ho, hG, nG, okG, mG, lG, hPn, hFr⟩
        obtain ⟨z, hz, hzL, rfl⟩ := refs_get hy
        have hil : i < L.length := (List.getElem?_eq_some_iff.mp hz).1
        have ez := (hA.frm hFr hP) z hzL
        have okz := okRow_iff (hok z.2 (mem_rws.mpr ⟨z.1, hzL⟩))
        refine ⟨z.1, _, rfl, .inl (.inl ez), rfl, _, _, rfl, _, _, rfl, rfl, ?_⟩
        refine ⟨_, rfl, _, rfl, _, rfl, _, rfl, _, _, rfl, rfl, _, _, rfl, rfl, p, _, _, rfl, by omega, Nat.lt_of_le_of_lt (show (z.2.2 - z.2.1 + 1).natAbs ≤ 10 ^ 30 + 1 by omega) (by decide), hPn, by omega, fun r H1 r0 r1 P1 F1 => ⟨_, _, rfl, rfl, ?_⟩⟩
        have hat1 : z.2.1 ≤ z.2.1 + r := by omega
        have hat2 : (z.2.1 + r) ≤ z.2.2 := by omega
        have ho1 := F1.lst hPn ho
        have hG1 := hG.frm F1 hPn
        have hF1 := hFr.trans F1
        -- the first half
        refine ⟨_, rfl, .inl ⟨rfl, _, .inl (.inl ho1)⟩, _, rfl, _, rfl, _, rfl, two, fun t1 h1 => ?_⟩
        refine ⟨_, rfl, _, rfl, two, fun t2 h2 => ?_⟩
        refine ⟨_, rfl, _, rfl, two, fun t3 h3 => ?_⟩
        refine ⟨three, fun l1 hl1 => ?_⟩
        have sa := same_lay (o := .tup [.int z.2.1, .int (z.2.1 + r)]) h1
        have sb := same_lay (o := .lst [.int z.2.1, .int (z.2.1 + r)]) h2
        have sc := same_lay (o := .tup [.int z.2.1, .int z.2.2]) h3
        have sd := same_lay (o := .lst [.ref t1, .ref t2, .ref t3]) hl1
        have sA := ((sa.trans sb).trans sc).trans sd
        have hT : PairsAt (upd (upd (upd (upd H1 t1 (.tup [.int z.2.1, .int (z.2.1 + r)])) t2 (.lst [.int z.2.1, .int (z.2.1 + r)])) t3 (.tup [.int z.2.1, .int z.2.2])) l1 (.lst [.ref t1, .ref t2, .ref t3])) [(t1, (z.2.1, (z.2.1 + r))), (t2, (z.2.1, (z.2.1 + r))), (t3, (z.2.1, z.2.2))] := fun q hq => by
          simp only [List.mem_cons, List.not_mem_nil, or_false] at hq
          rcases hq with e | e | e <;> subst e
          · exact .inl (sd _ _ (sc _ _ (sb _ _ upd_same)))
          · exact .inr (sd _ _ (sc _ _ upd_same))
          · exact .inl (sd _ _ upd_same)
        have nT : ∀ q ∈ [(t1, (z.2.1, (z.2.1 + r))), (t2, (z.2.1, (z.2.1 + r))), (t3, (z.2.1, z.2.2))], q.1 ≠ o := fun q hq => by
          simp only [List.mem_cons, List.not_mem_nil, or_false] at hq
          rcases hq with e | e | e <;> subst e
          · exact (ne_of_none ho1 h1).symm
          · exact (ne_of_none (sa _ _ ho1) h2).symm
          · exact (ne_of_none (sb _ _ (sa _ _ ho1)) h3).symm
        have P1d := P1.same' sA
        refine ⟨p, l1, refs [(t1, (z.2.1, (z.2.1 + r))), (t2, (z.2.1, (z.2.1 + r))), (t3, (z.2.1, z.2.2))], _, rfl, .inl (.inl upd_same), Nat.succ_pos 2, (show 3 ≤ 1000 by decide), P1d, by omega, fun v H2 hv P2 F2 => ?_⟩
        obtain ⟨q1, hq1, rfl⟩ := List.mem_map.mp hv
        have hTq := (hT.frm F2 P1d) q1 hq1
        have hn1 := nT q1 hq1
        have hq1v : q1.2 = (z.2.1, (z.2.1 + r)) ∨ q1.2 = (z.2.1, z.2.2) := by
          simp only [List.mem_cons, List.not_mem_nil, or_false] at hq1
          rcases hq1 with e | e | e <;> subst e
          · exact .inl rfl
          · exact .inl rfl
          · exact .inr rfl
        have ho2 := F2.lst P1d (sA _ _ ho1)
        have hG2 := (hG1.same sA).frm F2 P1d
        have hF2 := (hF1.trans (frmS sA)).trans F2
        refine ⟨o, _, _, rfl, rfl, ho2, small1000 (by rw [refs_len]; omega), ?_⟩
        have P2' := P2.put (o := .lst (refs G ++ [.ref q1.1])) (hF2.ce c0 hc0) ho2 nco
        have put_frm : ∀ {Hx : Hp} {xs ys : List V}, Frm p H Hx → Hx o = some (.lst xs) → Frm p H (upd Hx o (.lst ys)) := fun {Hx xs ys} fx hx => ⟨fun b u eb nb => by rw [upd_ne (ne_of_none eb no)]; exact fx _ _ eb nb, fun c hc => by
          obtain ⟨k1, k2, e⟩ := fx.ce c hc
          exact ⟨k1, k2, by rw [upd_ne npo]; exact e⟩⟩
        have hF2' := put_frm (ys := refs G ++ [.ref q1.1]) hF2 ho2
        have ho2' : (upd H2 o (.lst (refs G ++ [.ref q1.1]))) o = some (.lst (refs (G ++ [q1]))) := by rw [upd_same, refs_snoc]
        have hG2' : PairsAt (upd H2 o (.lst (refs G ++ [.ref q1.1]))) (G ++ [q1]) := fun w hw => by
          rcases List.mem_append.mp hw with k | k
          · exact (hG2 w k).elim (fun e => .inl (by rw [upd_ne (nG w k)]; exact e)) fun e => .inr (by rw [upd_ne (nG w k)]; exact e)
          · rw [List.mem_singleton.mp k]
            exact hTq.elim (fun e => .inl (by rw [upd_ne hn1]; exact e)) fun e => .inr (by rw [upd_ne hn1]; exact e)
        generalize upd H2 o (.lst (refs G ++ [.ref q1.1])) = H3 at *
        -- the second half
        refine ⟨_, rfl, .inl ⟨rfl, _, .inl (.inl ho2')⟩, _, rfl, _, rfl, _, _, rfl, rfl, .inl ⟨_, rfl, _, rfl, .inl ⟨_, rfl, _, _, rfl, _, rfl, two, fun u1 g1 => ?_⟩⟩⟩
        refine ⟨_, rfl, _, rfl, two, fun u2 g2 => ?_⟩
        refine ⟨_, rfl, _, rfl, two, fun u3 g3 => ?_⟩
        refine ⟨three, fun l2 hl2 => ?_⟩
        have hmn1 : (mnOf z.2.2 (z.2.1 + r + 1)) ≤ z.2.2 ∧ (mnOf z.2.2 (z.2.1 + r + 1)) ≤ (z.2.1 + r) + 1 ∧ z.2.1 ≤ (mnOf z.2.2 (z.2.1 + r + 1)) ∧ ((mnOf z.2.2 (z.2.1 + r + 1)) = z.2.2 ∨ (mnOf z.2.2 (z.2.1 + r + 1)) = (z.2.1 + r) + 1) := by
          have := mnOf_ok z.2.2 (z.2.1 + r + 1)
          omega
        have ta := same_lay (o := .tup [.int (mnOf z.2.2 (z.2.1 + r + 1)), .int z.2.2]) g1
        have tb := same_lay (o := .lst [.int (z.2.1 + r), .int z.2.2]) g2
        have tc := same_lay (o := .tup [.int z.2.1, .int z.2.2]) g3
        have td := same_lay (o := .lst [.ref u1, .ref u2, .ref u3]) hl2
        have tA := ((ta.trans tb).trans tc).trans td
        have hU : PairsAt (upd (upd (upd (upd H3 u1 (.tup [.int (mnOf z.2.2 (z.2.1 + r + 1)), .int z.2.2])) u2 (.lst [.int (z.2.1 + r), .int z.2.2])) u3 (.tup [.int z.2.1, .int z.2.2])) l2 (.lst [.ref u1, .ref u2, .ref u3])) [(u1, ((mnOf z.2.2 (z.2.1 + r + 1)), z.2.2)), (u2, ((z.2.1 + r), z.2.2)), (u3, (z.2.1, z.2.2))] := fun q hq => by
          simp only [List.mem_cons, List.not_mem_nil, or_false] at hq
          rcases hq with e | e | e <;> subst e
          · exact .inl (td _ _ (tc _ _ (tb _ _ upd_same)))
          · exact .inr (td _ _ (tc _ _ upd_same))
          · exact .inl (td _ _ upd_same)
        have nU : ∀ q ∈ [(u1, ((mnOf z.2.2 (z.2.1 + r + 1)), z.2.2)), (u2, ((z.2.1 + r), z.2.2)), (u3, (z.2.1, z.2.2))], q.1 ≠ o := fun q hq => by
          simp only [List.mem_cons, List.not_mem_nil, or_false] at hq
          rcases hq with e | e | e <;> subst e
          · exact (ne_of_none ho2' g1).symm
          · exact (ne_of_none (ta _ _ ho2') g2).symm
          · exact (ne_of_none (tb _ _ (ta _ _ ho2')) g3).symm
        have P3d := P2'.same' tA
        refine ⟨p, l2, refs [(u1, ((mnOf z.2.2 (z.2.1 + r + 1)), z.2.2)), (u2, ((z.2.1 + r), z.2.2)), (u3, (z.2.1, z.2.2))], _, rfl, .inl (.inl upd_same), Nat.succ_pos 2, (show 3 ≤ 1000 by decide), P3d, by omega, fun v H4 hv P4 F4 => ?_⟩
        obtain ⟨q2, hq2, rfl⟩ := List.mem_map.mp hv
        have hUq := (hU.frm F4 P3d) q2 hq2
        have hn2 := nU q2 hq2
        have hq2v : q2.2 = ((mnOf z.2.2 (z.2.1 + r + 1)), z.2.2) ∨ q2.2 = ((z.2.1 + r), z.2.2) ∨ q2.2 = (z.2.1, z.2.2) := by
          simp only [List.mem_cons, List.not_mem_nil, or_false] at hq2
          rcases hq2 with e | e | e <;> subst e
          · exact .inl rfl
          · exact .inr (.inl rfl)
          · exact .inr (.inr rfl)
        have ho4 := F4.lst P3d (tA _ _ ho2')
        have hG4 := (hG2'.same tA).frm F4 P3d
        have hF4 := (hF2'.trans (frmS tA)).trans F4
        refine ⟨o, _, _, rfl, rfl, ho4, small1000 (by rw [refs_len, List.length_append]; show G.length + 1 ≤ 1000; omega), ?_⟩
        have nG2 : ∀ w ∈ G ++ [q1], w.1 ≠ o := fun w hw => (List.mem_append.mp hw).elim (nG w) fun k => by rw [List.mem_singleton.mp k]; exact hn1
        refine ⟨_, _, _, (G ++ [q1]) ++ [q2], rfl, by rw [upd_same, refs_snoc _ q2], fun w hw => ?_, fun w hw => ?_, fun w hw => ?_, ?_, ?_, (P4.put (hF4.ce c0 hc0) ho4 nco).mono (by omega), put_frm hF4 ho4⟩
        · rcases List.mem_append.mp hw with k | k
          · exact (hG4 w k).elim (fun e => .inl (by rw [upd_ne (nG2 w k)]; exact e)) fun e => .inr (by rw [upd_ne (nG2 w k)]; exact e)
          · rw [List.mem_singleton.mp k]
            exact hUq.elim (fun e => .inl (by rw [upd_ne hn2]; exact e)) fun e => .inr (by rw [upd_ne hn2]; exact e)
        · exact (List.mem_append.mp hw).elim (nG2 w) fun k => by rw [List.mem_singleton.mp k]; exact hn2
        · rw [rws_snoc, rws_snoc] at hw
          rcases List.mem_append.mp hw with k | k
          · rcases List.mem_append.mp k with k | k
            · exact okG w k
            · rw [List.mem_singleton.mp k]
              rcases hq1v with e | e <;> rw [e]
              · exact okRow_of okz.1 hat1 (by omega)
              · exact okRow_of okz.1 okz.2.1 okz.2.2
          · rw [List.mem_singleton.mp k]
            rcases hq2v with e | e | e <;> rw [e]
            · exact okRow_of (by omega) hmn1.1 okz.2.2
            · exact okRow_of (by omega) hat2 okz.2.2
            · exact okRow_of okz.1 okz.2.1 okz.2.2
        · have e1 : (rws L).take (i + 1) = (rws L).take i ++ [z.2] := by rw [List.take_add_one, rws_get hz]; rfl
          rw [e1, rws_snoc, rws_snoc]
          refine mem_two mG fun x => ?_
          rcases hq1v with e | e <;> rcases hq2v with e' | e' | e' <;> rw [e, e'] <;> constructor <;> (intro hx; dsimp only at hx ⊢; omega)
        · rw [List.length_append, List.length_append, lG]
          show 2 * i + 1 + 1 = 2 * (i + 1)
          omega
      · rintro σ H' ⟨f, l, t, G, rfl, ho, hG, nG, okG, mG, lG, hPn, hFr⟩
        rw [refs_len] at lG hPn
        rw [refs_len, List.take_of_length_le (by rw [rws_len]; exact Nat.le_refl _)] at mG
        refine ⟨_, rfl, _, rfl, p, o, G, _, rfl, .inl (.inl ho), hG, by omega, hPn, by omega, fun o2 M H2 n2 ho2 hpm hM P2 F2 => ?_⟩
        have hmr : ∀ r, r ∈ rws M ↔ r ∈ rws G := fun r => (hpm.map (·.2)).mem_iff
        exact q o2 M H2 (hFr.free hPn n2) ho2 hM (fun r hr => okG r ((hmr r).mp hr)) (fun x => (mem_same hmr x).trans (mG x)) (by rw [hpm.length_eq]; omega) (P2.mono (by omega)) (hFr.trans F2)
end
end OR

namespace OR
open PySem PySem.Spec PyProof.Rows L2
/-! ### an object whose __init__ may raise, in a try; isinstance of what was caught -/
theorem make_at {X : Cx} {CX : CXT} {k : Nat} {f C : Addr} {fd : FuncData} {ps : List Str} {sp : Sp} {E : XK} {ds : List Value} {dvs : List V} {pins : List (Addr × Obj)} {σ : L2.St} {H : Hp} {s : Shared} {Q : VK} {us : List Value} {vs : List V} (M : Mk X.K C f)
    (F : FnOk X.prog X.w X.K X.mg X.base CX k f fd ps sp) (room : Room (k + 1) X.A) (hb : Binds X.K fd ps ds) (hd : Vals dvs ds) (hx : PassesAt CX X σ E) (I : Inv X pins σ H s) (r : Vals vs us)
    (h : ∀ x dx, H x = none → H dx = none → dx ≠ x → sp (.ref x :: (vs ++ dvs)) (upd (upd H dx (.own x)) x (.ins C dx [])) (fun v H2 => v = .non ∧ Q (.ref x) H2) E) :
    wpAny (model X.prog X.w) X.A (call (.ref C) us) (EP X pins σ Q) X.xe s := by
  let n := s.heap.objs.size
  have hn := h (n + 1) n (I.hok.fresh (Nat.le_succ _)) (I.hok.fresh (Nat.le_refl _)) (Nat.ne_of_lt (Nat.lt_succ_self _))
  have J := Inv.made (C := C) I
  have rs : Vals (V.ref (n + 1) :: (vs ++ dvs)) (Value.ref (n + 1) :: (us ++ ds)) := .cons rfl (r.append hd)
  have ln : (Value.ref (n + 1) :: us ++ ds).length = ps.length := (rs.length.symm.trans (F.len _ _ _ _ hn))
  have body := F.run _ X.stack _ _ ⟨Value.ref (n + 1) :: us, []⟩ (Value.ref (n + 1) :: (us ++ ds)) _ _ E (room.make C us []) (J.env0.make C us []) (hb _ (Value.ref (n + 1) :: us) J.kIn ln) rs hn
  refine wpAny_call (make_map (f := f) I.kIn M.makes M.init (beq_iff_eq.mp M.fn) (codeAny_mono body fun r s' g => ?_))
  rcases r with e | fl
  · exact hx pins _ _ e s' J g
  cases fl with
  | ret u =>
    obtain ⟨v, H', I3, rv, ev, g3⟩ := J.after g
    subst ev
    exact ⟨rv, ⟨V.ref (n + 1), H', I3, rfl, g3⟩⟩
  | _ => exact False.elim g
/-- C(..) with the wish of a try -/
def tMakeS (C : Addr) (sp : Sp) (dvs : List V) (E : L2.St → XK) (t : TA) : TE := fun σ H Q => t σ H fun vs H1 => ∀ x dx, H1 x = none → H1 dx = none → dx ≠ x →
  sp (.ref x :: (vs ++ dvs)) (upd (upd H1 dx (.own x)) x (.ins C dx [])) (fun v H2 => v = .non ∧ Q (.ref x) H2) (E σ)
theorem pe_makeS {X : Cx} {CX : CXT} {k : Nat} {f C : Addr} {fd : FuncData} {ps : List Str} {sp : Sp} {E : L2.St → XK} {ds : List Value} {dvs : List V} {x : Str} {e : Expr} {es : List Expr} {t : TA} {p pos : Pos} (M : Mk X.K C f) (F : FnOk X.prog X.w X.K X.mg X.base CX k f fd ps sp) (room : Room (k + 1) X.A)
    (hg : Gl X x) (hm : X.mg x = some (.ref C)) (hb : Binds X.K fd ps ds) (hd : Vals dvs ds) (hx : ∀ σ, PassesAt CX X σ (E σ)) (ha : PA X (e :: es) t) (hdb : (x == ("__debug__" : Str)) = false := by decide)
    (he : starEach (e :: es) X.env = (false, eval e X.env) :: starEach es X.env := by rfl) (hpl : (backTo pos (starEach es X.env)).any (·.1) = false := by rfl) : PE X (.Call (.Name x p) (e :: es) [] pos) (tMakeS C sp dvs E t) := by
  refine ⟨fun pins s σ H Q I h => wpAny_Call_Name_kw (ld_glob I hg hm ?_ hdb)⟩
  exact PySem.W.callWith_K (h₀ := X.base) I.ok.mod.kin M.kp (thn (ha.run pos pins s σ H _ I h) fun us s1 ⟨vs, H1, I1, r, q⟩ => ⟨I1.kIn, make_at M F room hb hd (hx σ) I1 r q⟩) he hpl
/-- isinstance(e, c), e what the suite holds, with a dict of its own -/
def rIsX (K : PySem.W.Frag) (D a : Addr) (cls : Value) (d : Option Addr) : List V → Hp → VK → Prop := fun xs H Q => cls = .ref D ∧ ∃ (dd : Addr) (fs : List (Str × V)), d = some dd ∧ H dd = some (.xd fs) ∧ ∃ (c : V) (cv : Value) (b : Bool), xs = [.ref a, c] ∧ (∀ u, RelV c u → u = cv) ∧ PySem.W.kitOne K (.ref D) cv = some b ∧ Q (.bl b) H
theorem call_isX {X : Cx} {a D : Addr} {oe : Obj} {cls : Value} {d : Option Addr} {pn : List (Addr × Obj)} (G : ExcC X.K D) (hz : Zc cls d oe) (hf : ∃ vs, oe.data = .fields vs) : CallR (X.suite a ((a, oe) :: pn)) (.builtin "isinstance") (rIsX X.K D a cls d) := by
  intro pins s σ H xs us Q I r h
  obtain ⟨ec, dd, fs, ed, hdd, c, cv, b, rfl, hcv, hk, q⟩ := h
  subst ec ed
  obtain ⟨u1, u2, rfl, r1, r2⟩ := r.two
  cases r1
  have e2 := hcv _ r2
  subst e2
  have pinned := (I.pin (a, oe) (List.mem_append.mpr (.inl List.mem_cons_self))).1
  obtain ⟨vs, hdat⟩ := hf
  obtain ⟨mA, hns, _⟩ := I.hok dd _ hdd
  obtain ⟨od, ho, _⟩ := lookIn_ns hns
  have J : PySem.W.InstAt s.heap a oe D (some od) := ⟨pinned, hz.1, by unfold PySem.W.notCls; rw [hdat] <;> rfl, by rw [hz.2]; exact ho⟩
  have hcl : (PySem.W.clsIn X.K D).isSome = true := by
    obtain ⟨cd, hc, _⟩ := PySem.W.any_some G.hd
    rw [hc]
    rfl
  exact PySem.W.kia_one (PySem.W.kitx_exc hcl G.hg G.hk G.hs G.ha G.hn G.ht G.hm) I.kIn J hk (fun z => nomatch z) fun tk => ⟨.bl b, H, I.kept (t' := tk) fun _ _ z => z, rfl, q⟩
/-! ### BadStretch(index) -/
def spBsI (CB : Addr) : Sp := fun vs H Q _ => ∃ (a : Addr) (v : V), vs = [.ref a, v] ∧ H a = some (exo a CB none) ∧ ∀ dx, H dx = none → dx ≠ a → Q .non (upd (upd H dx (exd dx [(("index" : Str), v)])) a (exo a CB (some dx)))
/-- what the top has left of the class -/
structure BsTxt (K : PySem.W.Frag) (mg : Str → Option Value) (CB CR fI : Addr) : Prop where
  gB : mg "BadStretch" = some (.ref CB)
  gR : mg "RangesError" = some (.ref CR)
  ox : OexC K CB
  xf : XfC K CB
  xc : ExcC K CB
  noI : PySem.W.findIn K (.ref CB) "index" = some none
  iC : PySem.W.findIn K (.ref CB) "__init__" = some (some (.ref fI))
  tI : PySem.W.typeIn K (.ref fI) = some (.type "function")
  self : PySem.W.exmOne K (.ref CB) (.ref CB) = some true
  kR : PySem.W.kitOne K (.ref CB) (.ref CR) = some true
section
variable {P : Program} {w : World} {K : PySem.W.Frag} {mg : Str → Option Value} {base : Heap}
theorem scBsI : FnScope ["self", "index"] ["self", "index"] (defScope sBsInit) := ⟨rfl, rfl, rfl, by decide +kernel, rfl, by decide +kernel, by decide +kernel⟩
theorem ok_bsinit {f CB CR fI : Addr} {fd : FuncData} (F : Fun K "__init__" "BadStretch.__init__" sBsInit f fd) (T : BsTxt K mg CB CR fI) : FnOk P w K mg base CX0 1 f fd ["self", "index"] (spBsI CB) := by
  refine F.ok scBsI (fun vs H Q E h => ?_) (fun cdv A outer s H vs Q E hr h => ?_)
  · obtain ⟨a, v, rfl, _⟩ := h
    rfl
  · obtain ⟨a, v, rfl, ha, q⟩ := h
    refine ⟨_, pss_one (ps_ost (pv 0) (pv 1)), ?_⟩
    exact ⟨_, rfl, _, rfl, a, CB, rfl, T.ox, T.noI, .inl ⟨ha, q⟩⟩
end
/-! ### any value as a stretch -/
def PlV (K : PySem.W.Frag) (H : Hp) (x : V) (b : Bool) : Prop := (∃ n, x = .int n ∧ b = placeB n) ∨ ∃ (T : String) (b1 b2 : Bool), TyX K H x (.type T) ∧ kitB T "int" = some b1 ∧ kitB T "bool" = some b2 ∧ (b1 && !b2) = false ∧ b = false
def StV0 (K : PySem.W.Frag) (H : Hp) (v : V) (b : Bool) : Prop := (∃ a r, v = .ref a ∧ PairAt H a r ∧ b = okRow r) ∨
  (∃ T : String, TyX K H v (.type T) ∧ PySem.W.kitAny K (.type T) [.type "tuple", .type "list"] = some false ∧ b = false) ∨
  (∃ a xs, v = .ref a ∧ (H a = some (.tup xs) ∨ H a = some (.lst xs)) ∧ xs.length ≠ 2 ∧ b = false) ∨
  ∃ a x y bx, v = .ref a ∧ (H a = some (.tup [x, y]) ∨ H a = some (.lst [x, y])) ∧ PlV K H x bx ∧ (bx = true → PlV K H y false) ∧ b = false
def StV (K : PySem.W.Frag) (H : Hp) (v : V) (b : Bool) : Prop := ∀ H', Same H H' → StV0 K H' v b
theorem StV.same {K : PySem.W.Frag} {H H' : Hp} {v : V} {b : Bool} (h : StV K H v b) (s : Same H H') : StV K H' v b := fun H2 s2 => h H2 (s.trans s2)
def spIsStretchG (K : PySem.W.Frag) : Sp := fun vs H Q _ => ∃ v b, vs = [v] ∧ StV K H v b ∧ ∀ H', Same H H' → Q (.bl b) H'
section
variable {P : Program} {w : World} {K : PySem.W.Frag} {mg : Str → Option Value} {base : Heap}
theorem ok_isstretchG {f C : Addr} {fd : FuncData} (F : Fun K "_is_stretch" "_is_stretch" sIsStretch f fd) (T : PTxt K mg C) (I : Cl P w K mg base 2 "is_place" ["value"] (spIsPlace K)) : FnOk P w K mg base CX0 3 f fd ["value"] (spIsStretchG K) := by
  refine F.ok scIsS (fun vs H Q E h => ?_) (fun cdv A outer s H vs Q E hr h => ?_)
  · obtain ⟨v, b, rfl, _⟩ := h
    rfl
  · obtain ⟨v, b, rfl, hv, q⟩ := h
    have nd := scIsS.nd
    refine ⟨_, pss_cons (ps_if (PW.pt (pw_or (pt_not (pt_val (pe_callB call_isiT (by rfl) T.zIsi bt_isi (pa_cons (pv 0) (pa_cons (pe_tup (pa_cons (pe_bltn (v := .ty "tuple") (by rfl) T.zTup bt_tup rfl) (pa_cons (pe_bltn (v := .ty "list") (by rfl) T.zList bt_list rfl) pa_nil))) pa_nil)))))
        (pw_or1 (pt_cmpR op_ne (pe_callB call_len_seq (by rfl) T.zLen PySem.boot_len (pa_cons (pv 0) pa_nil)) pe_int (nomark _))))) (pss_one (ps_ret pe_bl)) pss_nil)
      (pss_cons (ps_asg (pv 0) (pg_or (pg_tup rfl (pgs_cons (pg_name (i := 1) nd rfl (.inl rfl)) (pgs_cons (pg_name (i := 2) nd rfl (.inl rfl)) pgs_nil))) (pg_unl rfl (pgs_cons (pg_name (i := 1) nd rfl (.inl rfl)) (pgs_cons (pg_name (i := 2) nd rfl (.inl rfl)) pgs_nil)))))
      (pss_one (ps_ret (pe_and (pe_cl I hr (by decide) (by rfl) (pa_cons (pv 1) pa_nil)) (pe_and (pe_cl I hr (by decide) (by rfl) (pa_cons (pv 2) pa_nil)) (pe_one (pe_cmpR op_le (pv 1) (pv 2) (nomark _)))))))), ?_⟩
    refine ⟨_, rfl, by show 2 ≤ sizeLine; decide, fun t ht => ?_⟩
    have S1 := same_lay (o := .tup [.ty "tuple", .ty "list"]) ht
    have htt : (upd H t (.tup [.ty "tuple", .ty "list"])) t = some (.tup [.ty "tuple", .ty "list"]) := upd_same
    have q1 := q _ S1
    have hv1 := hv _ S1
    generalize upd H t (.tup [.ty "tuple", .ty "list"]) = H1 at *
    -- the pairs, the others
    have isSeq : ∀ (a : Addr) (xs : List V), H1 a = some (.tup xs) ∨ H1 a = some (.lst xs) → (∃ T, TyX K H1 (.ref a) (.type T) ∧ PySem.W.kitAny K (.type T) [.type "tuple", .type "list"] = some true) ∧ (SqL K H1 a xs ∨ SqT K H1 a xs) := fun a xs h => by
      rcases h with e | e
      · exact ⟨⟨"tuple", .base (.tup e), kitAny_cons (kit_ty (b := "tuple") (r := true) (by decide +kernel)) (fun z => nomatch z) fun _ => rfl⟩, .inr (.inl (.inl e))⟩
      · exact ⟨⟨"list", .base (.lst e), kitAny_cons (kit_ty (b := "tuple") (r := false) (by decide +kernel)) (fun _ => kitAny_cons (kit_ty (b := "list") (r := true) (by decide +kernel)) (fun z => nomatch z) fun _ => rfl) fun z => nomatch z⟩, .inl (.inl (.inl e))⟩
    have hv2 : (∃ (a : Addr) (x y : V) (bx : Bool), v = .ref a ∧ (H1 a = some (.tup [x, y]) ∨ H1 a = some (.lst [x, y])) ∧ PlV K H1 x bx ∧ (bx = false → b = false) ∧ (bx = true → ∃ c, PlV K H1 y c ∧ (c = false → b = false) ∧ (c = true → ∃ m n, x = .int m ∧ y = .int n ∧ b = decide (m ≤ n)))) ∨
        (∃ T : String, TyX K H1 v (.type T) ∧ PySem.W.kitAny K (.type T) [.type "tuple", .type "list"] = some false ∧ b = false) ∨ ∃ a xs, v = .ref a ∧ (H1 a = some (.tup xs) ∨ H1 a = some (.lst xs)) ∧ xs.length ≠ 2 ∧ b = false := by
      rcases hv1 with ⟨a, r, e, hp, eb⟩ | h | h | ⟨a, x, y, bx, e, h, px, py, eb⟩
      · refine .inl ⟨a, .int r.1, .int r.2, placeB r.1, e, hp, .inl ⟨_, rfl, rfl⟩, fun e1 => ?_, fun e1 => ⟨placeB r.2, .inl ⟨_, rfl, rfl⟩, fun e2 => ?_, fun e2 => ⟨_, _, rfl, rfl, ?_⟩⟩⟩
        · rw [eb, okRow, e1]; rfl
        · rw [eb, okRow, e1, e2]; rfl
        · rw [eb, okRow, e1, e2]; rfl
      · exact .inr (.inl h)
      · exact .inr (.inr h)
      · exact .inl ⟨a, x, y, bx, e, h, px, fun _ => eb, fun e1 => ⟨false, py e1, fun _ => eb, fun e2 => nomatch e2⟩⟩
    rcases hv2 with ⟨a, x, y, bx, rfl, h, px, h0, h1⟩ | ⟨ty, hT, hk, rfl⟩ | ⟨a, xs, rfl, h, hl, rfl⟩
    · obtain ⟨⟨ty, hT, hk⟩, hseq⟩ := isSeq a _ h
      refine ⟨.ref a, t, _, .type ty, [.type "tuple", .type "list"], true, rfl, htt, .cons (.ty "tuple") (.cons (.ty "list") .nil), hT, hk, true, rfl, iteF ?_⟩
      refine ⟨_, rfl, a, _, rfl, hseq, rfl, _, rfl, iteNS rfl ?_⟩
      have tail : ∀ σ : L2.St, σ = [some (.ref a), some x, some y] → (tRet (tAndV (tCall (spIsPlace K) [] E0 (tCons (tVar 1) tNil)) (tAndV (tCall (spIsPlace K) [] E0 (tCons (tVar 2) tNil)) (tOp (rI0 fun i j => .bl (decide (i ≤ j))) (tVar 1) (tVar 2))))) { nx := fun _ H' => Q .non H', rt := Q } σ H1 := by
        intro σ e
        subst e
        rcases px with ⟨n, rfl, rfl⟩ | ⟨T, b1, b2, k1, k2, k3, k4, rfl⟩
        · refine ⟨_, rfl, _, rfl, .inl ⟨n, rfl, _, rfl, ?_⟩⟩
          cases hb : placeB n with
          | false =>
            rw [h0 hb] at q1
            exact iteF q1
          | true =>
            obtain ⟨c, py, c0, c1⟩ := h1 hb
            refine iteT ?_
            rcases py with ⟨m, rfl, rfl⟩ | ⟨T, b1, b2, k1, k2, k3, k4, rfl⟩
            · refine ⟨_, rfl, _, rfl, .inl ⟨m, rfl, _, rfl, ?_⟩⟩
              cases hc : placeB m with
              | false =>
                rw [c0 hc] at q1
                exact iteF q1
              | true =>
                obtain ⟨m', n', e1, e2, eb⟩ := c1 hc
                cases e1
                cases e2
                rw [eb] at q1
                exact iteT ⟨_, rfl, _, rfl, _, _, rfl, rfl, q1⟩
            · rw [c0 rfl] at q1
              exact ⟨_, rfl, _, rfl, .inr ⟨T, b1, b2, k1, k2, k3, k4, _, rfl, iteF q1⟩⟩
        · rw [h0 rfl] at q1
          exact ⟨_, rfl, _, rfl, .inr ⟨T, b1, b2, k1, k2, k3, k4, _, rfl, iteF q1⟩⟩
      rcases h with e | e
      · exact ⟨_, rfl, .inl ⟨a, _, rfl, .inl (.inl e), rfl, _, _, rfl, _, _, rfl, rfl, tail _ rfl⟩⟩
      · exact ⟨_, rfl, .inr ⟨a, _, rfl, .inl (.inl e), rfl, _, _, rfl, _, _, rfl, rfl, tail _ rfl⟩⟩
    · exact ⟨_, t, _, .type ty, [.type "tuple", .type "list"], false, rfl, htt, .cons (.ty "tuple") (.cons (.ty "list") .nil), hT, hk, false, rfl, iteT q1⟩
    · obtain ⟨⟨ty, hT, hk⟩, hseq⟩ := isSeq a _ h
      refine ⟨.ref a, t, _, .type ty, [.type "tuple", .type "list"], true, rfl, htt, .cons (.ty "tuple") (.cons (.ty "list") .nil), hT, hk, true, rfl, iteF ?_⟩
      refine ⟨_, rfl, a, _, rfl, hseq, rfl, _, rfl, ?_⟩
      have ne : (!decide (V.int (xs.length : Int) = V.int 2)) = true := by
        rw [Bool.not_eq_true', decide_eq_false_iff_not]
        intro e
        have := V.int.inj e
        omega
      rw [ne]
      exact iteT q1
end
end OR

namespace OR
open PySem PySem.Spec PyProof.Rows L2
/-! ### Places(stretches), of any list -/
def spPlInitX (K : PySem.W.Frag) (C CB : Addr) : Sp := fun vs H Q E => ∃ (x dx a : Addr) (xs : List V), vs = [.ref x, .ref a] ∧ H x = some (.ins C dx []) ∧ (SqL K H a xs ∨ SqT K H a xs) ∧ xs.length ≤ 1000 ∧
  ((∃ L : List ARow, xs = refs L ∧ PairsAt H L ∧ (∀ r ∈ rws L, okRow r = true) ∧ ∀ (l : List Row) (H' : Hp), (∀ c o, H c = some o → c ≠ x → H' c = some o) → IsP C H' x l → (∀ z, mem l z ↔ mem (rws L) z) → l.length ≤ L.length → Q .non H') ∨
   (∃ (j : Nat) (y : V), xs[j]? = some y ∧ (∀ (i : Nat) (v : V), i < j → xs[i]? = some v → StV K H v true) ∧ StV K H y false ∧ ∀ (d : Addr) (H' : Hp), H d = none → H' d = some (.xd [(("index" : Str), .int (j : Nat))]) → Same H H' → E (.ref CB) (some d) H'))
section
variable {P : Program} {w : World} {K : PySem.W.Frag} {mg : Str → Option Value} {base : Heap}
theorem ok_plinitX {f C CB CR fI : Addr} {fd fdI : FuncData} {dvs : List V} (F : FunD K "__init__" "Places.__init__" (defArgs sPlInit) (defBody sPlInit) (defScope sPlInit) dvs [] f fd) (T : PTxt K mg C) (BT : BsTxt K mg CB CR fI) (FB : FnOk P w K mg base CX0 1 fI fdI ["self", "index"] (spBsI CB)) (bB : Binds K fdI ["self", "index"] []) (S : Cl P w K mg base 3 "_is_stretch" ["value"] (spIsStretchG K))
    (J : Cl P w K mg base 1 "_joined" ["stretches"] (spJoined K)) (B : Cl P w K mg base 1 "_counts_before" ["stretches"] (spCounts K)) : FnOk P w K mg base (L2.CX P w) 4 f fd ["self", "stretches"] (spPlInitX K C CB) := by
  refine F.ok scPI (fun vs H Q E h => ?_) (fun cdv A outer s H vs Q E hr h => ?_)
  · obtain ⟨x, dx, a, xs, rfl, _⟩ := h
    rfl
  · obtain ⟨x, dx, a, xs, rfl, hx, hS, hlen, h⟩ := h
    have nd := scPI.nd
    have room : Room (1 + 1) _ := hr.mono (by decide)
    have hb : PSs (cxOf (L2.CX P w) P w K mg base ["self", "stretches", "index", "stretch", "first", "_"] "Places.__init__" (defScope sPlInit) f cdv A outer s H E) (defBody sPlInit) _ := (pss_cons (ps_for PassesOwn.leaving rfl (pi_or (pi_enum (by rfl) T.zEnum (pa_cons (pv 1) pa_nil)) (pi_enumT (by rfl) T.zEnum (pa_cons (pv 1) pa_nil)))
          (pg_tup rfl (pgs_cons (pg_name (i := 2) nd rfl (.inl rfl)) (pgs_cons (pg_name (i := 3) nd rfl (.inl rfl)) pgs_nil)))
        (pss_one (ps_if (pt_not (pt_val (pe_cl S hr (by decide) (by rfl) (pa_cons (pv 3) pa_nil)))) (pss_one (ps_raise rfl (takes_of rfl rfl rfl rfl) (pmk_oex BT.ox BT.iC BT.tI FB room bB .nil pass0 (by rfl) BT.gB (pa_cons (pv 2) pa_nil)))) pss_nil)))
      (PSs.nox (X := cxOf (L2.CX P w) P w K mg base ["self", "stretches", "index", "stretch", "first", "_"] "Places.__init__" (defScope sPlInit) f cdv A outer s H E) (pss_cons (ps_fld (pv 0) (pe_cl J hr (by decide) (by rfl) (pa_cons (pv 1) pa_nil)) rfl)
      (pss_cons (ps_fld (pv 0) (pe_callTy call_tuple_of (by rfl) T.zTup bt_tup (pa_cons
          (pe_lc (own := [("first", 4), ("_", 5)]) (g := gTup K 2 (gCons (gName 4) (gCons (gName 5) gNil))) (tt := tYes) rfl nd (pi_tup (pe_fld (pv 0) rfl)) (blkOk_by (N := ["self", "stretches", "index", "stretch", "first", "_"]) (sc := defScope sPlInit) (by decide +kernel))
            (fun _ _ _ _ _ => pg_tup rfl (pgs_cons (pg_name (i := 4) nd rfl (.inl rfl)) (pgs_cons (pg_name (i := 5) nd rfl (.inl rfl)) pgs_nil))) (fun _ _ _ _ _ => pts_nil) (fun _ _ _ _ _ => pv 4)) pa_nil)) rfl)
      (pss_one (ps_fld (pv 0) (pe_cl B hr (by decide) (by rfl) (pa_cons (pe_fld (pv 0) rfl) pa_nil)) rfl))))))
    refine ⟨_, hb, ?_⟩
    clear hb
    rcases h with ⟨L, rfl, hP, hok, q⟩ | ⟨j, yj, hj, hgood, hbad, q⟩
    rotate_left
    · have hjl : j < xs.length := (List.getElem?_eq_some_iff.mp hj).1
      rcases hS with hS' | hS'
      · refine .inl ⟨_, rfl, a, xs, rfl, hS', for_enum (K := K) (a := a) (xs := xs) (fun i σ H' => ∃ i1 s1, σ = [some (.ref x), some (.ref a), i1, s1, none, none] ∧ Same H H' ∧ i ≤ j)
          ⟨none, none, rfl, Same.refl _, Nat.zero_le _⟩ (fun i σ H' _ ⟨_, _, _, s, _⟩ => s.seq hS') ?_ ?_⟩
        · rintro i y σ H' Tn hy ⟨i1, s1, rfl, S1, hij⟩ hT
          refine ⟨Tn, _, rfl, .inl (.inl upd_same), rfl, _, _, rfl, _, _, rfl, rfl, ?_⟩
          have s2 := S1.trans (same_lay (o := .tup [.int (i : Nat), y]) hT)
          rcases Nat.lt_or_eq_of_le hij with lt | e
          · refine ⟨_, rfl, y, true, rfl, (hgood i y lt hy).same s2, fun H3 S3 => ⟨_, rfl, iteF ?_⟩⟩
            exact ⟨_, _, rfl, s2.trans S3, lt⟩
          · subst e
            have ey : y = yj := Option.some.inj (hy.symm.trans hj)
            subst ey
            refine ⟨_, rfl, y, false, rfl, hbad.same s2, fun H3 S3 => ⟨_, rfl, iteT ?_⟩⟩
            have s4 := s2.trans S3
            refine ⟨_, rfl, by show 1 ≤ 1000; decide, fun b nb => ⟨b, _, rfl, upd_same, fun d nd1 ne1 => ⟨rfl, d, [(("index" : Str), .int (i : Nat))], upd_same, ?_, ?_, ?_⟩⟩⟩
            · rw [upd_ne ne1]
              exact upd_same
            · rw [upd_ne ne1] at nd1
              exact nd1
            · have nd2 := nd1
              rw [upd_ne ne1] at nd2
              refine q d _ (s4.free nd2) upd_same fun c o e => ?_
              have e4 := s4 _ _ e
              have ncb : c ≠ b := ne_of_none e4 nb
              have ncd : c ≠ d := ne_of_none e4 nd2
              rw [upd_ne ncd, del_ne ncb, upd_ne ncb, upd_ne ncd, upd_ne ncb]
              exact e4
        · rintro σ H' ⟨i1, s1, rfl, S1, hij⟩
          omega
      · refine .inr ⟨_, rfl, a, xs, rfl, hS', for_enumT (K := K) (a := a) (xs := xs) (fun i σ H' => ∃ i1 s1, σ = [some (.ref x), some (.ref a), i1, s1, none, none] ∧ Same H H' ∧ i ≤ j)
          ⟨none, none, rfl, Same.refl _, Nat.zero_le _⟩ (fun i σ H' _ ⟨_, _, _, s, _⟩ => sameT s hS') ?_ ?_⟩
        · rintro i y σ H' Tn hy ⟨i1, s1, rfl, S1, hij⟩ hT
          refine ⟨Tn, _, rfl, .inl (.inl upd_same), rfl, _, _, rfl, _, _, rfl, rfl, ?_⟩
          have s2 := S1.trans (same_lay (o := .tup [.int (i : Nat), y]) hT)
          rcases Nat.lt_or_eq_of_le hij with lt | e
          · refine ⟨_, rfl, y, true, rfl, (hgood i y lt hy).same s2, fun H3 S3 => ⟨_, rfl, iteF ?_⟩⟩
            exact ⟨_, _, rfl, s2.trans S3, lt⟩
          · subst e
            have ey : y = yj := Option.some.inj (hy.symm.trans hj)
            subst ey
            refine ⟨_, rfl, y, false, rfl, hbad.same s2, fun H3 S3 => ⟨_, rfl, iteT ?_⟩⟩
            have s4 := s2.trans S3
            refine ⟨_, rfl, by show 1 ≤ 1000; decide, fun b nb => ⟨b, _, rfl, upd_same, fun d nd1 ne1 => ⟨rfl, d, [(("index" : Str), .int (i : Nat))], upd_same, ?_, ?_, ?_⟩⟩⟩
            · rw [upd_ne ne1]
              exact upd_same
            · rw [upd_ne ne1] at nd1
              exact nd1
            · have nd2 := nd1
              rw [upd_ne ne1] at nd2
              refine q d _ (s4.free nd2) upd_same fun c o e => ?_
              have e4 := s4 _ _ e
              have ncb : c ≠ b := ne_of_none e4 nb
              have ncd : c ≠ d := ne_of_none e4 nd2
              rw [upd_ne ncd, del_ne ncb, upd_ne ncb, upd_ne ncd, upd_ne ncb]
              exact e4
        · rintro σ H' ⟨i1, s1, rfl, S1, hij⟩
          omega
    rw [refs_len] at hlen
    -- what follows the loop
    have after : ∀ (σ : L2.St) (H1 : Hp) (i1 s1 : Option V), σ = [some (.ref x), some (.ref a), i1, s1, none, none] → Same H H1 → (tSeq (sFld K (tVar 0) (tCall (spJoined K) [] E0 (tCons (tVar 1) tNil)) "stretches")
        (tSeq (sFld K (tVar 0) (tCB (fun xs H Q => ∃ p ys, xs = [V.ref p] ∧ ((SqL K H p ys ∧ ∀ l, H l = none → Q (.ref l) (upd H l (.tup ys))) ∨ (SqT K H p ys ∧ Q (.ref p) H))) (tCons (tLc (iTup K (tFld K (tVar 0) "stretches")) (gTup K 2 (gCons (gName 4) (gCons (gName 5) gNil))) tYes (tVar 4) [4, 5]) tNil)) "_firsts")
        (sFld K (tVar 0) (tCall (spCounts K) [] E0 (tCons (tFld K (tVar 0) "stretches") tNil)) "_before"))) { nx := fun _ H' => Q .non H', rt := Q } σ H1 := by
      rintro σ H1 i1 s1 rfl S1
      have hS1 : SqL K H1 a (refs L) ∨ SqT K H1 a (refs L) := hS.elim (fun e => .inl (S1.seq e)) fun e => .inr (sameT S1 e)
      refine ⟨_, rfl, a, L, rfl, hS1, hlen, hP.same S1, fun r hr => okRow_le (hok r hr), fun t M H2 S2 nt ht hM hnf hme hlM => ?_⟩
      have hx2 := S2 _ _ (S1 _ _ hx)
      refine ⟨_, rfl, x, C, dx, [], rfl, hx2, T.cl, T.nS, (by show 0 < 1000; decide), ?_⟩
      have ntx : t ≠ x := ne_of ht hx2 (by intro z; cases z)
      have nMx : ∀ p ∈ M, p.1 ≠ x := fun p hp => ne_of (hM p hp) hx2 (by intro z; cases z)
      -- firsts
      generalize hH3 : upd H2 x (.ins C dx (putF "stretches" (.ref t) [])) = H3
      have hx3 : H3 x = some (.ins C dx (putF "stretches" (.ref t) [])) := by rw [← hH3, upd_same]
      have ht3 : H3 t = some (.tup (refs M)) := by rw [← hH3, upd_ne ntx]; exact ht
      have hM3 : AtR H3 M := fun p hp => by rw [← hH3, upd_ne (nMx p hp)]; exact hM p hp
      have f3 : ∀ c o, H c = some o → c ≠ x → H3 c = some o := fun c o e n => by rw [← hH3, upd_ne n]; exact S2 _ _ (S1 _ _ e)
      have lk : (putF "stretches" (V.ref t) []).lookup ("stretches" : Str) = some (V.ref t) := by rw [lookup_putF, if_pos rfl]
      refine ⟨_, rfl, x, C, dx, _, _, rfl, hx3, T.cl, T.nS, lk, t, rfl, ⟨_, .inl (.inl ht3)⟩, fun D hD => lc_tup (K := K) (a := t) (xs := refs M) (fun i H4 => H4 D = some (.lst ((rws M).take i |>.map fun r => V.int r.1)) ∧ Same H3 H4)
        ⟨upd_same, same_lay hD⟩ (fun i H4 _ ⟨_, s⟩ => .inl (.inl (s _ _ ht3))) ?_ ?_⟩
      · rintro i y H4 hy ⟨hD4, s4⟩
        obtain ⟨z, hz, hzM, rfl⟩ := refs_get hy
        have hil : i < M.length := (List.getElem?_eq_some_iff.mp hz).1
        have ez := s4 _ _ (hM3 z hzM)
        refine ⟨z.1, _, rfl, .inl (.inl ez), rfl, _, _, rfl, _, _, rfl, rfl, rfl, yesT ?_⟩
        refine ⟨_, rfl, _, hD4, small1000 (by rw [List.length_map, List.length_take]; omega), ?_, same_upd s4 hD⟩
        have e1 : (rws M).take (i + 1) = (rws M).take i ++ [z.2] := by rw [List.take_add_one, rws_get hz]; rfl
        rw [upd_same, e1, List.map_append]
        rfl
      · rintro H4 ⟨hD4, s4⟩
        rw [refs_len, List.take_of_length_le (by rw [rws_len]; exact Nat.le_refl _)] at hD4
        refine ⟨D, _, rfl, .inl ⟨.inl (.inl hD4), fun f nf => ?_⟩⟩
        have s5 := same_lay (o := .tup ((rws M).map fun r => V.int r.1)) nf
        have s35 := s4.trans s5
        have hx5 := s35 _ _ hx3
        refine ⟨_, rfl, x, C, dx, _, rfl, hx5, T.cl, T.nF, (by show 1 < 1000; decide), ?_⟩
        have nfx : f ≠ x := by
          intro e
          rw [e] at nf
          rw [s4 _ _ hx3] at nf
          cases nf
        generalize hH6 : upd (upd H4 f (.tup ((rws M).map fun r => V.int r.1))) x (.ins C dx (putF "_firsts" (.ref f) (putF "stretches" (.ref t) []))) = H6
        have hx6 : H6 x = some (.ins C dx (putF "_firsts" (.ref f) (putF "stretches" (.ref t) []))) := by rw [← hH6, upd_same]
        have ht6 : H6 t = some (.tup (refs M)) := by rw [← hH6, upd_ne ntx]; exact s35 _ _ ht3
        have hM6 : AtR H6 M := fun p hp => by rw [← hH6, upd_ne (nMx p hp)]; exact s35 _ _ (hM3 p hp)
        have hf6 : H6 f = some (.tup ((rws M).map fun r => V.int r.1)) := by rw [← hH6, upd_ne nfx, upd_same]
        have f6 : ∀ c o, H c = some o → c ≠ x → H6 c = some o := fun c o e n => by rw [← hH6, upd_ne n]; exact s35 _ _ (f3 c o e n)
        have lk6 : (putF "_firsts" (V.ref f) (putF "stretches" (V.ref t) [])).lookup ("stretches" : Str) = some (V.ref t) := by
          rw [lookup_putF, if_neg (fun e => kFS e.symm), lookup_putF, if_pos rfl]
        refine ⟨_, rfl, x, C, dx, _, _, rfl, hx6, T.cl, T.nS, lk6, t, M, rfl, ht6, hM6, Nat.le_trans hlM hlen, fun b H7 s7 nb hb => ?_⟩
        have hx7 := s7 _ _ hx6
        refine ⟨_, rfl, x, C, dx, _, rfl, hx7, T.cl, T.nB, (by show 2 < 1000; decide), ?_⟩
        have nbx : b ≠ x := ne_of hb hx7 (by intro z; cases z)
        refine q (rws M) _ (fun c o e n => by rw [upd_ne n]; exact s7 _ _ (f6 c o e n)) ⟨hnf, dx, t, f, b, M, upd_same, ?_, fun p hp => ?_, rfl, ?_, ?_, Nat.le_trans hlM hlen⟩ hme (by rw [rws_len]; exact hlM)
        · rw [upd_ne ntx]; exact s7 _ _ ht6
        · rw [upd_ne (nMx p hp)]; exact s7 _ _ (hM6 p hp)
        · rw [upd_ne nfx]; exact s7 _ _ hf6
        · rw [upd_ne nbx]; exact hb
    rcases hS with hS' | hS'
    · refine .inl ⟨_, rfl, a, refs L, rfl, hS', for_enum (K := K) (a := a) (xs := refs L) (fun i σ H' => ∃ i1 s1, σ = [some (.ref x), some (.ref a), i1, s1, none, none] ∧ Same H H')
        ⟨none, none, rfl, Same.refl _⟩ (fun i σ H' _ ⟨_, _, _, s⟩ => s.seq hS') ?_ ?_⟩
      · rintro i y σ H' Tn hy ⟨i1, s1, rfl, S1⟩ hT
        obtain ⟨z, hz, hzL, rfl⟩ := refs_get hy
        have s2 := same_lay (o := .tup [.int (i : Nat), .ref z.1]) hT
        have pz := (hP.same (S1.trans s2)) z hzL
        have okz : okRow z.2 = true := hok z.2 (mem_rws.mpr ⟨z.1, hzL⟩)
        refine ⟨Tn, _, rfl, .inl (.inl upd_same), rfl, _, _, rfl, _, _, rfl, rfl, ?_⟩
        refine ⟨_, rfl, .ref z.1, true, rfl, fun H3 s3 => .inl ⟨z.1, z.2, rfl, (hP.same ((S1.trans s2).trans s3)) z hzL, okz.symm⟩, fun H'' S3 => ⟨_, rfl, ?_⟩⟩
        exact iteF ⟨_, _, rfl, (S1.trans s2).trans S3⟩
      · rintro σ H' ⟨i1, s1, rfl, S1⟩
        exact after _ _ i1 s1 rfl S1
    · refine .inr ⟨_, rfl, a, refs L, rfl, hS', for_enumT (K := K) (a := a) (xs := refs L) (fun i σ H' => ∃ i1 s1, σ = [some (.ref x), some (.ref a), i1, s1, none, none] ∧ Same H H')
        ⟨none, none, rfl, Same.refl _⟩ (fun i σ H' _ ⟨_, _, _, s⟩ => sameT s hS') ?_ ?_⟩
      · rintro i y σ H' Tn hy ⟨i1, s1, rfl, S1⟩ hT
        obtain ⟨z, hz, hzL, rfl⟩ := refs_get hy
        have s2 := same_lay (o := .tup [.int (i : Nat), .ref z.1]) hT
        have pz := (hP.same (S1.trans s2)) z hzL
        have okz : okRow z.2 = true := hok z.2 (mem_rws.mpr ⟨z.1, hzL⟩)
        refine ⟨Tn, _, rfl, .inl (.inl upd_same), rfl, _, _, rfl, _, _, rfl, rfl, ?_⟩
        refine ⟨_, rfl, .ref z.1, true, rfl, fun H3 s3 => .inl ⟨z.1, z.2, rfl, (hP.same ((S1.trans s2).trans s3)) z hzL, okz.symm⟩, fun H'' S3 => ⟨_, rfl, ?_⟩⟩
        exact iteF ⟨_, _, rfl, (S1.trans s2).trans S3⟩
      · rintro σ H' ⟨i1, s1, rfl, S1⟩
        exact after _ _ i1 s1 rfl S1
end
end OR

namespace OR
open PySem PySem.Spec PyProof.Rows L2
/-! ### _law_refused -/
structure PMkX (P : Program) (w : World) (K : PySem.W.Frag) (mg : Str → Option Value) (base : Heap) (C CB : Addr) : Prop where
  made : ∃ f fd t0, Mk K C f ∧ FnOk P w K mg base (L2.CX P w) 4 f fd ["self", "stretches"] (spPlInitX K C CB) ∧ Binds K fd ["self", "stretches"] [] ∧ Binds K fd ["self", "stretches"] [.ref t0] ∧ ∀ H : Hp, SqT K H t0 []
theorem made_same {C x dx : Addr} {H H' : Hp} (nx : H x = none) (ndx : H dx = none) (hs : ∀ c o, (upd (upd H dx (.own x)) x (.ins C dx [])) c = some o → c ≠ x → H' c = some o) : Same H H' := fun c o e => by
  have ncx : c ≠ x := ne_of_none e nx
  refine hs c o ?_ ncx
  rw [upd_ne ncx, upd_ne (ne_of_none e ndx)]
  exact e
def spRefused (K : PySem.W.Frag) : Sp := fun vs H Q _ => ∃ (a : Addr) (xs : List V), vs = [.ref a] ∧ (SqL K H a xs ∨ SqT K H a xs) ∧ xs.length ≤ 1000 ∧
  ((∃ L : List ARow, xs = refs L ∧ PairsAt H L ∧ (∀ r ∈ rws L, okRow r = true) ∧ ∀ H', Same H H' → Q (.int (-1)) H') ∨
   (∃ (j : Nat) (y : V), xs[j]? = some y ∧ (∀ (i : Nat) (v : V), i < j → xs[i]? = some v → StV K H v true) ∧ StV K H y false ∧ ∀ H', Same H H' → Q (.int (j : Nat)) H'))
section
variable {P : Program} {w : World} {K : PySem.W.Frag} {mg : Str → Option Value} {base : Heap}
theorem scRf : FnScope ["_law_rows", "e"] ["_law_rows"] (defScope sRefused) := ⟨rfl, rfl, rfl, by decide +kernel, rfl, by decide +kernel, by decide +kernel⟩
theorem ok_refused {f C CB CR fI : Addr} {fd : FuncData} (F : Fun K "_law_refused" "_law_refused" sRefused f fd) (T : PTxt K mg C) (BT : BsTxt K mg CB CR fI) (M : PMkX P w K mg base C CB) : FnOk P w K mg base CX0 6 f fd ["_law_rows"] (spRefused K) := by
  refine F.ok scRf (fun vs H Q E h => ?_) (fun cdv A outer s H vs Q E hr h => ?_)
  · obtain ⟨a, xs, rfl, _⟩ := h
    rfl
  · obtain ⟨a, xs, rfl, hS, hlen, h⟩ := h
    have nd := scRf.nd
    obtain ⟨f0, fd0, t0, mk, F0, hb, _⟩ := M.made
    have room : Room (4 + 1) _ := hr
    refine ⟨_, pss_cons (ps_try_as (i := 1) (Wout := fun _ _ _ _ => False) rfl rfl nd rfl rfl ⟨rfl, by decide, .inl BT.gB⟩ takes0
        (fun W pn xe tk _ => pss_one (ps_expr (by exact (pe_makeS mk F0 room (by rfl) T.mgC hb .nil (fun σ => passAt tk σ) (by exact (pa_cons (pv 0) pa_nil))))))
        (fun a oe cls d pn hz hf => pss_one (ps_ret (by exact (pe_ifExp (pt_val (pe_callB (call_isX BT.xc hz hf) (by rfl) T.zIsi bt_isi (pa_cons (pv 1) (pa_cons (pe_glob (v := .ref CR) (by rfl) BT.gR rfl) pa_nil)))) (pe_xf BT.xf BT.noI hz hf (pv 1)) pe_non)))))
      (pss_one (ps_ret (pe_un un_neg pe_int))), ?_⟩
    refine ⟨_, rfl, fun x dx nx ndx nex => ?_⟩
    have S1 : Same H (upd (upd H dx (.own x)) x (.ins C dx [])) := fun c o e => by
      rw [upd_ne (ne_of_none e nx), upd_ne (ne_of_none e ndx)]
      exact e
    refine ⟨x, dx, a, xs, rfl, upd_same, hS.elim (fun e => .inl (S1.seq e)) (fun e => .inr (sameT S1 e)), hlen, ?_⟩
    rcases h with ⟨L, rfl, hP, hok, q⟩ | ⟨j, y, hj, hg, hb, q⟩
    · exact .inl ⟨L, rfl, hP.same S1, hok, fun l H' hfr hp hme hle => ⟨rfl, 1, rfl, q _ (made_same nx ndx hfr)⟩⟩
    · refine .inr ⟨j, y, hj, fun i v hi hv => (hg i v hi hv).same S1, hb.same S1, fun d H' nd2 hd s => ⟨true, BT.self, fun _ a0 na0 => ?_, fun q => Bool.noConfusion q⟩⟩
      refine ⟨_, rfl, rfl, d, _, rfl, hd, .ref CR, .ref CR, true, rfl, (fun _ h => h), BT.kR, _, rfl, iteT ?_⟩
      exact ⟨_, rfl, rfl, rfl, d, _, .int (j : Nat), rfl, hd, by simp [List.lookup], q _ (S1.trans s)⟩
end
end OR

namespace OR
open PySem PySem.Spec PyProof.Rows L2
/-! ### wrong values -/
/-- a value that is no stretch: what it stands on is new since H0 -/
def WrV (K : PySem.W.Frag) (H0 H : Hp) (v : V) : Prop := ∃ fs : List (Addr × HO), (∀ q ∈ fs, H0 q.1 = none ∧ H q.1 = some q.2) ∧ ∀ H', (∀ q ∈ fs, H' q.1 = some q.2) → StV0 K H' v false
theorem WrV.mono {K : PySem.W.Frag} {H0 H0' H H' : Hp} {v : V} (h : WrV K H0 H v) (s0 : Same H0' H0) (s : Same H H') : WrV K H0' H' v := by
  obtain ⟨fs, h1, h2⟩ := h
  exact ⟨fs, fun q hq => ⟨s0.free (h1 q hq).1, s _ _ (h1 q hq).2⟩, h2⟩
theorem WrV.st {K : PySem.W.Frag} {H0 H : Hp} {v : V} (h : WrV K H0 H v) : StV K H v false := by
  obtain ⟨fs, h1, h2⟩ := h
  exact fun H' s => h2 H' fun q hq => s _ _ (h1 q hq).2
theorem WrV.zero {K : PySem.W.Frag} {H0 H : Hp} {v : V} (h : ∀ H', StV0 K H' v false) : WrV K H0 H v := ⟨[], fun _ z => (nomatch z), fun H' _ => h H'⟩
theorem WrV.one {K : PySem.W.Frag} {H0 H : Hp} {v : V} {t : Addr} {o : HO} (h0 : H0 t = none) (h1 : H t = some o) (h : ∀ H', H' t = some o → StV0 K H' v false) : WrV K H0 H v :=
  ⟨[(t, o)], fun q hq => by rw [List.mem_singleton.mp hq]; exact ⟨h0, h1⟩, fun H' k => h H' (k _ List.mem_cons_self)⟩
theorem any_no {K : PySem.W.Frag} {T : String} (h1 : kitB T "tuple" = some false) (h2 : kitB T "list" = some false) : PySem.W.kitAny K (.type T) [.type "tuple", .type "list"] = some false :=
  kitAny_cons (kit_ty h1) (fun _ => kitAny_cons (kit_ty h2) (fun _ => rfl) fun z => nomatch z) fun z => nomatch z
theorem st_type {K : PySem.W.Frag} {H : Hp} {v : V} (T : String) (h : TyX K H v (.type T)) (h1 : kitB T "tuple" = some false) (h2 : kitB T "list" = some false) : StV0 K H v false := .inr (.inl ⟨T, h, any_no h1 h2, rfl⟩)
theorem st_len {K : PySem.W.Frag} {H : Hp} {a : Addr} {xs : List V} (h : H a = some (.tup xs) ∨ H a = some (.lst xs)) (n : xs.length ≠ 2) : StV0 K H (.ref a) false := .inr (.inr (.inl ⟨a, xs, rfl, h, n, rfl⟩))
theorem st_pair {K : PySem.W.Frag} {H : Hp} {a : Addr} {r : Row} (h : PairAt H a r) (n : okRow r = false) : StV0 K H (.ref a) false := .inl ⟨a, r, rfl, h, n.symm⟩
theorem pl_bool {K : PySem.W.Frag} {H : Hp} (b : Bool) : PlV K H (.bl b) false := .inr ⟨"bool", true, true, .base (.bl b), by decide +kernel, by decide +kernel, rfl, rfl⟩
theorem pl_str {K : PySem.W.Frag} {H : Hp} (x : Str) : PlV K H (.str x) false := .inr ⟨"str", false, false, .base (.str x), by decide +kernel, by decide +kernel, rfl, rfl⟩
theorem pl_non {K : PySem.W.Frag} {H : Hp} : PlV K H .non false := .inr ⟨"NoneType", false, false, .base .non, by decide +kernel, by decide +kernel, rfl, rfl⟩
theorem pl_tup {K : PySem.W.Frag} {H : Hp} {a : Addr} {xs : List V} (h : H a = some (.tup xs)) : PlV K H (.ref a) false := .inr ⟨"tuple", false, false, .base (.tup h), by decide +kernel, by decide +kernel, rfl, rfl⟩
theorem pl_int {K : PySem.W.Frag} {H : Hp} (n : Int) : PlV K H (.int n) (placeB n) := .inl ⟨n, rfl, rfl⟩
theorem st_first {K : PySem.W.Frag} {H : Hp} {a : Addr} {x y : V} (h : H a = some (.tup [x, y])) (p : PlV K H x false) : StV0 K H (.ref a) false := .inr (.inr (.inr ⟨a, x, y, false, rfl, .inl h, p, fun z => (nomatch z), rfl⟩))
theorem st_second {K : PySem.W.Frag} {H : Hp} {a : Addr} {x : Int} {y : V} (h : H a = some (.tup [.int x, y])) (p : PlV K H y false) : StV0 K H (.ref a) false := .inr (.inr (.inr ⟨a, .int x, y, placeB x, rfl, .inl h, pl_int x, fun _ => p, rfl⟩))
/-! an element, a row of elements -/
def XAt (σ : L2.St) : Prop := ∃ x : Int, σ[1]? = some (some (.int x)) ∧ 0 ≤ x ∧ x ≤ lastP
def tWr (K : PySem.W.Frag) : TE := fun σ H Q => XAt σ ∧ ∀ (v : V) (H' : Hp), Same H H' → WrV K H H' v → Q v H'
def tWrs (K : PySem.W.Frag) (n : Nat) : TA := fun σ H Q => XAt σ ∧ ∀ (vs : List V) (H' : Hp), Same H H' → vs.length = n → (∀ v ∈ vs, WrV K H H' v) → Q vs H'
theorem pa_imp {X : Cx} {es : List Expr} {t t' : TA} (h : PA X es t) (i : ∀ σ H Q, t' σ H Q → t σ H Q) : PA X es t' := ⟨fun pos pins s σ H Q I q => h.run pos pins s σ H Q I (i σ H Q q)⟩
theorem pa_wnil {X : Cx} (K : PySem.W.Frag) : PA X [] (tWrs K 0) := pa_imp pa_nil fun σ H Q ⟨_, q⟩ => q [] H (Same.refl _) rfl fun _ z => nomatch z
theorem pa_w {X : Cx} {K : PySem.W.Frag} {e : Expr} {es : List Expr} {n : Nat} (he : PE X e (tWr K)) (hs : PA X es (tWrs K n)) (hst : starEach (e :: es) X.env = (false, eval e X.env) :: starEach es X.env := by rfl) : PA X (e :: es) (tWrs K (n + 1)) :=
  pa_imp (pa_cons he hs hst) fun σ H Q ⟨x, q⟩ => ⟨x, fun v H1 s1 w1 => ⟨x, fun vs H2 s2 ln w2 => q (v :: vs) H2 (s1.trans s2) (by rw [List.length_cons, ln]) fun u hu => by
    rcases List.mem_cons.mp hu with e | hu
    · rw [e]
      exact w1.mono (Same.refl _) s2
    · exact (w2 u hu).mono s1 (Same.refl _)⟩⟩
def spWrong (K : PySem.W.Frag) : Sp := fun vs H Q _ => ∃ (p : Addr) (n : Nat), vs = [.ref p] ∧ Pen H p n ∧ n ≤ 700000 ∧ ∀ (v : V) (H' : Hp), WrV K H H' v → Pen H' p (n + 10) → Frm p H H' → Q v H'
section
variable {P : Program} {w : World} {K : PySem.W.Frag} {mg : Str → Option Value} {base : Heap}
theorem scWr : FnScope ["_law_pen_here", "_law_x", "_law_some"] ["_law_pen_here"] (defScope sWrong) := ⟨rfl, rfl, rfl, by decide +kernel, rfl, by decide +kernel, by decide +kernel⟩
theorem bt_str : bootBuiltins ("str" : Str) = some (.type "str") := by decide +kernel
theorem ok_wrong {f : Addr} {fd : FuncData} (F : Fun K "_law_wrong" "_law_wrong" sWrong f fd) (zStr : mg "str" = none) (S : Cl P w K mg base 2 "_law_spot" ["_law_pen_here"] spSpot) (C : Cl P w K mg base 2 "_law_pick" ["_law_pen_here", "_law_items"] (spPick K)) : FnOk P w K mg base CX0 3 f fd ["_law_pen_here"] (spWrong K) := by
  refine F.ok scWr (fun vs H Q E h => ?_) (fun cdv A outer s H vs Q E hr h => ?_)
  · obtain ⟨p, n, rfl, _⟩ := h
    rfl
  · obtain ⟨p, n, rfl, hP, hn, q⟩ := h
    have nd := scWr.nd
    have hpow : CPow 10 30 := ⟨by decide, by decide, by decide⟩
    have e30 : (10 : Int) ^ (30 : Int).toNat = lastP := by decide
    have one : 1 ≤ sizeLine := by decide
    have two : 2 ≤ sizeLine := by decide
    have three : 3 ≤ sizeLine := by decide
    have small : ∀ x : Int, 0 ≤ x → x ≤ lastP → x.natAbs.log2 < 1920 := fun x h0 h1 => by
      have h2 : x.natAbs ≤ 10 ^ 30 := by
        have : lastP = 10 ^ 30 := rfl
        omega
      have h3 : x.natAbs < 2 ^ 100 := Nat.lt_of_le_of_lt h2 (by decide)
      have h4 : x.natAbs.log2 < 100 := by
        by_cases z : x.natAbs = 0
        · rw [z]; decide
        · exact (Nat.log2_lt z).mpr h3
      omega
    refine ⟨_, pss_cons (ps_set (i := 1) nd rfl (.inl rfl) (pe_cl S hr (by decide) (by rfl) (pa_cons (pv 0) pa_nil)))
      (pss_cons (ps_set (i := 2) nd rfl (.inl rfl) (pe_lst
        (pa_w (pe_imp (pe_tup (pa_cons (pe_op op_add (pv 1) pe_int) (pa_cons (pv 1) pa_nil))) fun σ H Q ⟨⟨x, hx, h0, h1⟩, q⟩ => ⟨_, hx, _, _, rfl, rfl, _, hx, two, fun t ht => q _ _ (same_lay ht) (.one ht upd_same fun H' h => st_pair (r := (x + 1, x)) (.inl h) (by unfold okRow placeB; simp; omega))⟩)
        (pa_w (pe_imp (pe_lst (pa_cons (pe_op op_add (pv 1) pe_int) (pa_cons (pv 1) pa_nil))) fun σ H Q ⟨⟨x, hx, h0, h1⟩, q⟩ => ⟨_, hx, _, _, rfl, rfl, _, hx, two, fun t ht => q _ _ (same_lay ht) (.one ht upd_same fun H' h => st_pair (r := (x + 1, x)) (.inr h) (by unfold okRow placeB; simp; omega))⟩)
        (pa_w (pe_imp (pe_tup (pa_cons (pe_un un_neg pe_int) (pa_cons (pv 1) pa_nil))) fun σ H Q ⟨⟨x, hx, h0, h1⟩, q⟩ => ⟨_, rfl, _, hx, two, fun t ht => q _ _ (same_lay ht) (.one ht upd_same fun H' h => st_pair (r := (-1, x)) (.inl h) (by unfold okRow placeB; simp))⟩)
        (pa_w (pe_imp (pe_tup (pa_cons (pv 1) (pa_cons (pe_op op_add (pe_op op_pow pe_int pe_int) pe_int) pa_nil))) fun σ H Q ⟨⟨x, hx, h0, h1⟩, q⟩ => ⟨_, hx, _, _, rfl, rfl, hpow, _, _, rfl, rfl, two, fun t ht => q _ _ (same_lay ht) (.one ht upd_same fun H' h => st_pair (r := (x, (10 : Int) ^ (30 : Int).toNat + 1)) (.inl h) (by unfold okRow placeB; rw [e30]; simp; omega))⟩)
        (pa_w (pe_imp (pe_tup (pa_cons pe_bl (pa_cons pe_int pa_nil))) fun σ H Q ⟨_, q⟩ => ⟨two, fun t ht => q _ _ (same_lay ht) (.one ht upd_same fun H' h => st_first h (pl_bool _))⟩)
        (pa_w (pe_imp (pe_tup (pa_cons pe_int (pa_cons pe_bl pa_nil))) fun σ H Q ⟨_, q⟩ => ⟨two, fun t ht => q _ _ (same_lay ht) (.one ht upd_same fun H' h => st_second h (pl_bool _))⟩)
        (pa_w (pe_imp (pe_tup (pa_cons (pv 1) pa_nil)) fun σ H Q ⟨⟨x, hx, h0, h1⟩, q⟩ => ⟨_, hx, one, fun t ht => q _ _ (same_lay ht) (.one ht upd_same fun H' h => st_len (.inl h) (by decide : 1 ≠ 2))⟩)
        (pa_w (pe_imp (pe_tup (pa_cons (pv 1) (pa_cons (pv 1) (pa_cons (pv 1) pa_nil)))) fun σ H Q ⟨⟨x, hx, h0, h1⟩, q⟩ => ⟨_, hx, _, hx, _, hx, three, fun t ht => q _ _ (same_lay ht) (.one ht upd_same fun H' h => st_len (.inl h) (by decide : 3 ≠ 2))⟩)
        (pa_w (pe_imp (pe_lst pa_nil) fun σ H Q ⟨_, q⟩ => ⟨Nat.zero_le _, fun t ht => q _ _ (same_lay ht) (.one ht upd_same fun H' h => st_len (.inr h) (by decide : 0 ≠ 2))⟩)
        (pa_w (pe_imp (pe_tup pa_nil) fun σ H Q ⟨_, q⟩ => ⟨Nat.zero_le _, fun t ht => q _ _ (same_lay ht) (.one ht upd_same fun H' h => st_len (.inl h) (by decide : 0 ≠ 2))⟩)
        (pa_w (pe_imp pe_non fun σ H Q ⟨_, q⟩ => q _ _ (Same.refl _) (.zero fun H' => st_type "NoneType" (.base .non) (by decide +kernel) (by decide +kernel)))
        (pa_w (pe_imp (pv 1) fun σ H Q ⟨⟨x, hx, h0, h1⟩, q⟩ => ⟨_, hx, q _ _ (Same.refl _) (.zero fun H' => st_type "int" (.base (.int x)) (by decide +kernel) (by decide +kernel))⟩)
        (pa_wnil K))))))))))))))
      ) (pss_cons (ps_set (i := 2) nd rfl (.inl rfl) (pe_op op_cat (pv 2) (pe_lst
        (pa_w (pe_imp pe_str fun σ H Q ⟨_, q⟩ => q _ _ (Same.refl _) (.zero fun H' => st_type "str" (.base (.str _)) (by decide +kernel) (by decide +kernel)))
        (pa_w (pe_imp pe_str fun σ H Q ⟨_, q⟩ => q _ _ (Same.refl _) (.zero fun H' => st_type "str" (.base (.str _)) (by decide +kernel) (by decide +kernel)))
        (pa_w (pe_imp (pe_tup (pa_cons (pv 1) (pa_cons (pe_callTy call_str_int (by rfl) zStr bt_str (pa_cons (pv 1) pa_nil)) pa_nil))) fun σ H Q ⟨⟨x, hx, h0, h1⟩, q⟩ => ⟨_, hx, _, hx, x, rfl, small x h0 h1, two, fun t ht => q _ _ (same_lay ht) (.one ht upd_same fun H' h => st_second h (pl_str _))⟩)
        (pa_w (pe_imp (pe_tup (pa_cons pe_str (pa_cons (pv 1) pa_nil))) fun σ H Q ⟨⟨x, hx, h0, h1⟩, q⟩ => ⟨_, hx, two, fun t ht => q _ _ (same_lay ht) (.one ht upd_same fun H' h => st_first h (pl_str _))⟩)
        (pa_w (pe_imp (pe_tup (pa_cons pe_non (pa_cons (pv 1) pa_nil))) fun σ H Q ⟨⟨x, hx, h0, h1⟩, q⟩ => ⟨_, hx, two, fun t ht => q _ _ (same_lay ht) (.one ht upd_same fun H' h => st_first h pl_non)⟩)
        (pa_w (pe_imp (pe_tup (pa_cons (pv 1) (pa_cons pe_non pa_nil))) fun σ H Q ⟨⟨x, hx, h0, h1⟩, q⟩ => ⟨_, hx, two, fun t ht => q _ _ (same_lay ht) (.one ht upd_same fun H' h => st_second h pl_non)⟩)
        (pa_w (pe_imp pe_dnewK fun σ H Q ⟨_, q⟩ => fun t ht => q _ _ (same_lay ht) (.one ht upd_same fun H' h => st_type "dict" (.base (.dK h)) (by decide +kernel) (by decide +kernel)))
        (pa_w (pe_imp (pe_disp (pps_cons pe_int pe_int (pps_cons pe_int pe_int pps_nil)) rfl rfl (by simp) (by decide)) fun σ H Q ⟨_, q⟩ => fun t ht => ⟨upd_same, [(.inl 0, .int 1), (.inl 1, .int 2)], rfl, by show 2 ≤ 15; decide, q _ _ (fun b o e => by rw [upd_ne (ne_of_none e ht), upd_ne (ne_of_none e ht)]; exact e) (.one ht upd_same fun H' h => st_type "dict" (.base (.dK h)) (by decide +kernel) (by decide +kernel))⟩)
        (pa_w (pe_imp (pe_tup (pa_cons (pe_tup (pa_cons pe_int (pa_cons pe_int pa_nil))) (pa_cons pe_int pa_nil))) fun σ H Q ⟨_, q⟩ => ⟨two, fun u hu => ⟨two, fun t ht => q _ _ ((same_lay hu).trans (same_lay ht)) ⟨[(u, .tup [.int 0, .int 1]), (t, .tup [.ref u, .int 2])], fun g hg => by
            rcases List.mem_cons.mp hg with e | hg
            · rw [e]
              exact ⟨hu, same_lay ht _ _ upd_same⟩
            · rw [List.mem_singleton.mp hg]
              exact ⟨(same_lay hu).free ht, upd_same⟩, fun H' h => st_first (h _ (List.mem_cons_of_mem _ List.mem_cons_self)) (pl_tup (h _ List.mem_cons_self))⟩⟩⟩)
        (pa_wnil K)))))))))))))
      (pss_one (ps_ret (pe_cl C hr (by decide) (by rfl) (pa_cons (pv 0) (pa_cons (pv 2) pa_nil))))))), ?_⟩
    refine ⟨_, rfl, p, n, rfl, hP, by omega, fun x H1 hx P1 F1 => ?_⟩
    have bx := place_iff hx
    refine ⟨⟨x, rfl, bx.1, bx.2⟩, fun vs H2 s2 ln hw => ⟨by rw [ln]; decide, fun l1 nl1 => ?_⟩⟩
    have v1 := same_lay (o := .lst vs) nl1
    refine ⟨_, rfl, ⟨x, rfl, bx.1, bx.2⟩, fun us H3 s3 ln2 hw2 => ⟨by rw [ln2]; decide, fun l2 nl2 => ?_⟩⟩
    have v2 := same_lay (o := .lst us) nl2
    refine ⟨l1, l2, vs, us, rfl, rfl, v2 _ _ (s3 _ _ upd_same), upd_same, by rw [ln, ln2]; decide, fun l3 nl3 => ?_⟩
    have v3 := same_lay (o := .lst (vs ++ us)) nl3
    have S := (((s2.trans v1).trans s3).trans v2).trans v3
    have P4 := P1.same' S
    refine ⟨_, rfl, _, rfl, p, l3, vs ++ us, _, rfl, .inl (.inl upd_same), by rw [List.length_append, ln, ln2]; decide, by rw [List.length_append, ln, ln2]; decide, P4, by omega, fun v H5 hv P5 F5 => ?_⟩
    have hv1 : WrV K H1 (upd (upd H3 l2 (.lst us)) l3 (.lst (vs ++ us))) v := by
      rcases List.mem_append.mp hv with h | h
      · exact (hw v h).mono (Same.refl _) (((v1.trans s3).trans v2).trans v3)
      · exact (hw2 v h).mono (s2.trans v1) (v2.trans v3)
    obtain ⟨fs, k1, k2⟩ := hv1
    obtain ⟨kvs, hp⟩ := hP.dict
    obtain ⟨kvs1, hp1⟩ := P1.dict
    exact q v H5 ⟨fs, fun g hg => ⟨F1.free P1 (k1 g hg).1, F5 _ _ (k1 g hg).2 (fun e => by have := (k1 g hg).1; rw [e, hp1] at this; cases this)⟩, k2⟩ (P5.mono (by omega)) (F1.trans ((frmS S).trans F5))
end
end OR

namespace OR
open PySem PySem.Spec PyProof.Rows L2
/-! ### the law -/
theorem ins_lt {l : List V} {k i : Nat} {y : V} (hk : k ≤ l.length) (h : i < k) : (l.take k ++ [y] ++ l.drop k)[i]? = l[i]? := by
  rw [List.append_assoc, List.getElem?_append_left (by rw [List.length_take]; omega), List.getElem?_take_of_lt h]
theorem ins_at {l : List V} {k : Nat} {y : V} (hk : k ≤ l.length) : (l.take k ++ [y] ++ l.drop k)[k]? = some y := by
  rw [List.append_assoc, List.getElem?_append_right (by rw [List.length_take]; omega), List.length_take, Nat.min_eq_left hk, Nat.sub_self]
  rfl
theorem ins_len {l : List V} {k : Nat} {y : V} (hk : k ≤ l.length) : (l.take k ++ [y] ++ l.drop k).length = l.length + 1 := by
  rw [List.length_append, List.length_append, List.length_take, List.length_drop, List.length_singleton]
  omega
/-- a wrong value beside a list at o and a pen at p -/
def Wq (K : PySem.W.Frag) (p o : Addr) (H : Hp) (v : V) : Prop := ∃ fs : List (Addr × HO), (∀ q ∈ fs, q.1 ≠ o ∧ q.1 ≠ p ∧ H q.1 = some q.2) ∧ ∀ H', (∀ q ∈ fs, H' q.1 = some q.2) → StV0 K H' v false
theorem Wq.st {K : PySem.W.Frag} {p o : Addr} {H : Hp} {v : V} (h : Wq K p o H v) : StV K H v false := by
  obtain ⟨fs, h1, h2⟩ := h
  exact fun H' s => h2 H' fun q hq => s _ _ (h1 q hq).2.2
theorem Wq.same {K : PySem.W.Frag} {p o : Addr} {H H' : Hp} {v : V} (h : Wq K p o H v) (s : Same H H') : Wq K p o H' v := by
  obtain ⟨fs, h1, h2⟩ := h
  exact ⟨fs, fun q hq => ⟨(h1 q hq).1, (h1 q hq).2.1, s _ _ (h1 q hq).2.2⟩, h2⟩
theorem Wq.frm {K : PySem.W.Frag} {p o : Addr} {H H' : Hp} {v : V} (h : Wq K p o H v) (f : Frm p H H') : Wq K p o H' v := by
  obtain ⟨fs, h1, h2⟩ := h
  exact ⟨fs, fun q hq => ⟨(h1 q hq).1, (h1 q hq).2.1, f _ _ (h1 q hq).2.2 (h1 q hq).2.1⟩, h2⟩
theorem Wq.put {K : PySem.W.Frag} {p o : Addr} {H : Hp} {v : V} {u : HO} (h : Wq K p o H v) : Wq K p o (upd H o u) v := by
  obtain ⟨fs, h1, h2⟩ := h
  exact ⟨fs, fun q hq => ⟨(h1 q hq).1, (h1 q hq).2.1, by rw [upd_ne (h1 q hq).1]; exact (h1 q hq).2.2⟩, h2⟩
theorem WrV.wq {K : PySem.W.Frag} {p o : Addr} {H0 H : Hp} {v : V} (h : WrV K H0 H v) (ho : H0 o ≠ none) (hp : H0 p ≠ none) : Wq K p o H v := by
  obtain ⟨fs, h1, h2⟩ := h
  exact ⟨fs, fun q hq => ⟨fun e => ho (by rw [← e]; exact (h1 q hq).1), fun e => hp (by rw [← e]; exact (h1 q hq).1), (h1 q hq).2⟩, h2⟩
def spLaw (K : PySem.W.Frag) : Sp := fun vs H Q _ => ∃ (a : Addr) (ns : List Int), vs = [.ref a] ∧ SqL K H a (ns.map V.int) ∧ ns.length ≤ 63 ∧ ∀ H', Q (.bl true) H'
/-- right ones up to k, a wrong one there -/
structure Front (M : List ARow) (xs : List V) (k : Nat) (v : V) : Prop where
  len : xs.length ≤ 300
  at_k : xs[k]? = some v
  below : ∀ (i : Nat) (u : V), i < k → xs[i]? = some u → ∃ z ∈ M, u = .ref z.1
theorem neI (k : Int) : (!decide (V.int k = V.int k)) = false := by simp
section
variable {P : Program} {w : World} {K : PySem.W.Frag} {mg : Str → Option Value} {base : Heap}
theorem scLaw : FnScope ["_law_script", "_law_pen_here", "_law_turn", "_law_rows", "_law_at", "_law_ends"] ["_law_script"] (defScope sLaw) := ⟨rfl, rfl, rfl, by decide +kernel, rfl, by decide +kernel, by decide +kernel⟩
theorem ok_law {f C : Addr} {fd : FuncData} (F : Fun K "law" "law" sLaw f fd) (B : Bd mg) (T : PTxt K mg C) (N : Cl P w K mg base 1 "_law_pen" ["_law_script"] (spPen K)) (D : Cl P w K mg base 1 "_law_draw" ["_law_pen_here", "_law_many"] spDraw)
    (DR : Cl P w K mg base 3 "_law_drawn" ["_law_pen_here", "_law_most"] spDrawn) (CU : Cl P w K mg base 3 "_law_cut" ["_law_pen_here", "_law_rows"] (spCut K)) (WR : Cl P w K mg base 3 "_law_wrong" ["_law_pen_here"] (spWrong K)) (RF : Cl P w K mg base 6 "_law_refused" ["_law_rows"] (spRefused K)) :
    FnOk P w K mg base CX0 7 f fd ["_law_script"] (spLaw K) := by
  refine F.ok scLaw (fun vs H Q E h => ?_) (fun cdv A outer s H vs Q E hr h => ?_)
  · obtain ⟨a, ns, rfl, _⟩ := h
    rfl
  · obtain ⟨sc, ns, rfl, hS, hlen, q⟩ := h
    have nd := scLaw.nd
    have hpow : CPow 10 30 := ⟨by decide, by decide, by decide⟩
    refine ⟨_, pss_cons (ps_set (i := 1) nd rfl (.inl rfl) (pe_cl N hr (by decide) (by rfl) (pa_cons (pv 0) pa_nil)))
      (pss_cons (ps_for PassesOwn.never rfl (pi_range1 (by rfl) B.range (pa_cons (pe_op op_add pe_int (pe_callB (call_min2 rfl) (by rfl) B.min bt_min (pa_cons pe_int (pa_cons (pe_callB call_len_seq (by rfl) B.len PySem.boot_len (pa_cons (pv 0) pa_nil)) pa_nil)))) pa_nil)) (pg_name (i := 2) nd rfl (.inl rfl))
        (pss_cons (ps_set (i := 3) nd rfl (.inl rfl) (pe_cl CU hr (by decide) (by rfl) (pa_cons (pv 1) (pa_cons (pe_cl DR hr (by decide) (by rfl) (pa_cons (pv 1) (pa_cons pe_int pa_nil))) pa_nil))))
        (pss_cons (ps_if (pt_cmpR op_ne (pe_cl RF hr (by decide) (by rfl) (pa_cons (pv 3) pa_nil)) (pe_un un_neg pe_int) (nomark _)) (pss_one (ps_ret pe_bl)) pss_nil)
        (pss_cons (ps_set (i := 4) nd rfl (.inl rfl) (pe_cl D hr (by decide) (by rfl) (pa_cons (pv 1) (pa_cons (pe_op op_add (pe_callB call_len_seq (by rfl) B.len PySem.boot_len (pa_cons (pv 3) pa_nil)) pe_int) pa_nil))))
        (pss_cons (ps_expr (pe_bm PySem.F.plainAttrs_list PySem.F.slot_list_insert PySem.F.type_list_insert mt_insert (pv 3) (pa_cons (pv 4) (pa_cons (pe_cl WR hr (by decide) (by rfl) (pa_cons (pv 1) pa_nil)) pa_nil))))
        (Evl.pss_cut (ps_if (pt_cmpR op_eq (pe_cl D hr (by decide) (by rfl) (pa_cons (pv 1) (pa_cons pe_int pa_nil))) pe_int (nomark _))
          (pss_one (ps_expr (pe_bm PySem.F.plainAttrs_list PySem.F.slot_list_insert PySem.F.type_list_insert mt_insert (pv 3) (pa_cons (pe_op op_add (pe_op op_add (pv 4) pe_int) (pe_cl D hr (by decide) (by rfl) (pa_cons (pv 1) (pa_cons (pe_op op_sub (pe_callB call_len_seq (by rfl) B.len PySem.boot_len (pa_cons (pv 3) pa_nil)) (pv 4)) pa_nil))))
            (pa_cons (pe_cl WR hr (by decide) (by rfl) (pa_cons (pv 1) pa_nil)) pa_nil))))) pss_nil)
        (pss_one (ps_if (PW.pt (pw_or (pt_cmpR op_ne (pe_cl RF hr (by decide) (by rfl) (pa_cons (pv 3) pa_nil)) (pv 4) (nomark _)) (pw_or1 (pt_cmpR op_ne (pe_cl RF hr (by decide) (by rfl) (pa_cons (pe_callTy call_tuple_of (by rfl) T.zTup bt_tup (pa_cons (pv 3) pa_nil)) pa_nil)) (pv 4) (nomark _))))) (pss_one (ps_ret pe_bl)) pss_nil))))))))
      (pss_cons (ps_set (i := 5) nd rfl (.inl rfl) (pe_lst (pa_cons (pe_tup (pa_cons pe_int (pa_cons pe_int pa_nil))) (pa_cons (pe_lst (pa_cons (pe_op op_pow pe_int pe_int) (pa_cons (pe_op op_pow pe_int pe_int) pa_nil)))
          (pa_cons (pe_tup (pa_cons pe_int (pa_cons (pe_op op_pow pe_int pe_int) pa_nil))) (pa_cons (pe_lst (pa_cons pe_int (pa_cons pe_int pa_nil))) pa_nil))))))
      (pss_one (ps_ret (pe_and (pe_cmpR op_eq (pe_cl RF hr (by decide) (by rfl) (pa_cons (pe_lst pa_nil) pa_nil)) (pe_un un_neg pe_int) (nomark _))
        (pe_and (pe_cmpR op_eq (pe_cl RF hr (by decide) (by rfl) (pa_cons (pv 5) pa_nil)) (pe_un un_neg pe_int) (nomark _))
          (pe_one (pe_cmpR op_eq (pe_cl RF hr (by decide) (by rfl) (pa_cons (pe_slice sl_list (pv 5) po_none (po_some pe_int)) pa_nil)) (pe_un un_neg pe_int) (nomark _))))))))), ?_⟩
    refine ⟨_, rfl, sc, ns, rfl, hS, hlen, fun p H1 np P0 S0 => ?_⟩
    generalize hJ : (3 : Int) + (if ((ns.map V.int).length : Int) < 3 then ((ns.map V.int).length : Int) else 3) = J
    have hJb : 0 ≤ J ∧ J ≤ 6 := by
      subst hJ
      split <;> omega
    refine ⟨_, rfl, sc, _, rfl, .inl (S0.seq hS), 3, _, rfl, _, _, rfl, rfl, J, congrArg (fun z => [V.int z]) hJ, by omega, by omega, for_range (n := J.toNat) (fun i σ H2 => ∃ s2 s3 s4, σ = [some (.ref sc), some (.ref p), s2, s3, s4, none] ∧ Pen H2 p (10000 * i))
      ⟨none, none, none, rfl, P0⟩ ?_ ?_⟩
    · rintro i σ H2 hi ⟨s2, s3, s4, rfl, P1⟩
      have hi6 : i < 6 := by omega
      refine ⟨_, rfl, _, rfl, p, 4, 10000 * i, rfl, by decide, P1, by omega, fun a L H3 na ha hL okL lenL P2 F2 => ?_⟩
      refine ⟨p, a, L, _, rfl, .inl (.inl (.inl ha)), hL, okL, by omega, P2, by omega, fun o M H4 no ho hM okM _ lenM P3 F3 => ?_⟩
      obtain ⟨c0, hc0, hcn⟩ := P2.cells
      have nco : c0 ≠ o := fun e => hcn (by rw [e]; exact no)
      have hc4 := F3.ce c0 hc0
      clear F3 F2 P2 ha hL na P1 no hc0 hcn
      have nM : ∀ z ∈ M, z.1 ≠ o := fun z hz e => by
        rcases hM z hz with k | k <;> rw [e, ho] at k <;> injection k with k
        · cases k
        · injection k with k
          cases M with
          | nil => cases hz
          | cons y M => injection k with k1 k2; cases k1
      -- right as they are
      refine ⟨_, rfl, o, refs M, rfl, .inl (.inl (.inl ho)), by rw [refs_len]; omega, .inl ⟨M, rfl, hM, okM, fun H5 S5 => ?_⟩⟩
      refine ⟨1, rfl, rfl, _, rfl, ?_⟩
      rw [neI]
      refine iteF ?_
      have ho5 := S5 _ _ ho
      have hM5 := hM.same S5
      have P5 := P3.same' S5
      have hc5 := (frmS (p := p) S5).ce c0 hc4
      clear S5 ho hM P3 hc4
      -- where
      refine ⟨_, rfl, _, rfl, o, _, rfl, .inl (.inl (.inl ho5)), _, _, rfl, rfl, p, _, _, rfl, ?_, ?_, P5, by omega, fun at0 H6 r0 r1 P6 F6 => ?_⟩
      · show (0 : Int) < ((refs M).length : Int) + 1
        omega
      · show (((refs M).length : Int) + 1).natAbs < 2 ^ 200
        rw [refs_len]
        exact Nat.lt_of_le_of_lt (show ((M.length : Int) + 1).natAbs ≤ 201 by omega) (by decide)
      have r1' : at0 < ((refs M).length : Int) + 1 := r1
      rw [refs_len] at r1'
      have ho6 := F6.lst P5 ho5
      have hM6 : PairsAt H6 M := hM5.frm F6 P5
      have hc6 := F6.ce c0 hc5
      obtain ⟨a1, rfl⟩ : ∃ n : Nat, at0 = (n : Int) := ⟨at0.toNat, by omega⟩
      have ha1 : a1 ≤ M.length := by omega
      clear ho5 hM5 hc5 r1 r0 r1'
      obtain ⟨kvs6, hp6⟩ := P6.dict
      refine ⟨_, rfl, .inl ⟨rfl, _, .inl (.inl ho6)⟩, _, rfl, _, rfl, p, _, rfl, P6, by omega, fun v H7 hv P7 F7 => ?_⟩
      have wq7 : Wq K p o H7 v := hv.wq (by rw [ho6]; simp) (by rw [hp6]; simp)
      have ho7 := F7.lst P6 ho6
      have hM7 := hM6.frm F7 P6
      have hc7 := F7.ce c0 hc6
      refine ⟨o, refs M, (a1 : Int), v, rfl, rfl, ho7, small1000 (by rw [refs_len]; omega), by omega, by omega, ?_⟩
      have hlen1 : a1 ≤ (refs M).length := by rw [refs_len]; exact ha1
      have ho8 : (upd H7 o (.lst ((refs M).take a1 ++ [v] ++ (refs M).drop a1))) o = some (.lst ((refs M).take a1 ++ [v] ++ (refs M).drop a1)) := upd_same
      have fr8 : Front M ((refs M).take a1 ++ [v] ++ (refs M).drop a1) a1 v := ⟨by rw [ins_len hlen1, refs_len]; omega, ins_at hlen1, fun j u hj hu => by
        rw [ins_lt hlen1 hj] at hu
        obtain ⟨z, _, hz, e⟩ := refs_get hu
        exact ⟨z, hz, e⟩⟩
      have len8 : ((refs M).take a1 ++ [v] ++ (refs M).drop a1).length = M.length + 1 := by rw [ins_len hlen1, refs_len]
      have wq8 : Wq K p o (upd H7 o (.lst ((refs M).take a1 ++ [v] ++ (refs M).drop a1))) v := wq7.put
      have hM8 : PairsAt (upd H7 o (.lst ((refs M).take a1 ++ [v] ++ (refs M).drop a1))) M := fun z hz => by
        unfold PairAt
        rw [upd_ne (nM z hz)]
        exact hM7 z hz
      have P8 := P7.put (o := .lst ((refs M).take a1 ++ [v] ++ (refs M).drop a1)) hc7 ho7 nco
      have hc8 : cellsAt (upd H7 o (.lst ((refs M).take a1 ++ [v] ++ (refs M).drop a1))) p c0 := by
        obtain ⟨k, l', e⟩ := hc7
        exact ⟨k, l', by rw [upd_ne (ne_of e ho7 (by intro z; cases z))]; exact e⟩
      show tSeq _ _ _ _ (upd H7 o (.lst ((refs M).take a1 ++ [v] ++ (refs M).drop a1)))
      generalize upd H7 o (.lst ((refs M).take a1 ++ [v] ++ (refs M).drop a1)) = H8 at *
      generalize (refs M).take a1 ++ [v] ++ (refs M).drop a1 = xs1 at *
      clear ho7 hM7 hc7 wq7 P7 F7 hv ho6 hM6 hc6 P6 F6 hp6 P5
      -- a second one
      refine ⟨fun σ' H' => ∃ xs, σ' = [some (.ref sc), some (.ref p), some (.int (0 + i)), some (.ref o), some (.int (a1 : Int)), none] ∧ H' o = some (.lst xs) ∧ Front M xs a1 v ∧ PairsAt H' M ∧ Wq K p o H' v ∧ Pen H' p (10000 * i + 5000), ?_, ?_⟩
      · refine ⟨_, rfl, p, 2, _, rfl, by decide, by decide, P8, by omega, fun r H9 _ _ P9 F9 => ⟨rfl, _, rfl, ite2 (fun _ => ?_) (fun _ => ?_)⟩⟩
        · have ho9 := F9.lst P8 ho8
          have hc9 := F9.ce c0 hc8
          refine ⟨_, rfl, .inl ⟨rfl, _, .inl (.inl ho9)⟩, _, rfl, _, _, rfl, rfl, _, rfl, _, rfl, o, _, rfl, .inl (.inl (.inl ho9)), _, rfl, _, _, rfl, rfl, p, _, _, rfl, ?_, ?_, P9, by omega, fun r2 H10 r20 r21 P10 F10 => ?_⟩
          · show (0 : Int) < (xs1.length : Int) - (a1 : Int)
            omega
          · show ((xs1.length : Int) - (a1 : Int)).natAbs < 2 ^ 200
            exact Nat.lt_of_le_of_lt (show ((xs1.length : Int) - (a1 : Int)).natAbs ≤ 201 by omega) (by decide)
          have r21' : r2 < (xs1.length : Int) - (a1 : Int) := r21
          obtain ⟨kn, rfl⟩ : ∃ n : Nat, r2 = (n : Int) := ⟨r2.toNat, by omega⟩
          have hk : a1 + 1 + kn ≤ xs1.length := by omega
          have ho10 := F10.lst P9 ho9
          have hc10 := F10.ce c0 hc9
          refine ⟨_, _, rfl, rfl, _, rfl, p, _, rfl, P10, by omega, fun v2 H11 hv2 P11 F11 => ?_⟩
          have ho11 := F11.lst P10 ho10
          have hc11 := F11.ce c0 hc10
          have hM11 := ((hM8.frm F9 P8).frm F10 P9).frm F11 P10
          have wq11 := ((wq8.frm F9).frm F10).frm F11
          refine ⟨o, xs1, ((a1 + 1 + kn : Nat) : Int), v2, rfl, by rw [show ((a1 + 1 + kn : Nat) : Int) = (a1 : Int) + 1 + (kn : Int) by omega], ho11, small1000 (by omega), by omega, by omega, ?_⟩
          refine ⟨xs1.take (a1 + 1 + kn) ++ [v2] ++ xs1.drop (a1 + 1 + kn), rfl, upd_same, ⟨by rw [ins_len hk]; omega, by rw [ins_lt hk (by omega)]; exact fr8.at_k, fun j u hj hu => ?_⟩, fun z hz => ?_, wq11.put, (P11.put hc11 ho11 nco).mono (by omega)⟩
          · rw [ins_lt hk (by omega)] at hu
            exact fr8.below j u hj hu
          · unfold PairAt
            rw [upd_ne (nM z hz)]
            exact hM11 z hz
        · exact ⟨xs1, rfl, F9.lst P8 ho8, fr8, hM8.frm F9 P8, wq8.frm F9, P9.mono (by omega)⟩
      clear ho8 fr8 len8 wq8 hM8 P8 hc8
      rintro σ' H12 ⟨xs, rfl, ho, fr, hM, wq, P12⟩
      have lx := fr.len
      have good : ∀ H', Same H12 H' → ∀ (j : Nat) (u : V), j < a1 → xs[j]? = some u → StV K H' u true := fun H' s j u hj hu => by
        obtain ⟨z, hz, rfl⟩ := fr.below j u hj hu
        exact fun H'' s2 => .inl ⟨z.1, z.2, rfl, (hM.same (s.trans s2)) z hz, (okM z.2 (mem_rws.mpr ⟨z.1, hz⟩)).symm⟩
      refine ⟨_, rfl, o, xs, rfl, .inl (.inl (.inl ho)), by omega, .inr ⟨a1, v, fr.at_k, good _ (Same.refl _), wq.st, fun H13 S13 => ⟨_, rfl, rfl, _, rfl, ?_⟩⟩⟩
      rw [neI]
      refine iteF ?_
      refine ⟨_, rfl, o, xs, rfl, .inl ⟨.inl (.inl (S13 _ _ ho)), fun t nt => ?_⟩⟩
      have St := S13.trans (same_lay (o := .tup xs) nt)
      refine ⟨t, xs, rfl, .inr (.inl (.inl upd_same)), by omega, .inr ⟨a1, v, fr.at_k, good _ St, (wq.same St).st, fun H14 S14 => ⟨_, rfl, rfl, _, rfl, ?_⟩⟩⟩
      rw [neI]
      refine iteF ?_
      exact ⟨_, _, _, rfl, (P12.same' (St.trans S14)).mono (by omega)⟩
    · rintro σ H2 ⟨s2, s3, s4, rfl, P1⟩
      have two : 2 ≤ sizeLine := by decide
      refine ⟨two, fun t1 n1 => ⟨_, _, rfl, rfl, hpow, _, _, rfl, rfl, hpow, two, fun t2 n2 => ⟨_, _, rfl, rfl, hpow, two, fun t3 n3 => ⟨two, fun t4 n4 => ⟨by show 4 ≤ sizeLine; decide, fun en nen => ?_⟩⟩⟩⟩⟩
      have v1 := same_lay (o := .tup [.int 0, .int 0]) n1
      have v2 := same_lay (o := .lst [.int ((10 : Int) ^ (30 : Int).toNat), .int ((10 : Int) ^ (30 : Int).toNat)]) n2
      have v3 := same_lay (o := .tup [.int 0, .int ((10 : Int) ^ (30 : Int).toNat)]) n3
      have v4 := same_lay (o := .lst [.int 7, .int 7]) n4
      have v5 := same_lay (o := .lst [.ref t1, .ref t2, .ref t3, .ref t4]) nen
      have k1 := v5 _ _ (v4 _ _ (v3 _ _ (v2 _ _ upd_same)))
      have k2 := v5 _ _ (v4 _ _ (v3 _ _ upd_same))
      have k3 := v5 _ _ (v4 _ _ upd_same)
      have k4 := v5 _ _ upd_same
      have ken := upd_same (H := upd (upd (upd (upd H2 t1 (.tup [.int 0, .int 0])) t2 (.lst [.int ((10 : Int) ^ (30 : Int).toNat), .int ((10 : Int) ^ (30 : Int).toNat)])) t3 (.tup [.int 0, .int ((10 : Int) ^ (30 : Int).toNat)])) t4 (.lst [.int 7, .int 7])) (a := en) (o := .lst [.ref t1, .ref t2, .ref t3, .ref t4])
      clear v1 v2 v3 v4 v5
      generalize upd (upd (upd (upd (upd H2 t1 (.tup [.int 0, .int 0])) t2 (.lst [.int ((10 : Int) ^ (30 : Int).toNat), .int ((10 : Int) ^ (30 : Int).toNat)])) t3 (.tup [.int 0, .int ((10 : Int) ^ (30 : Int).toNat)])) t4 (.lst [.int 7, .int 7])) en (.lst [.ref t1, .ref t2, .ref t3, .ref t4]) = H3 at *
      have okE : ∀ r ∈ rws [(t1, ((0 : Int), (0 : Int))), (t2, ((10 : Int) ^ (30 : Int).toNat, (10 : Int) ^ (30 : Int).toNat)), (t3, ((0 : Int), (10 : Int) ^ (30 : Int).toNat)), (t4, ((7 : Int), (7 : Int)))], okRow r = true := by
        intro r hr
        simp only [rws, List.map_cons, List.map_nil, List.mem_cons, List.not_mem_nil, or_false] at hr
        rcases hr with rfl | rfl | rfl | rfl <;> decide
      have pE : PairsAt H3 [(t1, ((0 : Int), (0 : Int))), (t2, ((10 : Int) ^ (30 : Int).toNat, (10 : Int) ^ (30 : Int).toNat)), (t3, ((0 : Int), (10 : Int) ^ (30 : Int).toNat)), (t4, ((7 : Int), (7 : Int)))] := fun z hz => by
        simp only [List.mem_cons, List.not_mem_nil, or_false] at hz
        rcases hz with rfl | rfl | rfl | rfl
        · exact .inl k1
        · exact .inr k2
        · exact .inl k3
        · exact .inr k4
      refine ⟨Nat.zero_le _, fun e1 ne1 => ⟨e1, [], rfl, .inl (.inl (.inl upd_same)), Nat.zero_le _, .inl ⟨[], rfl, (fun _ z => nomatch z), (fun _ z => nomatch z), fun H4 S4 => ?_⟩⟩⟩
      refine ⟨1, rfl, rfl, true, rfl, iteT ?_⟩
      have S34 := (same_lay (o := .lst []) ne1).trans S4
      refine ⟨_, rfl, en, _, rfl, .inl (.inl (.inl (S34 _ _ ken))), by show 4 ≤ 1000; decide, .inl ⟨_, rfl, pE.same S34, okE, fun H5 S5 => ?_⟩⟩
      refine ⟨1, rfl, rfl, true, rfl, iteT ?_⟩
      have S35 := S34.trans S5
      refine ⟨_, rfl, 1, rfl, en, _, rfl, .inl (.inl (S35 _ _ ken)), fun sl nsl => ?_⟩
      have ec : cutV [V.ref t1, .ref t2, .ref t3, .ref t4] none (some 1) = refs [(t1, ((0 : Int), (0 : Int)))] := rfl
      have Ss := S35.trans (same_lay (o := .lst (cutV [V.ref t1, .ref t2, .ref t3, .ref t4] none (some 1))) nsl)
      refine ⟨sl, _, rfl, .inl (.inl (.inl upd_same)), by rw [ec]; show 1 ≤ 1000; decide, .inl ⟨[(t1, ((0 : Int), (0 : Int)))], ec, fun z hz => ?_, fun r hr => ?_, fun H6 S6 => ?_⟩⟩
      · rw [List.mem_singleton.mp hz]
        exact .inl (Ss _ _ k1)
      · simp only [rws, List.map_cons, List.map_nil, List.mem_cons, List.not_mem_nil, or_false] at hr
        rw [hr]
        decide
      exact ⟨1, rfl, rfl, q _⟩
end
end OR

namespace OR
open PySem PySem.Spec PyProof.Rows L2
/-! ### what the top has left -/
/-- an __init__ whose last parameter may be left out: then it is the empty tuple at t0 -/
structure MtD (K : PySem.W.Frag) (C : Addr) (m qual : Str) (st : Stmt) : Prop where
  ex : ∃ f fd t0, FunD K m qual (defArgs st) (defBody st) (defScope st) [.ref t0] [] f fd ∧ PySem.W.findIn K (.ref C) m = some (some (.ref f)) ∧ PySem.W.isFn K (.ref f) = true ∧ ∀ H : Hp, SqT K H t0 []
theorem mtD {K : PySem.W.Frag} {h : Heap} {C : Addr} {m qual : Str} {st : Stmt} {f T t0 : Addr} {oc cT : Value} {od an dT d0 : Option Addr} {osl sT s0 : Array (Option Value)} {kV doc pm cdv ct : Value} {nT n0 : Nat} (_X : K.In h)
    (a : PySem.W.findIn K (.ref C) m = some (some (.ref f))) (l : K.lookup f = some ⟨oc, od, .func (PySem.W.fnOf m qual (defArgs st) (defBody st) (defScope st) (.ref T) kV doc pm an cdv ct), osl⟩)
    (lT : K.lookup T = some ⟨cT, dT, .seq #[.ref t0] nT, sT⟩) (l0 : K.lookup t0 = some ⟨.type "tuple", d0, .seq #[] n0, s0⟩)
    (c : PySem.W.codeIn K cdv qual = true) (k : PySem.W.keepIn K (.ref f) = true) (i : PySem.W.isFn K (.ref f) = true) : MtD K C m qual st :=
  ⟨f, _, t0, ⟨⟨oc, od, .ref T, kV, doc, pm, an, cdv, ct, osl, rfl, l, c, .inr ⟨by simp, T, _, [.ref t0], nT, rfl, lT, rfl, .cons rfl .nil⟩, .inl rfl⟩, k⟩, a, i, fun H => .inr ⟨_, #[], n0, l0, rfl, rfl, Nat.zero_le _, .nil⟩⟩
structure PAt (K : PySem.W.Frag) (C : Addr) : Prop where
  aC : PySem.W.nsIn K mainGlobals "Places" = some (some (.ref C))
  pg : PySem.W.plainGet K C Str.empty = true
  hd : PySem.W.hasDictIn K C = true
  po : PySem.W.plainOver K C = true
  sa : PySem.W.findIn K (.ref C) "__setattr__" = some (some (.builtin "object.__setattr__"))
  mks : PySem.W.makesIn K C = true
  kc : PySem.W.keepIn K (.ref C) = true
  nS : PySem.W.findIn K (.ref C) "stretches" = some none
  nF : PySem.W.findIn K (.ref C) "_firsts" = some none
  nB : PySem.W.findIn K (.ref C) "_before" = some none
  ca : PySem.W.findIn K (.ref C) "__class__" = some (some (.builtin "object.__class__"))
  cn : PySem.W.specialIn K (.builtin "object.__class__") "__get__" = some (some (.builtin "getset_descriptor.__get__"))
  ct : PySem.W.takesIn K (.builtin "object.__class__") = some true
  cm : PySem.W.mroIn K C (.type "object") = some true
  ne : PySem.W.findIn K (.ref C) "__ne__" = some (some (.builtin "object.__ne__"))
  sT : PySem.W.subIn K (.type "tuple") (.ref C) = some false
  sL : PySem.W.subIn K (.type "list") (.ref C) = some false
  kPP : PySem.W.kitOne K (.ref C) (.ref C) = some true
  kT : PySem.W.kitOne K (.type "tuple") (.ref C) = some false
  kL : PySem.W.kitOne K (.type "list") (.ref C) = some false
  sf : PySem.W.selfFirst K C = true
structure ZAt (K : PySem.W.Frag) : Prop where
  isi : PySem.W.nsIn K mainGlobals "isinstance" = some none
  int : PySem.W.nsIn K mainGlobals "int" = some none
  bool : PySem.W.nsIn K mainGlobals "bool" = some none
  tup : PySem.W.nsIn K mainGlobals "tuple" = some none
  list : PySem.W.nsIn K mainGlobals "list" = some none
  len : PySem.W.nsIn K mainGlobals "len" = some none
  max : PySem.W.nsIn K mainGlobals "max" = some none
  min : PySem.W.nsIn K mainGlobals "min" = some none
  sorted : PySem.W.nsIn K mainGlobals "sorted" = some none
  enum : PySem.W.nsIn K mainGlobals "enumerate" = some none
  range : PySem.W.nsIn K mainGlobals "range" = some none
  set : PySem.W.nsIn K mainGlobals "set" = some none
  abs : PySem.W.nsIn K mainGlobals "abs" = some none
theorem lastP_lit : lastP = 1000000000000000000000000000000 := by decide
theorem lp_of {p : Program} {lv : List (Str × PySem.W.WData)} {mg : Str → Option Value} {h : Heap} (X : PySem.W.XL p lv mg h) (hm : (("LAST_PLACE" : Str), PySem.W.WData.int 1000000000000000000000000000000) ∈ lv) : ∃ t, mg "LAST_PLACE" = some (.int lastP t) := by
  obtain ⟨v, hv, hr⟩ := X.2.val _ hm
  cases hr with
  | int i t => exact ⟨t, by rw [lastP_lit]; exact hv⟩
/-- walk_of, told besides what the top's loose names read -/
theorem walk_ofX {l : PySem.W.OpenLaw} {n k : Nat} {q : Program} {loose : List Str} {XP : (Str → Option Value) → Heap → Prop} {YP : World → Heap → Prop} {d : DefRec} {K : Params → PySem.W.Frag} {CX : World → CXT} {sp : World → Sp} {x : Str}
    (hn : l.most = some n) (hn2 : n ≤ sizeLine) (hdf : d.params.defaults = []) (hr : Room k callerA) (hY : ∀ (w : World) (h : Heap), YP w h → (K w.params).In h)
    (F : ∀ (w : World) (mg : Str → Option Value) (fa : Addr) (h : Heap), (K w.params).In h → h.Ns mainGlobals mg → XP mg h → mg d.name = some (.ref fa) →
      ∃ fd : FuncData, (∀ (s : Shared) (u : Value), BindsTo s fd ⟨[u], []⟩ [(x, u)]) ∧ ∀ base : Heap, (K w.params).In base → base.Ns mainGlobals mg → FnOk l.prog w (K w.params) mg base (CX w) k fa fd [x] (sp w))
    (hsp : ∀ (w : World) (H : Hp) (a : Addr) (ns : List Int), ns.length ≤ n → Only H → SqL (K w.params) H a (ns.map V.int) → sp w [.ref a] H (fun v _ => v = .bl true) fun _ _ _ => False)
    (hCX : ∀ (w : World) (H : Hp) (s : Shared) (e : Value) (s' : Shared), CX w [] H s (fun _ _ _ => False) e s' → False) : PySem.W.WalkO q loose XP YP l.row.toRowW d [] (fun f vs => PySem.call f vs) := by
  refine Att.attach_call hn hdf fun w s₀ s₁ mg mb fa o pm cd doc a vs ns G Y ho hd hcd hmg hobj hints hlen hg => ?_
  have KX := hY w _ Y
  obtain ⟨fd, hb, hF⟩ := F w mg fa _ KX G.T.g G.X hmg
  exact law_call KX G.T.g G.T.b G.T.builtins G.T.nolimit hg hobj hints (Nat.le_trans hlen hn2) hr hF hb (fun H hO hS => hsp w H a ns hlen hO hS) fun H e s' => hCX w H s₁ e s'
theorem PAt.txt {K : PySem.W.Frag} {C : Addr} {h : Heap} {mg : Str → Option Value} (L : PAt K C) (X : K.In h) (G : h.Ns mainGlobals mg) (Z : ZAt K) (lp : ∃ t, mg "LAST_PLACE" = some (.int lastP t)) : PTxt K mg C :=
  ⟨⟨L.pg, L.hd, L.po, L.sa⟩, L.nS, L.nF, L.nB, PySem.W.mg_of X G L.aC, ⟨L.ca, L.cn, L.ct, L.cm⟩, L.kPP, PySem.W.mg_none_of X G Z.isi, PySem.W.mg_none_of X G Z.int, PySem.W.mg_none_of X G Z.bool, PySem.W.mg_none_of X G Z.tup, PySem.W.mg_none_of X G Z.list,
    PySem.W.mg_none_of X G Z.len, PySem.W.mg_none_of X G Z.max, PySem.W.mg_none_of X G Z.sorted, PySem.W.mg_none_of X G Z.enum, lp⟩
/-- an own error with one field, behind the top -/
structure ErAt (K : PySem.W.Frag) (x q fl : Str) (st : Stmt) (CB CR : Addr) : Prop where
  aB : PySem.W.nsIn K mainGlobals x = some (some (.ref CB))
  aR : PySem.W.nsIn K mainGlobals "RangesError" = some (some (.ref CR))
  cls : ∃ nm q N bs bm sn sub ab col dd k0 k1 k2 k3 k5, K.lookup CB = some (excClassObj nm q CB N bs bm true sn sub ab col dd k0 k1 k2 k3 k5 "ValueError.__new__") ∧ PySem.HandSPX.refsVE bm = true
  sa : PySem.W.findIn K (.ref CB) "__setattr__" = some (some (.builtin "object.__setattr__"))
  ga : PySem.W.findIn K (.ref CB) "__getattribute__" = some (some (.builtin "BaseException.__getattribute__"))
  gg : PySem.W.findIn K (.ref CB) "__getattr__" = some none
  noF : PySem.W.findIn K (.ref CB) fl = some none
  kC : PySem.W.keepIn K (.ref CB) = true
  exC : PySem.W.subIn K (.ref CB) (.type "BaseException") = some true
  tyC : PySem.W.typeIn K (.ref CB) = some (.type "type")
  hdC : PySem.W.hasDictIn K CB = true
  ca : PySem.W.findIn K (.ref CB) "__class__" = some (some (.builtin "object.__class__"))
  cn : PySem.W.specialIn K (.builtin "object.__class__") "__get__" = some (some (.builtin "getset_descriptor.__get__"))
  ct : PySem.W.takesIn K (.builtin "object.__class__") = some true
  cm : PySem.W.mroIn K CB (.type "object") = some true
  sub : PySem.W.subIn K (.ref CB) (.ref CB) = some true
  kR : PySem.W.kitOne K (.ref CB) (.ref CR) = some true
  init : ∃ f fd, Fun K "__init__" q st f fd ∧ PySem.W.findIn K (.ref CB) "__init__" = some (some (.ref f)) ∧ PySem.W.typeIn K (.ref f) = some (.type "function")
theorem erCls {K : PySem.W.Frag} {h : Heap} {CB : Addr} {nm q : Str} {N : Addr} {bs bm : List Value} {sn : List Str} {sub : List Value} {ab : Bool} {col : Option Bool} {dd : Option Addr} {m0 m1 m2 m3 m5 : Option Value} (_X : K.In h)
    (l : K.lookup CB = some (excClassObj nm q CB N bs bm true sn sub ab col dd m0 m1 m2 m3 m5 "ValueError.__new__")) (b : PySem.HandSPX.refsVE bm = true) :
    ∃ nm q N bs bm sn sub ab col dd k0 k1 k2 k3 k5, K.lookup CB = some (excClassObj nm q CB N bs bm true sn sub ab col dd k0 k1 k2 k3 k5 "ValueError.__new__") ∧ PySem.HandSPX.refsVE bm = true := ⟨nm, q, N, bs, bm, sn, sub, ab, col, dd, m0, m1, m2, m3, m5, l, b⟩
theorem erInit {K : PySem.W.Frag} {h : Heap} {CB f : Addr} {q : Str} {st : Stmt} {oc : Value} {od an : Option Addr} {osl : Array (Option Value)} {kV doc pm cdv ct : Value} (_X : K.In h) (a : PySem.W.findIn K (.ref CB) "__init__" = some (some (.ref f)))
    (l : K.lookup f = some ⟨oc, od, .func (PySem.W.fnOf "__init__" q (defArgs st) (defBody st) (defScope st) .none kV doc pm an cdv ct), osl⟩) (c : PySem.W.codeIn K cdv q = true) (k : PySem.W.keepIn K (.ref f) = true) (t : PySem.W.typeIn K (.ref f) = some (.type "function")) :
    ∃ f fd, Fun K "__init__" q st f fd ∧ PySem.W.findIn K (.ref CB) "__init__" = some (some (.ref f)) ∧ PySem.W.typeIn K (.ref f) = some (.type "function") := ⟨f, _, fun_mk l c k, a, t⟩
theorem pmx_of {P : Program} {w : World} {K : PySem.W.Frag} {mg : Str → Option Value} {base : Heap} {C CB CR fI : Addr} {fdI : FuncData} (T : PTxt K mg C) (L : PAt K C) (BT : BsTxt K mg CB CR fI) (FB : FnOk P w K mg base CX0 1 fI fdI ["self", "index"] (spBsI CB)) (bB : Binds K fdI ["self", "index"] [])
    (mI : MtD K C "__init__" "Places.__init__" sPlInit) (S : Cl P w K mg base 3 "_is_stretch" ["value"] (spIsStretchG K)) (J : Cl P w K mg base 1 "_joined" ["stretches"] (spJoined K)) (B : Cl P w K mg base 1 "_counts_before" ["stretches"] (spCounts K)) : PMkX P w K mg base C CB := by
  obtain ⟨f, fd, t0, F, a, i, ht⟩ := mI.ex
  obtain ⟨ds, r1, b1⟩ := F.binds1 (ps := ["self", "stretches"]) 2 1 (by simp) rfl fun T kV doc pm an cdv ct us its hu hi => match us, its, hu, hi with | [u, v], [x], _, _ => ⟨_, rfl, rfl⟩
  obtain ⟨es, r2, b2⟩ := F.binds1 (ps := ["self", "stretches"]) 1 0 (by simp) rfl fun T kV doc pm an cdv ct us its hu hi => match us, its, hu, hi with | [u], [x], _, _ => ⟨_, rfl, rfl⟩
  cases r1
  obtain ⟨u, rfl, ru⟩ := r2.one
  cases (show u = Value.ref t0 from ru)
  exact ⟨f, fd, t0, ⟨L.mks, a, i, L.kc⟩, ok_plinitX F T BT FB bB S J B, b1, b2, ht⟩
theorem bs_of {P : Program} {w : World} {K : PySem.W.Frag} {mg : Str → Option Value} {base h : Heap} {CB CR : Addr} (X : K.In h) (G : h.Ns mainGlobals mg) (e : ErAt K "BadStretch" "BadStretch.__init__" "index" sBsInit CB CR) :
    ∃ fI fdI, BsTxt K mg CB CR fI ∧ FnOk P w K mg base CX0 1 fI fdI ["self", "index"] (spBsI CB) ∧ Binds K fdI ["self", "index"] [] := by
  obtain ⟨f, fd, F, i, t⟩ := e.init
  have T : BsTxt K mg CB CR f := ⟨PySem.W.mg_of X G e.aB, PySem.W.mg_of X G e.aR, ⟨e.cls, e.sa, e.exC, e.tyC, e.kC⟩, ⟨e.ga, e.gg, e.exC, e.hdC⟩, ⟨e.ga, e.gg, e.exC, e.hdC, e.ca, e.cn, e.ct, e.cm⟩, e.noF, i, t, PySem.W.exm_ref e.exC e.hdC e.tyC e.sub, e.kR⟩
  exact ⟨f, fd, T, ok_bsinit F T, F.binds fun _ _ _ _ _ _ us hl => match us, hl with | [_, _], _ => rfl⟩
end OR

namespace OR
open PySem PySem.Spec PyProof.Rows L2
theorem all_mk {l : PySem.W.OpenLaw} {w : World} {K : PySem.W.Frag} {h : Heap} {mg : Str → Option Value} {fa C CB CR : Addr} (X : K.In h) (G : h.Ns mainGlobals mg) (hfa : mg "law" = some (.ref fa)) (L : PAt K C) (Z : ZAt K) (lp : ∃ t, mg "LAST_PLACE" = some (.int lastP t))
    (mI : MtD K C "__init__" "Places.__init__" sPlInit) (eB : ErAt K "BadStretch" "BadStretch.__init__" "index" sBsInit CB CR) (zStr : PySem.W.nsIn K mainGlobals "str" = some none) (fDI : FnAt K "is_integer" sIsInt) (fDP : FnAt K "is_place" sIsPlace) (fDS : FnAt K "_is_stretch" sIsStretch) (fDJ : FnAt K "_joined" sJoined) (fDC : FnAt K "_counts_before" sCounts) (fDPen : FnAt K "_law_pen" sPen) (fDDraw : FnAt K "_law_draw" sDraw) (fDPick : FnAt K "_law_pick" sPick) (fDShuf : FnAt K "_law_shuffled" sShuffled) (fDSpot : FnAt K "_law_spot" sSpot) (fDDrawn : FnAt K "_law_drawn" sDrawn) (fDCut : FnAt K "_law_cut" sCut) (fDWrong : FnAt K "_law_wrong" sWrong) (fDRef : FnAt K "_law_refused" sRefused) (fLaw : FnAt K "law" sLaw) :
    ∃ fd : FuncData, (∀ (s : Shared) (v : Value), BindsTo s fd ⟨[v], []⟩ [("_law_script", v)]) ∧ ∀ base : Heap, K.In base → base.Ns mainGlobals mg → FnOk l.prog w K mg base CX0 7 fa fd ["_law_script"] (spLaw K) := by
  obtain ⟨f, fd, F, e⟩ := fLaw.ex
  have e := hfa.symm.trans (PySem.W.mg_of X G e)
  cases e
  refine ⟨fd, fun s v => ?_, fun base _ _ => ?_⟩
  · obtain ⟨oc, od, kV, doc, pm, an, cdv, ct, osl, rfl, _⟩ := F.ex
    exact .of_eq rfl
  have T : PTxt K mg C := L.txt X G Z lp
  have none : ∀ {x : Str}, PySem.W.nsIn K mainGlobals x = some none → mg x = none := fun z => PySem.W.mg_none_of X G z
  have B1 : Bl mg := ⟨none Z.int, none Z.len, none Z.abs, none Z.list⟩
  have B : Bd mg := ⟨none Z.range, none Z.min, none Z.max, none Z.int, none Z.len, none Z.list, none Z.set, none Z.sorted⟩
  obtain ⟨fI, fdI, BT, FB, bB⟩ := bs_of (P := l.prog) (w := w) (base := base) X G eB
  have DI : Cl l.prog w K mg base 1 "is_integer" ["value"] (spIsIntG K) := cl_of fDI X G (fun _ _ _ _ _ _ us hl => match us, hl with | [_], _ => rfl) fun f fd F => ok_isintG F T
  have DP : Cl l.prog w K mg base 2 "is_place" ["value"] (spIsPlace K) := cl_of fDP X G (fun _ _ _ _ _ _ us hl => match us, hl with | [_], _ => rfl) fun f fd F => ok_isplace F T DI
  have DS : Cl l.prog w K mg base 3 "_is_stretch" ["value"] (spIsStretchG K) := cl_of fDS X G (fun _ _ _ _ _ _ us hl => match us, hl with | [_], _ => rfl) fun f fd F => ok_isstretchG F T DP
  have DJ : Cl l.prog w K mg base 1 "_joined" ["stretches"] (spJoined K) := cl_of fDJ X G (fun _ _ _ _ _ _ us hl => match us, hl with | [_], _ => rfl) fun f fd F => ok_joined F T
  have DC : Cl l.prog w K mg base 1 "_counts_before" ["stretches"] (spCounts K) := cl_of fDC X G (fun _ _ _ _ _ _ us hl => match us, hl with | [_], _ => rfl) fun f fd F => ok_counts F T
  have M : PMkX l.prog w K mg base C CB := pmx_of T L BT FB bB mI DS DJ DC
  have DPen : Cl l.prog w K mg base 1 "_law_pen" ["_law_script"] (spPen K) := cl_of fDPen X G (fun _ _ _ _ _ _ us hl => match us, hl with | [_], _ => rfl) fun f fd F => ok_pen F B1
  have DDraw : Cl l.prog w K mg base 1 "_law_draw" ["_law_pen_here", "_law_many"] spDraw := cl_of fDDraw X G (fun _ _ _ _ _ _ us hl => match us, hl with | [_, _], _ => rfl) fun f fd F => ok_draw F B1
  have DPick : Cl l.prog w K mg base 2 "_law_pick" ["_law_pen_here", "_law_items"] (spPick K) := cl_of fDPick X G (fun _ _ _ _ _ _ us hl => match us, hl with | [_, _], _ => rfl) fun f fd F => ok_pick F B1 DDraw
  have DShuf : Cl l.prog w K mg base 2 "_law_shuffled" ["_law_pen_here", "_law_items"] (spShuffled K) := cl_of fDShuf X G (fun _ _ _ _ _ _ us hl => match us, hl with | [_, _], _ => rfl) fun f fd F => ok_shuffled F B DDraw
  have DSpot : Cl l.prog w K mg base 2 "_law_spot" ["_law_pen_here"] spSpot := cl_of fDSpot X G (fun _ _ _ _ _ _ us hl => match us, hl with | [_], _ => rfl) fun f fd F => ok_spot F DDraw
  have DDrawn : Cl l.prog w K mg base 3 "_law_drawn" ["_law_pen_here", "_law_most"] spDrawn := cl_of fDDrawn X G (fun _ _ _ _ _ _ us hl => match us, hl with | [_, _], _ => rfl) fun f fd F => ok_drawn F B DDraw DPick DSpot
  have DCut : Cl l.prog w K mg base 3 "_law_cut" ["_law_pen_here", "_law_rows"] (spCut K) := cl_of fDCut X G (fun _ _ _ _ _ _ us hl => match us, hl with | [_, _], _ => rfl) fun f fd F => ok_cut F B DDraw DPick DShuf
  have DWrong : Cl l.prog w K mg base 3 "_law_wrong" ["_law_pen_here"] (spWrong K) := cl_of fDWrong X G (fun _ _ _ _ _ _ us hl => match us, hl with | [_], _ => rfl) fun f fd F => ok_wrong F (none zStr) DSpot DPick
  have DRef : Cl l.prog w K mg base 6 "_law_refused" ["_law_rows"] (spRefused K) := cl_of fDRef X G (fun _ _ _ _ _ _ us hl => match us, hl with | [_], _ => rfl) fun f fd F => ok_refused F T BT M
  exact ok_law F B T DPen DDraw DDrawn DCut DWrong DRef
end OR
open PySem PySem.W PyProof.Rows
set_option maxRecDepth 100000 in
set_option maxHeartbeats 0 in
theorem PySem.Challenge.cw_openranges_k02_stretches_refused_holds : PySem.Challenge.rw_openranges_k02_stretches_refused.Holds := by
  w_on; o_law; k_head; (case hw => w_witness2)
  k_fill
  refine OR.walk_ofX (l := PySem.Challenge.rw_openranges_k02_stretches_refused) (n := 63) (k := 7) (x := "_law_script") (CX := fun _ => L2.CX0) (sp := fun w => OR.spLaw _) rfl (by decide) rfl ⟨rfl, by decide, by decide⟩ (fun w h Y => PySem.W.kIn_of Y) ?F (fun _ _ a ns hl _ hS => ⟨a, ns, rfl, hS, hl, fun _ => rfl⟩) (fun _ _ _ _ _ h => h)
  case F =>
    intro w mg fa h KX G XL hmg
    refine' OR.all_mk KX G hmg ?L ?Z (OR.lp_of XL (List.Mem.head _)) ?mI ?eB ?zStr ?fDI ?fDP ?fDS ?fDJ ?fDC ?fDPen ?fDDraw ?fDPick ?fDShuf ?fDSpot ?fDDrawn ?fDCut ?fDWrong ?fDRef ?fLaw
    all_goals try clear hmg XL
    case L =>
      refine' OR.PAt.mk ?aC ?pg ?hd ?po ?sa ?mks ?kc ?nS ?nF ?nB ?ca ?cn ?ct ?cm ?ne ?sT ?sL ?kPP ?kT ?kL ?sf
      (case aC => k_is); (case pg => k_is); (case hd => k_is); (case po => k_is); (case sa => k_is); (case mks => k_is); (case kc => k_is); (case nS => k_is); (case nF => k_is); (case nB => k_is); (case ca => k_is); (case cn => k_is); (case ct => k_is); (case cm => k_is); (case ne => k_is); (case sT => k_is); (case sL => k_is); (case kPP => kit_is); (case kT => kit_is); (case kL => kit_is); (case sf => k_is)
    case Z =>
      refine' OR.ZAt.mk ?isi ?int ?bool ?tup ?list ?len ?max ?min ?sorted ?enum ?range ?set ?abs
      (case isi => k_is); (case int => k_is); (case bool => k_is); (case tup => k_is); (case list => k_is); (case len => k_is); (case max => k_is); (case min => k_is); (case sorted => k_is); (case enum => k_is); (case range => k_is); (case set => k_is); (case abs => k_is)
    case mI => refine' OR.mtD KX ?a ?l ?lT ?l0 ?c ?k ?i; (case a => k_is); (case l => k_is); (case lT => k_is); (case l0 => k_is); (case c => k_is); (case k => k_is); (case i => k_is)
    case eB => refine' OR.ErAt.mk ?aB ?aR ?cls ?sa ?ga ?gg ?noF ?kC ?exC ?tyC ?hdC ?ca ?cn ?ct ?cm ?sub ?kR ?init; (case aB => k_is); (case aR => k_is); (case cls => refine' OR.erCls KX ?l ?b; (case l => k_is); (case b => decide +kernel)); (case sa => k_is); (case ga => k_is); (case gg => k_is); (case noF => k_is); (case kC => k_is); (case exC => k_is); (case tyC => k_is); (case hdC => k_is); (case ca => k_is); (case cn => k_is); (case ct => k_is); (case cm => k_is); (case sub => first | rfl | k_is); (case kR => kit_is); (case init => refine' OR.erInit KX ?a ?l ?c ?k ?t; (case a => k_is); (case l => k_is); (case c => k_is); (case k => k_is); (case t => k_is))
    case zStr => k_is
    case fDI => refine' OR.fnAt KX ?a ?l ?c ?k; (case a => k_is); (case l => k_is); (case c => k_is); (case k => k_is)
    case fDP => refine' OR.fnAt KX ?a ?l ?c ?k; (case a => k_is); (case l => k_is); (case c => k_is); (case k => k_is)
    case fDS => refine' OR.fnAt KX ?a ?l ?c ?k; (case a => k_is); (case l => k_is); (case c => k_is); (case k => k_is)
    case fDJ => refine' OR.fnAt KX ?a ?l ?c ?k; (case a => k_is); (case l => k_is); (case c => k_is); (case k => k_is)
    case fDC => refine' OR.fnAt KX ?a ?l ?c ?k; (case a => k_is); (case l => k_is); (case c => k_is); (case k => k_is)
    case fDPen => refine' OR.fnAt KX ?a ?l ?c ?k; (case a => k_is); (case l => k_is); (case c => k_is); (case k => k_is)
    case fDDraw => refine' OR.fnAt KX ?a ?l ?c ?k; (case a => k_is); (case l => k_is); (case c => k_is); (case k => k_is)
    case fDPick => refine' OR.fnAt KX ?a ?l ?c ?k; (case a => k_is); (case l => k_is); (case c => k_is); (case k => k_is)
    case fDShuf => refine' OR.fnAt KX ?a ?l ?c ?k; (case a => k_is); (case l => k_is); (case c => k_is); (case k => k_is)
    case fDSpot => refine' OR.fnAt KX ?a ?l ?c ?k; (case a => k_is); (case l => k_is); (case c => k_is); (case k => k_is)
    case fDDrawn => refine' OR.fnAt KX ?a ?l ?c ?k; (case a => k_is); (case l => k_is); (case c => k_is); (case k => k_is)
    case fDCut => refine' OR.fnAt KX ?a ?l ?c ?k; (case a => k_is); (case l => k_is); (case c => k_is); (case k => k_is)
    case fDWrong => refine' OR.fnAt KX ?a ?l ?c ?k; (case a => k_is); (case l => k_is); (case c => k_is); (case k => k_is)
    case fDRef => refine' OR.fnAt KX ?a ?l ?c ?k; (case a => k_is); (case l => k_is); (case c => k_is); (case k => k_is)
    case fLaw => refine' OR.fnAt KX ?a ?l ?c ?k; (case a => k_is); (case l => k_is); (case c => k_is); (case k => k_is)

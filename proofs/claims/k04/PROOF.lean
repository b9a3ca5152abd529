import PyProof.Rows.All
import Wide.All
import OpenK.AllK
import Wide.FinOn
import HandS.ForMost
import HandS.Wide
import HandS.IsInst
import HandS.TupAny
import HandS.Star
import HandS.Evl
import HandS.SortRule
import HandS.NoneIn
import HandS.Defaults
import HandS.TupSets
import HandS.Keys
import HandS.Small
import KE.KOpsOwn
import HandS.SlotsOwn
import KE.RegKIsAll
import PyProof.Draws
import HandS.SetFor
import HandS.Strs
import HandS.Style
import HandS.Records
import PySem.Challenge.RW_openranges_k04_whole_places_joined_and_c
set_option Elab.async false
set_option linter.all false
set_option maxRecDepth 100000
namespace OR
open PySem PySem.Spec PyProof.Rows L2
def top (i : Nat) : Stmt := PySem.Challenge.pw_openranges_k04_whole_places_joined_and_c.main.body.getD i (.Pass ⟨0, 0, 0, 0⟩)
abbrev sPen : Stmt := top 28
abbrev sDraw : Stmt := top 29
abbrev sPick : Stmt := top 30
abbrev sSpot : Stmt := top 31
abbrev sDrawn : Stmt := top 32
abbrev sMerged : Stmt := top 33
abbrev sHas : Stmt := top 34
abbrev sMixed : Stmt := top 35
abbrev sSecond : Stmt := top 36
abbrev sRules : Stmt := top 37
abbrev sLaw : Stmt := top 38
abbrev sOver : Stmt := top 15
abbrev sIsInt : Stmt := top 10
abbrev sIsPlace : Stmt := top 11
abbrev sPlInit : Stmt := inClass (top 17) 0
abbrev sPlEq : Stmt := inClass (top 17) 1
abbrev sPlBool : Stmt := inClass (top 17) 2
abbrev sPlOr : Stmt := inClass (top 17) 6
abbrev sPlAnd : Stmt := inClass (top 17) 7
abbrev sPlSub : Stmt := inClass (top 17) 8
abbrev sPlXor : Stmt := inClass (top 17) 9
abbrev sPlSize : Stmt := inClass (top 17) 10
abbrev sPlWithin : Stmt := inClass (top 17) 14
abbrev sPlShift : Stmt := inClass (top 17) 15
abbrev sPlMirror : Stmt := inClass (top 17) 16
abbrev sPlInner : Stmt := inClass (top 17) 17
abbrev sIsStretch : Stmt := top 19
abbrev sJoined : Stmt := top 20
abbrev sCounts : Stmt := top 21
abbrev sCommon : Stmt := top 23
abbrev sGaps : Stmt := top 24
end OR

namespace OR
open PySem PySem.Spec PyProof.Rows L2
/-! ### the pen: a dict of the cells, how many have begun, what is left of the last one -/
theorem kBC : ¬ ((Sum.inr ("begun" : Str) : Key) = Sum.inr ("cells" : Str)) := by decide +kernel
theorem kLC : ¬ ((Sum.inr ("left" : Str) : Key) = Sum.inr ("cells" : Str)) := by decide +kernel
theorem kLB : ¬ ((Sum.inr ("left" : Str) : Key) = Sum.inr ("begun" : Str)) := by decide +kernel
def penK (c : Addr) (k l : Int) : List (Key × V) := [(.inr ("cells" : Str), .ref c), (.inr ("begun" : Str), .int k), (.inr ("left" : Str), .int l)]
theorem pen_cells (c : Addr) (k l : Int) : valV (penK c k l) (.inr ("cells" : Str)) = some (.ref c) := valV_pos rfl
theorem pen_begun (c : Addr) (k l : Int) : valV (penK c k l) (.inr ("begun" : Str)) = some (.int k) :=
  (valV_neg (fun e => kBC e.symm)).trans (valV_pos rfl)
theorem pen_left (c : Addr) (k l : Int) : valV (penK c k l) (.inr ("left" : Str)) = some (.int l) :=
  (valV_neg (fun e => kLC e.symm)).trans ((valV_neg (fun e => kLB e.symm)).trans (valV_pos rfl))
theorem pen_put_left (c : Addr) (k l y : Int) : putK (penK c k l) (.inr ("left" : Str)) (.int y) = penK c k y := by
  have h1 : ¬ ((Sum.inr ("cells" : Str) : Key) = Sum.inr ("left" : Str)) := fun e => kLC e.symm
  have h2 : ¬ ((Sum.inr ("begun" : Str) : Key) = Sum.inr ("left" : Str)) := fun e => kLB e.symm
  unfold putK penK
  simp only [List.any_cons, List.any_nil, List.map_cons, List.map_nil, h1, h2, decide_true, decide_false, Bool.or_false, Bool.false_or, if_true, if_false]
theorem pen_put_begun (c : Addr) (k l y : Int) : putK (penK c k l) (.inr ("begun" : Str)) (.int y) = penK c y l := by
  have h1 : ¬ ((Sum.inr ("cells" : Str) : Key) = Sum.inr ("begun" : Str)) := fun e => kBC e.symm
  have h2 : ¬ ((Sum.inr ("left" : Str) : Key) = Sum.inr ("begun" : Str)) := kLB
  unfold putK penK
  simp only [List.any_cons, List.any_nil, List.map_cons, List.map_nil, h1, h2, decide_true, decide_false, Bool.or_false, Bool.false_or, Bool.or_true, if_true, if_false]
/-- a pen at p after at most n draws -/
def Pen (H : Hp) (p : Addr) (n : Nat) : Prop := ∃ (c : Addr) (ns : List Int) (k l : Int), H p = some (.dK (penK c k l)) ∧ H c = some (.lst (ns.map V.int)) ∧ ns.length ≤ 63 ∧ 0 ≤ k ∧ k ≤ n ∧ 0 ≤ l
/-- where the pen at p keeps its cells -/
def cellsAt (H : Hp) (p c : Addr) : Prop := ∃ k l, H p = some (.dK (penK c k l))
theorem penK_inj {c c' : Addr} {k l k' l' : Int} (h : penK c k l = penK c' k' l') : c = c' := by
  unfold penK at h
  injection h with h1 _
  injection h1 with _ h2
  injection h2
theorem cellsAt.inj {H : Hp} {p c : Addr} {k l : Int} {c' : Addr} (h : cellsAt H p c) (e : H p = some (.dK (penK c' k l))) : c = c' := by
  obtain ⟨k', l', e'⟩ := h
  rw [e] at e'
  injection e' with e'
  injection e' with e'
  exact (penK_inj e').symm
/-- all but what stands at p is as it was, and the pen there has the same cells -/
structure Frm (p : Addr) (H H' : Hp) : Prop where
  at_ : ∀ b o, H b = some o → b ≠ p → H' b = some o
  ce : ∀ c, cellsAt H p c → cellsAt H' p c
instance {p : Addr} {H H' : Hp} : CoeFun (Frm p H H') (fun _ => ∀ b o, H b = some o → b ≠ p → H' b = some o) := ⟨Frm.at_⟩
theorem Frm.refl (p : Addr) (H : Hp) : Frm p H H := ⟨fun _ _ h _ => h, fun _ h => h⟩
theorem Frm.trans {p : Addr} {H H1 H2 : Hp} (a : Frm p H H1) (b : Frm p H1 H2) : Frm p H H2 := ⟨fun c o h n => b c o (a c o h n) n, fun c h => b.ce c (a.ce c h)⟩
theorem Frm.pen {p c : Addr} {H : Hp} {k l k' l' : Int} (h : H p = some (.dK (penK c k l))) : Frm p H (upd H p (.dK (penK c k' l'))) :=
  ⟨fun b x e n => by rw [upd_ne n]; exact e, fun c' h' => by rw [h'.inj h]; exact ⟨k', l', upd_same⟩⟩
theorem Frm.new {p q : Addr} {H : Hp} {o : HO} (h : H q = none) : Frm p H (upd H q o) :=
  ⟨fun b x e _ => by rw [upd_ne (ne_of_none e h)]; exact e, fun c ⟨k, l, e⟩ => ⟨k, l, by rw [upd_ne (ne_of_none e h)]; exact e⟩⟩
/-- a list that is not the pen's cells is changed -/
theorem Pen.put {H : Hp} {p c a : Addr} {n : Nat} {xs : List V} {o : HO} (P : Pen H p n) (hc : cellsAt H p c) (h : H a = some (.lst xs)) (n1 : c ≠ a) : Pen (upd H a o) p n := by
  obtain ⟨c', ns, k, l, h1, h2, h3⟩ := P
  obtain rfl := hc.inj h1
  exact ⟨c, ns, k, l, by rw [upd_ne (ne_of h1 h (by intro z; cases z))]; exact h1, by rw [upd_ne n1]; exact h2, h3⟩
theorem Pen.cells {H : Hp} {p : Addr} {n : Nat} (P : Pen H p n) : ∃ c, cellsAt H p c ∧ H c ≠ none := by
  obtain ⟨c, ns, k, l, h1, h2, _⟩ := P
  exact ⟨c, ⟨k, l, h1⟩, by rw [h2]; exact fun z => nomatch z⟩
theorem Pen.dict {H : Hp} {p : Addr} {n : Nat} (P : Pen H p n) : ∃ kvs, H p = some (.dK kvs) := by
  obtain ⟨c, ns, k, l, h1, _⟩ := P
  exact ⟨_, h1⟩
/-- what stands at a list, a tuple or an object is not the pen -/
theorem Frm.lst {H H' : Hp} {p a : Addr} {n : Nat} {xs : List V} (f : Frm p H H') (P : Pen H p n) (h : H a = some (.lst xs)) : H' a = some (.lst xs) := by
  obtain ⟨kvs, hp⟩ := P.dict
  exact f _ _ h (ne_of h hp (by intro z; cases z))
theorem Pen.mono {H : Hp} {p : Addr} {n m : Nat} (P : Pen H p n) (h : n ≤ m) : Pen H p m := by
  obtain ⟨c, ns, k, l, h1, h2, h3, h4, h5, h6⟩ := P
  exact ⟨c, ns, k, l, h1, h2, h3, h4, by omega, h6⟩
theorem Pen.new {H : Hp} {p q : Addr} {n : Nat} {o : HO} (P : Pen H p n) (h : H q = none) : Pen (upd H q o) p n := by
  obtain ⟨c, ns, k, l, h1, h2, h3, h4, h5, h6⟩ := P
  exact ⟨c, ns, k, l, by rw [upd_ne (ne_of_none h1 h)]; exact h1, by rw [upd_ne (ne_of_none h2 h)]; exact h2, h3, h4, h5, h6⟩
/-! ### the promises -/
/-- a draw: some number below m -/
def spDraw : Sp := fun vs H Q _ => ∃ (p : Addr) (m : Int) (n : Nat), vs = [.ref p, .int m] ∧ 0 < m ∧ m.natAbs < 2 ^ 200 ∧ Pen H p n ∧ n ≤ 1000000 ∧
  ∀ (r : Int) (H' : Hp), 0 ≤ r → r < m → Pen H' p (n + 1) → Frm p H H' → Q (.int r) H'
/-- a def that lets nothing out, as it is called by its name -/
structure Cl (P : Program) (w : World) (K : PySem.W.Frag) (mg : Str → Option Value) (base : Heap) (k : Nat) (x : Str) (ps : List Str) (sp : Sp) : Prop where
  ex : ∃ (f : Addr) (fd : FuncData), FnOk P w K mg base CX0 k f fd ps sp ∧ mg x = some (.ref f) ∧ PySem.W.keepIn K (.ref f) = true ∧ Binds K fd ps []
theorem pe_cl {X : Cx} {k j : Nat} {x : Str} {ps : List Str} {sp : Sp} {e : Expr} {es : List Expr} {t : TA} {p pos : Pos} (c : Cl X.prog X.w X.K X.mg X.base k x ps sp) (hr : Room j X.A) (hk : k ≤ j) (hg : Gl X x) (ha : PA X (e :: es) t)
    (hdb : (x == ("__debug__" : Str)) = false := by decide) (he : starEach (e :: es) X.env = (false, eval e X.env) :: starEach es X.env := by rfl) (hpl : (backTo pos (starEach es X.env)).any (·.1) = false := by rfl) :
    PE X (.Call (.Name x p) (e :: es) [] pos) (tCall sp [] E0 t) := by
  obtain ⟨f, fd, F, hm, hkp, hb⟩ := c.ex
  exact pe_call F (hr.mono hk) hg hm hkp hb .nil pass0 ha hdb he hpl
theorem Frm.seq {K : PySem.W.Frag} {H H' : Hp} {p a : Addr} {n : Nat} {xs : List V} (f : Frm p H H') (P : Pen H p n) (h : SqL K H a xs) : SqL K H' a xs := by
  obtain ⟨c, ns, k, l, hp, _⟩ := P
  rcases h with (h | ⟨o, h⟩) | h
  · exact .inl (.inl (f _ _ h (ne_of h hp (by intro z; cases z))))
  · exact .inl (.inr ⟨o, f _ _ h (ne_of h hp (by intro z; cases z))⟩)
  · exact .inr h
theorem Frm.tup {K : PySem.W.Frag} {H H' : Hp} {p a : Addr} {n : Nat} {xs : List V} (f : Frm p H H') (P : Pen H p n) (h : SqT K H a xs) : SqT K H' a xs := by
  obtain ⟨c, ns, k, l, hp, _⟩ := P
  rcases h with (h | ⟨o, h⟩) | h
  · exact .inl (.inl (f _ _ h (ne_of h hp (by intro z; cases z))))
  · exact .inl (.inr ⟨o, f _ _ h (ne_of h hp (by intro z; cases z))⟩)
  · exact .inr h
/-- an item of a list that is not empty -/
def spPick (K : PySem.W.Frag) : Sp := fun vs H Q _ => ∃ (p a : Addr) (xs : List V) (n : Nat), vs = [.ref p, .ref a] ∧ SqL K H a xs ∧ 0 < xs.length ∧ xs.length ≤ 1000 ∧ Pen H p n ∧ n ≤ 1000000 ∧
  ∀ (v : V) (H' : Hp), v ∈ xs → Pen H' p (n + 1) → Frm p H H' → Q v H'
/-- some number, not too great -/
def spWhole : Sp := fun vs H Q _ => ∃ (p : Addr) (n : Nat), vs = [.ref p] ∧ Pen H p n ∧ n ≤ 900000 ∧
  ∀ (r : Int) (H' : Hp), -(10 ^ 30) < r → r < 10 ^ 30 → Pen H' p (n + 3) → Frm p H H' → Q (.int r) H'
/-- the pen, made of the script -/
def spPen (K : PySem.W.Frag) : Sp := fun vs H Q _ => ∃ (a : Addr) (ns : List Int), vs = [.ref a] ∧ SqL K H a (ns.map V.int) ∧ ns.length ≤ 63 ∧
  ∀ (p : Addr) (H' : Hp), H p = none → Pen H' p 0 → Same H H' → Q (.ref p) H'
structure Bl (mg : Str → Option Value) : Prop where
  int : mg "int" = none
  len : mg "len" = none
  abs : mg "abs" = none
  list : mg "list" = none
theorem dg {H : Hp} {p : Addr} {kvs : List (Key × V)} {x : Str} {v : V} (h : H p = some (.dK kvs)) (e : valV kvs (.inr x) = some v) : DGet H p (.str x) (some v) := e ▸ DGet.k (k := .inr x) h
theorem dp {H : Hp} {p : Addr} {kvs kvs' : List (Key × V)} {x : Str} {v : V} (h : H p = some (.dK kvs)) (e : putK kvs (.inr x) v = kvs') (hl : kvs.length < sizeLine) : DPut H p (.str x) v (upd H p (.dK kvs')) := e ▸ DPut.k (k := .inr x) h hl
theorem pen_small (c : Addr) (k l : Int) : (penK c k l).length < sizeLine := by show 3 < sizeLine; decide
theorem mod_bd (a b : Int) (h : 0 < b) : 0 ≤ a % b ∧ a % b < b := ⟨Int.emod_nonneg a (by omega), Int.emod_lt_of_pos a h⟩
theorem boot_absO : bootBuiltins ("abs" : Str) = some (.builtin "abs") := by decide +kernel
section
variable {P : Program} {w : World} {K : PySem.W.Frag} {mg : Str → Option Value} {base : Heap}
theorem scDraw : FnScope ["_law_pen_here", "_law_many", "_law_digit", "_law_k", "_law_size", "_law_cell", "_law_mix"] ["_law_pen_here", "_law_many"] (defScope sDraw) := ⟨rfl, rfl, rfl, by decide +kernel, rfl, by decide +kernel, by decide +kernel⟩
theorem div200 {m : Int} (h : 0 < m) (h2 : m.natAbs < 2 ^ 200) (i : Int) : CDivW i m := wide_div h h2 (by decide) (by decide)
theorem ok_draw {f : Addr} {fd : FuncData} (F : Fun K "_law_draw" "_law_draw" sDraw f fd) (B : Bl mg) : FnOk P w K mg base CX0 1 f fd ["_law_pen_here", "_law_many"] spDraw := by
  refine F.ok scDraw (fun vs H Q E h => ?_) (fun cdv A outer s H vs Q E hr h => ?_)
  · obtain ⟨p, m, n, rfl, _⟩ := h
    rfl
  · obtain ⟨p, m, n, rfl, hm, hmb, ⟨c, ns, k, l, hp, hc, hns, hk0, hkn, hl⟩, hn, q⟩ := h
    have hu := hu_of hr
    have ncp : c ≠ p := ne_of hc hp (by intro z; cases z)
    have nd := scDraw.nd
    refine ⟨_, pss_cons (ps_if (pt_cmpR op_gt (pe_dget hu (pv 0) pe_str (fun _ _ => rfl)) pe_int (nomark _))
        (pss_cons (ps_set (i := 2) nd rfl (.inl rfl) (pe_op op_mod (pe_callTy call_int1 (by rfl) B.int boot_int (pa_cons (pe_dget hu (pv 0) pe_str (fun _ _ => rfl)) pa_nil)) (pv 1)))
        (pss_cons (ps_dput hu (pv 0) pe_str (pe_op op_fdivW (pe_dget hu (pv 0) pe_str (fun _ _ => rfl)) (pv 1)) rfl)
        (pss_one (ps_ret (pv 2))))) pss_nil)
      (pss_cons (ps_par (i := 3) (j := 4) rfl nd rfl rfl (by decide) rfl rfl (pa_cons (pe_dget hu (pv 0) pe_str (fun _ _ => rfl)) (pa_cons (pe_callB call_len_seq (by rfl) B.len PySem.boot_len (pa_cons (pe_dget hu (pv 0) pe_str (fun _ _ => rfl)) pa_nil)) pa_nil)) rfl)
      (pss_cons (ps_dput hu (pv 0) pe_str (pe_op op_add (pv 3) pe_int) rfl)
      (Evl.pss_cut (ps_set (i := 5) nd rfl (.inl rfl) (pe_ifExp (pt_cmpR op_gt (pv 4) pe_int (nomark _))
          (pe_ix ix_list (pe_dget hu (pv 0) pe_str (fun _ _ => rfl)) (pe_op op_mod (pe_callTy call_int1 (by rfl) B.int boot_int (pa_cons (pv 3) pa_nil)) (pv 4)) (fun _ _ => rfl))
          (pe_op op_add (pe_op op_mul pe_int (pv 3)) pe_int)))
      (Evl.pss_cut (ps_if (PW.pt (pw_and (pt_cmpR op_lt (pv 3) (pv 4) (nomark _)) (pw_and1 (pt_cmpR op_ge (pe_callB call_abs (by rfl) B.abs boot_absO (pa_cons (pv 5) pa_nil)) (pe_op op_pow pe_int pe_int) (nomark _)))))
        (pss_cons (ps_dput hu (pv 0) pe_str (pe_op op_fdivW (pe_op op_sub (pe_callB call_abs (by rfl) B.abs boot_absO (pa_cons (pv 5) pa_nil)) (pe_op op_pow pe_int pe_int)) (pv 1)) rfl)
        (pss_one (ps_ret (pe_op op_mod (pe_callTy call_int1 (by rfl) B.int boot_int (pa_cons (pe_op op_sub (pe_callB call_abs (by rfl) B.abs boot_absO (pa_cons (pv 5) pa_nil)) (pe_op op_pow pe_int pe_int)) pa_nil)) (pv 1))))) pss_nil)
      (pss_cons (ps_set (i := 6) nd rfl (.inl rfl) (pe_op op_mod (pe_callTy call_int1 (by rfl) B.int boot_int (pa_cons
          (pe_op op_add (pe_op op_add (pe_op op_add (pe_op op_mul (pe_op op_mod (pe_callTy call_int1 (by rfl) B.int boot_int (pa_cons (pv 5) pa_nil)) pe_int) pe_int) (pe_op op_mul (pe_op op_mul pe_int (pv 3)) (pv 3))) (pe_op op_mul pe_int (pv 3))) pe_int) pa_nil)) pe_int))
      (pss_cons (ps_set (i := 6) nd rfl (.inl rfl) (pe_op op_mod (pe_callTy call_int1 (by rfl) B.int boot_int (pa_cons
          (pe_op op_add (pe_op op_add (pe_op op_mul (pv 6) (pv 6)) (pe_op op_mul pe_int (pv 6))) (pe_op op_mul pe_int (pv 3))) pa_nil)) pe_int))
      (pss_one (ps_ret (pe_op op_mod (pe_callTy call_int1 (by rfl) B.int boot_int (pa_cons (pe_op op_fdiv (pe_op op_mod (pe_callTy call_int1 (by rfl) B.int boot_int (pa_cons (pe_op op_mul (pv 6) (pe_op op_add (pv 6) pe_int)) pa_nil)) pe_int) pe_int) pa_nil)) (pv 1)))))))))), ?_⟩
    -- if pen['left'] > 0
    have dL : DGet H p (.str "left") (some (.int l)) := dg hp (pen_left c k l)
    have dB : DGet H p (.str "begun") (some (.int k)) := dg hp (pen_begun c k l)
    have dC : DGet H p (.str "cells") (some (.ref c)) := dg hp (pen_cells c k l)
    refine ⟨_, rfl, p, .int l, rfl, dL, _, _, rfl, rfl, _, rfl, ite2 (fun e => ?_) (fun e => ?_)⟩
    · have hl1 : 0 < l := of_decide_eq_true e
      refine ⟨_, rfl, p, .int l, rfl, dL, .inl ⟨l, rfl, _, rfl, l, m, rfl, rfl, hm, ?_⟩⟩
      refine ⟨_, rfl, p, .int l, rfl, dL, _, rfl, l, m, rfl, rfl, div200 hm hmb l, _, rfl, p, _, rfl, dp hp (pen_put_left c k l _) (pen_small c k l), _, rfl, ?_⟩
      refine q (l % m) _ (mod_bd l m hm).1 (mod_bd l m hm).2 ⟨c, ns, k, l / m, upd_same, by rw [upd_ne ncp]; exact hc, hns, hk0, by omega, Int.ediv_nonneg hl (by omega)⟩ (Frm.pen hp)
    · -- k, size = pen['begun'], len(pen['cells'])
      have hcL : SqL K H c (ns.map V.int) := .inl (.inl hc)
      refine ⟨_, rfl, p, .int k, rfl, dB, _, rfl, p, .ref c, rfl, dC, c, _, rfl, .inl hcL, _, _, rfl, ?_⟩
      refine ⟨_, rfl, _, _, rfl, rfl, _, rfl, p, _, rfl, dp hp (pen_put_begun c k l _) (pen_small c k l), ?_⟩
      -- cell = ..
      have hl0 : l = 0 := by
        have : ¬ (0 < l) := fun z => e (decide_eq_true z)
        omega
      have hp1 : (upd H p (.dK (penK c (k + 1) l))) p = some (.dK (penK c (k + 1) l)) := upd_same
      have hc1 : (upd H p (.dK (penK c (k + 1) l))) c = some (.lst (ns.map V.int)) := by rw [upd_ne ncp]; exact hc
      have dC1 := dg (x := "cells") hp1 (pen_cells c (k + 1) l)
      have hcL1 : SqL K (upd H p (.dK (penK c (k + 1) l))) c (ns.map V.int) := .inl (.inl hc1)
      have fin : ∀ (r y : Int), 0 ≤ r → r < m → 0 ≤ y → ∀ H', H' = upd H p (.dK (penK c (k + 1) y)) → Q (.int r) H' := fun r y h0 h1 hy H' e => by
        subst e
        exact q r _ h0 h1 ⟨c, ns, k + 1, y, upd_same, by rw [upd_ne ncp]; exact hc, hns, by omega, by omega, hy⟩ (Frm.pen hp)
      refine ⟨fun σ' H' => ∃ cell : Int, σ' = [some (.ref p), some (.int m), none, some (.int k), some (.int ((ns.map V.int).length : Int)), some (.int cell), none] ∧ H' = upd H p (.dK (penK c (k + 1) l)), ?_, ?_⟩
      · refine ⟨_, rfl, _, _, rfl, rfl, _, rfl, ite2 (fun e2 => ?_) (fun e2 => ?_)⟩
        · have hsz : (0 : Int) < ((ns.map V.int).length : Int) := of_decide_eq_true e2
          have hb := mod_bd k _ hsz
          have hj : (k % ((ns.map V.int).length : Int)).toNat < ns.length := by
            rw [List.length_map] at hb ⊢
            omega
          refine ⟨_, rfl, p, _, rfl, dC1, _, rfl, .inl ⟨k, rfl, _, rfl, k, _, rfl, rfl, hsz, c, ns.map V.int, _, .int ns[(k % ((ns.map V.int).length : Int)).toNat], rfl, rfl, hcL1, ?_, ?_⟩⟩
          · have := atI_nat (xs := ns.map V.int) (j := (k % ((ns.map V.int).length : Int)).toNat) (v := .int ns[(k % ((ns.map V.int).length : Int)).toNat]) (by rw [List.getElem?_map, List.getElem?_eq_getElem hj]; rfl)
            rw [Int.toNat_of_nonneg hb.1] at this
            exact this
          · exact ⟨_, rfl, rfl⟩
        · refine ⟨_, rfl, _, _, rfl, rfl, .inl ⟨by decide, by decide⟩, _, _, rfl, rfl, ?_⟩
          exact ⟨_, rfl, rfl⟩
      · rintro σ' H' ⟨cell, rfl, rfl⟩
        refine ⟨fun σ' H' => σ' = [some (.ref p), some (.int m), none, some (.int k), some (.int ((ns.map V.int).length : Int)), some (.int cell), none] ∧ H' = upd H p (.dK (penK c (k + 1) l)), ?_, ?_⟩
        · have hpow : CPow 10 18 := ⟨by decide, by decide, by decide⟩
          refine ⟨_, rfl, _, rfl, _, _, rfl, rfl, _, rfl, ite2 (fun e2 => ?_) (fun e2 => ?_)⟩
          · refine ⟨_, rfl, cell, rfl, _, _, rfl, rfl, hpow, _, _, rfl, rfl, _, rfl, ite2 (fun e3 => ?_) (fun e3 => ?_)⟩
            · have hge := of_decide_eq_true e3
              refine ⟨_, rfl, cell, rfl, _, _, rfl, rfl, hpow, _, _, rfl, rfl, _, rfl, _, _, rfl, rfl, div200 hm hmb _, _, rfl, p, _, rfl, dp hp1 (pen_put_left c (k + 1) l _) (pen_small c _ l), ?_⟩
              refine ⟨_, rfl, cell, rfl, _, _, rfl, rfl, hpow, _, _, rfl, rfl, .inl ⟨_, rfl, _, rfl, _, _, rfl, rfl, hm, ?_⟩⟩
              refine fin _ (((if cell < 0 then -cell else cell) - 10 ^ (18 : Int).toNat) / m) (mod_bd _ m hm).1 (mod_bd _ m hm).2 (Int.ediv_nonneg ?_ (by omega)) _ ?_
              · show (0 : Int) ≤ (if cell < 0 then -cell else cell) - 10 ^ (18 : Int).toNat
                have : (10 : Int) ^ (18 : Int).toNat ≤ (if cell < 0 then -cell else cell) := hge
                omega
              · rw [upd_upd]
            · exact ⟨rfl, rfl⟩
          · exact iteF ⟨rfl, rfl⟩
        · rintro σ' H' ⟨rfl, rfl⟩
          -- mix
          refine ⟨_, rfl, .inl ⟨_, rfl, _, _, rfl, rfl, (by show (0 : Int) < 4294966769; decide), _, _, rfl, rfl, .inr ⟨by decide, by decide⟩, _, rfl, _, _, rfl, rfl, .inl ⟨by decide, by decide⟩, _, rfl, _, _, rfl, rfl, .inl ?_, _, _, rfl, rfl, _, rfl, _, _, rfl, rfl, .inl ⟨by decide, by decide⟩, _, _, rfl, rfl, _, _, rfl, rfl, .inl ⟨_, rfl, _, _, rfl, rfl, (by show (0 : Int) < 4294966813; decide), ?_⟩⟩⟩
          · constructor <;> omega
          -- mix again
          generalize hM : (cell % 4294966769 * 43313 + 31699 * k * k + 613 * k + 41) % 4294966813 = M
          have hMb : 0 ≤ M ∧ M < 4294966813 := hM ▸ mod_bd _ _ (by decide)
          refine ⟨_, rfl, _, rfl, _, _, rfl, rfl, .inl (by constructor <;> omega), _, rfl, _, _, rfl, rfl, .inl ⟨by decide, by decide⟩, _, _, rfl, rfl, _, rfl, _, _, rfl, rfl, .inl ⟨by decide, by decide⟩, _, _, rfl, rfl, .inl ⟨_, rfl, _, _, rfl, rfl, (by show (0 : Int) < 4294966787; decide), ?_⟩⟩
          generalize hM2 : (M * M + 40961 * M + 17 * k) % 4294966787 = M2
          have hMb2 : 0 ≤ M2 ∧ M2 < 4294966787 := hM2 ▸ mod_bd _ _ (by decide)
          refine ⟨_, rfl, _, rfl, _, _, rfl, rfl, _, _, rfl, rfl, .inl (by constructor <;> omega), .inl ⟨_, rfl, _, _, rfl, rfl, (by show (0 : Int) < 4294966661; decide), _, _, rfl, rfl, ⟨by decide, by decide⟩, .inl ⟨_, rfl, _, rfl, _, _, rfl, rfl, hm, ?_⟩⟩⟩
          exact fin _ l (mod_bd _ m hm).1 (mod_bd _ m hm).2 hl _ rfl
theorem scPick : FnScope ["_law_pen_here", "_law_items"] ["_law_pen_here", "_law_items"] (defScope sPick) := ⟨rfl, rfl, rfl, by decide +kernel, rfl, by decide +kernel, by decide +kernel⟩
theorem ok_pick {f : Addr} {fd : FuncData} (F : Fun K "_law_pick" "_law_pick" sPick f fd) (B : Bl mg) (D : Cl P w K mg base 1 "_law_draw" ["_law_pen_here", "_law_many"] spDraw) : FnOk P w K mg base CX0 2 f fd ["_law_pen_here", "_law_items"] (spPick K) := by
  refine F.ok scPick (fun vs H Q E h => ?_) (fun cdv A outer s H vs Q E hr h => ?_)
  · obtain ⟨p, a, xs, n, rfl, _⟩ := h
    rfl
  · obtain ⟨p, a, xs, n, rfl, hS, h0, h1, hP, hn, q⟩ := h
    refine ⟨_, pss_one (ps_ret (pe_ix ix_list (pv 1) (pe_cl D hr (by decide) (by rfl) (pa_cons (pv 0) (pa_cons (pe_callB call_len_seq (by rfl) B.len PySem.boot_len (pa_cons (pv 1) pa_nil)) pa_nil))) (fun _ _ => rfl))), ?_⟩
    refine ⟨_, rfl, _, rfl, _, rfl, a, xs, rfl, .inl hS, p, xs.length, n, rfl, by omega, ?_, hP, hn, fun r H' hr0 hr1 hP' hF => ?_⟩
    · have : xs.length < 2 ^ 200 := Nat.lt_of_le_of_lt h1 (by decide)
      simpa using this
    · have hj : r.toNat < xs.length := by omega
      refine ⟨a, xs, r, xs[r.toNat], rfl, rfl, hF.seq hP hS, ?_, q _ _ (List.getElem_mem hj) hP' hF⟩
      have := atI_nat (xs := xs) (j := r.toNat) (v := xs[r.toNat]) (List.getElem?_eq_getElem hj)
      rw [Int.toNat_of_nonneg hr0] at this
      exact this
theorem scPen : FnScope ["_law_script"] ["_law_script"] (defScope sPen) := ⟨rfl, rfl, rfl, by decide +kernel, rfl, by decide +kernel, by decide +kernel⟩
theorem cut63 (ns : List Int) : cutV (ns.map V.int) none (some 63) = (ns.take 63).map V.int := by
  unfold cutV
  rw [HT.sIx_none, show HT.sIx (ns.map V.int).length (ns.map V.int).length (some 63) = min 63 (ns.map V.int).length from HT.sIx_nat _ _ 63, List.drop_zero, Nat.sub_zero, List.map_take]
  rcases Nat.le_total 63 (ns.map V.int).length with h | h
  · rw [Nat.min_eq_left h]
  · rw [Nat.min_eq_right h, List.take_of_length_le (Nat.le_refl _), List.take_of_length_le h]
theorem ok_pen {f : Addr} {fd : FuncData} (F : Fun K "_law_pen" "_law_pen" sPen f fd) (B : Bl mg) : FnOk P w K mg base CX0 1 f fd ["_law_script"] (spPen K) := by
  refine F.ok scPen (fun vs H Q E h => ?_) (fun cdv A outer s H vs Q E hr h => ?_)
  · obtain ⟨a, ns, rfl, _⟩ := h
    rfl
  · obtain ⟨a, ns, rfl, hS, hlen, q⟩ := h
    refine ⟨_, pss_one (ps_ret (pe_disp (pps_cons pe_str (pe_callTy call_list_of (by rfl) B.list (by decide +kernel) (pa_cons (pe_slice sl_list (pv 0) po_none (po_some pe_int)) pa_nil)) (pps_cons pe_str pe_int (pps_cons pe_str pe_int pps_nil))) rfl rfl (by simp) (by decide))), ?_⟩
    intro p hp
    have s1 : Same H (upd H p (.dK [])) := fun b o e => by rw [upd_ne (ne_of_none e hp)]; exact e
    refine ⟨_, rfl, _, rfl, a, _, rfl, s1.seq hS, fun x hx => ?_⟩
    refine ⟨x, _, rfl, .inl (.inl (.inl upd_same)), fun c hc => ?_⟩
    have npx : p ≠ x := ne_of_none upd_same hx
    have npc : p ≠ c := by
      intro e
      subst e
      rw [upd_ne npx, upd_same] at hc
      cases hc
    have a1 : putK ([] : List (Key × V)) (.inr ("cells" : Str)) (.ref c) = [(.inr ("cells" : Str), .ref c)] := putK_new _ valV_nil
    have a2 : putK ([(.inr ("cells" : Str), .ref c)] : List (Key × V)) (.inr ("begun" : Str)) (.int 0) = [(.inr ("cells" : Str), .ref c), (.inr ("begun" : Str), .int 0)] := putK_new _ ((valV_neg (fun e => kBC e.symm)).trans valV_nil)
    have a3 : putK ([(.inr ("cells" : Str), .ref c), (.inr ("begun" : Str), .int 0)] : List (Key × V)) (.inr ("left" : Str)) (.int 0) = penK c 0 0 := putK_new _ ((valV_neg (fun e => kLC e.symm)).trans ((valV_neg (fun e => kLB e.symm)).trans valV_nil))
    have e3 : mergeK [] (penK c 0 0) = penK c 0 0 := by
      show putK (putK (putK ([] : List (Key × V)) (.inr ("cells" : Str)) (.ref c)) (.inr ("begun" : Str)) (.int 0)) (.inr ("left" : Str)) (.int 0) = penK c 0 0
      rw [a1, a2, a3]
    refine ⟨by rw [upd_ne npc, upd_ne npx, upd_same], penK c 0 0, rfl, by show 3 ≤ 15; decide, ?_⟩
    rw [e3]
    refine q p _ hp ⟨c, ns.take 63, 0, 0, upd_same, ?_, by rw [List.length_take]; omega, by omega, by omega, by omega⟩ fun b o e => ?_
    · rw [upd_ne npc.symm, upd_same, cut63]
    · have h1 := s1 b o e
      have nbx : b ≠ x := ne_of_none h1 hx
      have h2 : (upd (upd H p (.dK [])) x (.lst (cutV (ns.map V.int) none (some 63)))) b = some o := by rw [upd_ne nbx]; exact h1
      rw [upd_ne (ne_of_none e hp), upd_ne (ne_of_none h2 hc)]
      exact h2
end
end OR

namespace OR
open PySem PySem.Spec PyProof.Rows L2
/-! ### own classes: double-underscore methods behind the signs -/
/-- a method of the class at C, called with its object and arguments by position -/
structure Md (P : Program) (w : World) (K : PySem.W.Frag) (mg : Str → Option Value) (base : Heap) (k : Nat) (C : Addr) (m : Str) (sp : Sp) : Prop where
  ex : ∃ f, FnR P w K mg base CX0 k f sp ∧ PySem.W.findIn K (.ref C) m = some (some (.ref f)) ∧ PySem.W.isFn K (.ref f) = true ∧ PySem.W.fnIn K f = true
theorem fnR_of {P : Program} {w : World} {K : PySem.W.Frag} {mg : Str → Option Value} {base : Heap} {k : Nat} {f : Addr} {fd : FuncData} {ps : List Str} {sp : Sp} (F : FnOk P w K mg base CX0 k f fd ps sp) (hb : Binds K fd ps []) : FnR P w K mg base CX0 k f sp :=
  (F.raw hb .nil).imp fun vs H Q E h => by rw [List.append_nil]; exact h
section
variable {X : Cx} {n : Nat} {C : Addr} {sp : Sp}
def rBinS (C : Addr) (sp : Sp) : R2 := fun x y H Q => ∃ a b dx dy fs gs, x = .ref a ∧ y = .ref b ∧ H a = some (.ins C dx fs) ∧ H b = some (.ins C dy gs) ∧ sp [x, y] H Q E0
theorem op_binS {op : Operator} (m : Md X.prog X.w X.K X.mg X.base n C (PySem.dunder op.info.2) sp) (sf : PySem.W.selfFirst X.K C = true) (hr : Room n X.A) : OpR X (binaryOp op) (rBinS C sp) := by
  intro pins s σ H x y v u Q I rx ry h
  obtain ⟨f, F, hs, hf, _⟩ := m.ex
  obtain ⟨a, b, dx, dy, fs, gs, rfl, rfl, ha, hb, q⟩ := h
  cases (show v = Value.ref a from rx)
  cases (show u = Value.ref b from ry)
  obtain ⟨mA, J, _⟩ := ins_get I.hok ha
  obtain ⟨mB, J', _⟩ := ins_get I.hok hb
  obtain ⟨od, J, _⟩ := J.look
  obtain ⟨od', J', _⟩ := J'.look
  obtain ⟨m, hF⟩ := I.fr
  refine PySem.W.binop_K hF I.ok.mod.kin J J'.type sf hs hf ?_
  refine wpAny_mono (wpAny_call (run_fnR (us := [.ref a, .ref b]) (vs := [.ref a, .ref b]) F hr pass0 I (.cons rfl (.cons rfl .nil)) q)) (fun w s' z => ?_) fun _ _ x => x
  obtain ⟨z', H', I', rz, qz⟩ := z
  exact SlX.cmpback rz ⟨z', H', I', rz, qz⟩
/-- what + and the like ask of the class for an int on the right -/
structure BinI (K : PySem.W.Frag) (C : Addr) (op : Operator) : Prop where
  rc : ∃ rc, PySem.W.findIn K (.ref C) (PySem.dunderR op.info.2) = some rc ∧ (rc = none ∨ ∃ g : Addr, rc = some (.ref g))
  fo : ∃ fo, PySem.W.findIn K (.type "int") (PySem.dunder op.info.2) = some fo
  ro : ∃ ro, PySem.W.findIn K (.type "int") (PySem.dunderR op.info.2) = some ro
  sub : PySem.W.subIn K (.type "int") (.ref C) = some false
def rBinI (C : Addr) (sp : Sp) : R2 := fun x y H Q => ∃ a dx fs i, x = .ref a ∧ y = .int i ∧ H a = some (.ins C dx fs) ∧ sp [x, y] H Q E0
theorem op_binI {op : Operator} (m : Md X.prog X.w X.K X.mg X.base n C (PySem.dunder op.info.2) sp) (b : BinI X.K C op) (sf : PySem.W.selfFirst X.K C = true) (hr : Room n X.A) : OpR X (binaryOp op) (rBinI C sp) := by
  intro pins s σ H x y v u Q I rx ry h
  obtain ⟨f, F, hs, hf, _⟩ := m.ex
  obtain ⟨a, dx, fs, i, rfl, rfl, ha, q⟩ := h
  cases (show v = Value.ref a from rx)
  obtain ⟨t, rfl⟩ := (show ∃ t, u = Value.int i t from ry)
  obtain ⟨mA, J, _⟩ := ins_get I.hok ha
  obtain ⟨od, J, _⟩ := J.look
  obtain ⟨m, hF⟩ := I.fr
  obtain ⟨rc, hrc, hp⟩ := b.rc
  obtain ⟨fo, h1⟩ := b.fo
  obtain ⟨ro, h2⟩ := b.ro
  refine PySem.W.ksp_binT (T := "int") hF I.ok.mod.kin J rfl sf hs hf hrc hp h1 h2 b.sub ?_
  refine wpAny_mono (wpAny_call (run_fnR (us := [.ref a, .int i t]) (vs := [.ref a, .int i]) F hr pass0 I (.cons rfl (.cons ⟨t, rfl⟩ .nil)) q)) (fun w s' z => ?_) fun _ _ x => x
  obtain ⟨z', H', I', rz, qz⟩ := z
  exact SlX.cmpback rz ⟨z', H', I', rz, qz⟩
def rNegO (C : Addr) (sp : Sp) : V → Hp → VK → Prop := fun x H Q => ∃ a dx fs, x = .ref a ∧ H a = some (.ins C dx fs) ∧ sp [x] H Q E0
theorem un_negO (m : Md X.prog X.w X.K X.mg X.base n C "__neg__" sp) (hr : Room n X.A) : UnR X (unaryOp .USub) (rNegO C sp) := by
  intro pins s σ H x v Q I rx h
  obtain ⟨f, F, hs, hf, _⟩ := m.ex
  obtain ⟨a, dx, fs, rfl, ha, q⟩ := h
  cases (show v = Value.ref a from rx)
  obtain ⟨mA, J, _⟩ := ins_get I.hok ha
  obtain ⟨od, J, _⟩ := J.look
  obtain ⟨m, hF⟩ := I.fr
  refine PySem.W.ksp_neg hF I.ok.mod.kin J hs hf ?_
  refine wpAny_mono (wpAny_call (run_fnR (us := [.ref a]) (vs := [.ref a]) F hr pass0 I (.cons rfl .nil) q)) (fun w s' z => ?_) fun _ _ x => x
  exact z
end
/-- a reading may ask for more -/
theorem pe_imp {X : Cx} {e : Expr} {t t' : TE} (h : PE X e t) (i : ∀ σ H Q, t' σ H Q → t σ H Q) : PE X e t' := ⟨fun pins s σ H Q I q => h.run pins s σ H Q I (i σ H Q q)⟩
structure FnAt (K : PySem.W.Frag) (x : Str) (st : Stmt) : Prop where
  ex : ∃ f fd, Fun K x x st f fd ∧ PySem.W.nsIn K mainGlobals x = some (some (.ref f))
theorem fnAt {K : PySem.W.Frag} {h : Heap} {x : Str} {st : Stmt} {f : Addr} {oc : Value} {od an : Option Addr} {osl : Array (Option Value)} {kV doc pm cdv ct : Value} (_X : K.In h)
    (a : PySem.W.nsIn K mainGlobals x = some (some (.ref f))) (l : K.lookup f = some ⟨oc, od, .func (PySem.W.fnOf x x (defArgs st) (defBody st) (defScope st) .none kV doc pm an cdv ct), osl⟩)
    (c : PySem.W.codeIn K cdv x = true) (k : PySem.W.keepIn K (.ref f) = true) : FnAt K x st := ⟨f, _, fun_mk l c k, a⟩
structure MtAt (K : PySem.W.Frag) (C : Addr) (m m' qual : Str) (st : Stmt) : Prop where
  ex : ∃ f fd, Fun K m qual st f fd ∧ PySem.W.findIn K (.ref C) m' = some (some (.ref f)) ∧ PySem.W.isFn K (.ref f) = true ∧ PySem.W.fnIn K f = true
theorem mtAt {K : PySem.W.Frag} {h : Heap} {C : Addr} {m m' qual : Str} {st : Stmt} {f : Addr} {oc : Value} {od an : Option Addr} {osl : Array (Option Value)} {kV doc pm cdv ct : Value} (_X : K.In h)
    (a : PySem.W.findIn K (.ref C) m' = some (some (.ref f))) (l : K.lookup f = some ⟨oc, od, .func (PySem.W.fnOf m qual (defArgs st) (defBody st) (defScope st) .none kV doc pm an cdv ct), osl⟩)
    (c : PySem.W.codeIn K cdv qual = true) (k : PySem.W.keepIn K (.ref f) = true) (i : PySem.W.isFn K (.ref f) = true) (n : PySem.W.fnIn K f = true) : MtAt K C m m' qual st := ⟨f, _, fun_mk l c k, a, i, n⟩
section
variable {P : Program} {w : World} {K : PySem.W.Frag} {mg : Str → Option Value} {base h : Heap}
theorem cl_of {x : Str} {st : Stmt} {k : Nat} {ps : List Str} {sp : Sp} (a : FnAt K x st) (X : K.In h) (G : h.Ns mainGlobals mg)
    (hb : ∀ (kV doc pm : Value) (an : Option Addr) (cdv ct : Value) (us : List Value), us.length = ps.length → bindArgs (PySem.W.fnOf x x (defArgs st) (defBody st) (defScope st) .none kV doc pm an cdv ct) ⟨us, []⟩ = pure (ps.zip us))
    (ok : ∀ f fd, Fun K x x st f fd → FnOk P w K mg base CX0 k f fd ps sp) : Cl P w K mg base k x ps sp := by
  obtain ⟨f, fd, F, e⟩ := a.ex
  exact ⟨f, fd, ok f fd F, PySem.W.mg_of X G e, F.kp, F.binds hb⟩
theorem md_of {C : Addr} {m m' qual : Str} {st : Stmt} {k : Nat} {ps : List Str} {sp : Sp} (a : MtAt K C m m' qual st)
    (hb : ∀ (kV doc pm : Value) (an : Option Addr) (cdv ct : Value) (us : List Value), us.length = ps.length → bindArgs (PySem.W.fnOf m qual (defArgs st) (defBody st) (defScope st) .none kV doc pm an cdv ct) ⟨us, []⟩ = pure (ps.zip us))
    (ok : ∀ f fd, Fun K m qual st f fd → FnOk P w K mg base CX0 k f fd ps sp) : Md P w K mg base k C m' sp := by
  obtain ⟨f, fd, F, e, i, n⟩ := a.ex
  exact ⟨f, fnR_of (ok f fd F) (F.binds hb), e, i, n⟩
end
end OR

namespace OR
open PySem PySem.Spec PyProof.Rows L2
open AutoSeq1 (wpAny_loadPart')
/-! ### enumerate of a tuple -/
section
variable {prog : Program} {w : World} {A : Around} {E : Value → Shared → Prop} {s : Shared}
theorem nextOf_tup_item {it t : Addr} {i : Nat} {items : Array Value} {x : Value} {Q : Value → Shared → Prop} (hit : s.heap.IsTupleIter it t i) (ht : s.heap.IsTuple t items) (hx : items[i]? = some x)
    (hQ : ∀ h', h'.IsTupleIter it t (i + 1) → Heap.SameBut it s.heap h' → Q x { s with heap := h' }) : wpAny (model prog w) A (Builtin.SmallTypes.nextOf (.ref it)) Q E s := by
  obtain ⟨o, ho, hc, hd⟩ := id hit
  obtain ⟨ol, hol, _, nl, hdl⟩ := ht
  unfold Builtin.SmallTypes.nextOf
  refine wpAny_bind (wpAny_callSpecial?_slot (name := Str.ofString "__next__") hit.typeIs F.slot_tuple_iterator_next (wpAny_call_entry F.slot_tuple_iterator_next hit.typeIs F.entry_tuple_iterator_next ?_ (F.args_tuple_iterator_next_1 _)))
  show wpAny _ _ (field (.ref it) 0 >>= _) _ _ s
  refine wpAny_bind (wpAny_field ho hd (x := .ref t) rfl ?_)
  show wpAny _ _ (if (Value.ref t == Value.none) = true then _ else _) _ _ s
  rw [if_neg (show ¬ ((Value.ref t == Value.none) = true) by exact Bool.false_ne_true)]
  show wpAny _ _ (field (.ref it) 1 >>= _) _ _ s
  refine wpAny_bind (wpAny_field ho hd (x := .int i 0) rfl ?_)
  show wpAny _ _ (seqItems? (.ref t) >>= _) _ _ s
  refine wpAny_bind (wpAny_seqItems hol hdl ?_)
  simp only [Int.toNat_natCast, hx]
  refine wpAny_bind (wpAny_setField ho hd (by simp) (wpAny_pure ⟨x, rfl, wpAny_pure (hQ _ ⟨_, Heap.get?_update_self _ ho (Obj.isFreed_of_fields (Obj.data_mapFields hd _)), (Obj.cls_mapFields ..).trans hc, by
    rw [Obj.data_mapFields hd]; simp [rawInt]⟩ (Heap.SameBut.update ..))⟩))
theorem nextOf_tup_end {it t : Addr} {i : Nat} {items : Array Value} {Q : Value → Shared → Prop} (hh : A.handled = none) (hit : s.heap.IsTupleIter it t i) (ht : s.heap.IsTuple t items) (hx : items[i]? = none)
    (hE : ∀ h' e, Heap.ExtBut it s.heap h' → (∃ o, h'.get? e = some o ∧ o.cls = .type "StopIteration") → E (.ref e) { s with heap := h' }) : wpAny (model prog w) A (Builtin.SmallTypes.nextOf (.ref it)) Q E s := by
  obtain ⟨o, ho, hc, hd⟩ := id hit
  obtain ⟨ol, hol, _, nl, hdl⟩ := ht
  unfold Builtin.SmallTypes.nextOf
  refine wpAny_bind (wpAny_callSpecial?_slot (name := Str.ofString "__next__") hit.typeIs F.slot_tuple_iterator_next (wpAny_call_entry F.slot_tuple_iterator_next hit.typeIs F.entry_tuple_iterator_next ?_ (F.args_tuple_iterator_next_1 _)))
  show wpAny _ _ (field (.ref it) 0 >>= _) _ _ s
  refine wpAny_bind (wpAny_field ho hd (x := .ref t) rfl ?_)
  show wpAny _ _ (if (Value.ref t == Value.none) = true then _ else _) _ _ s
  rw [if_neg (show ¬ ((Value.ref t == Value.none) = true) by exact Bool.false_ne_true)]
  show wpAny _ _ (field (.ref it) 1 >>= _) _ _ s
  refine wpAny_bind (wpAny_field ho hd (x := .int i 0) rfl ?_)
  show wpAny _ _ (seqItems? (.ref t) >>= _) _ _ s
  refine wpAny_bind (wpAny_seqItems hol hdl ?_)
  simp only [Int.toNat_natCast, hx]
  refine wpAny_bind (wpAny_rule (wpAny_bind (wpAny_setField ho hd (by simp) ?_)))
  show wpAny _ _ (newExc (.type "StopIteration") [] >>= _) _ _ _
  refine wpAny_bind ?_
  simp only [newExc, newTuple]
  refine wpAny_bind (wpAny_newObj_type ?_ (by size_fits))
  refine wpAny_bind (m := firstArgMember _ _) (wpAny_of_eq (a := Value.none) (by first | rfl | (simp only [firstArgMember]; rfl)) ?_)
  refine wpAny_newObj_type ?_ (by size_fits)
  simp only [raiseNew]
  refine wpAny_bind (wpAny_handled ?_)
  first | rw [show A.in1.handled = none from hh] | rw [hh]
  refine wpAny_bind (wpAny_pure (wpAny_throw ?_))
  exact hE _ _ (((Heap.SameBut.update ..).extBut.push _).push _) ⟨_, Heap.get?_push_size _ rfl, rfl⟩
theorem draws_tup (hh : A.handled = none) (it t : Addr) (hne : t ≠ it) (items : Array Value) :
    Draws prog w A it [it, t] items.size (fun i v => items[i]? = some v) (fun i h => h.IsTupleIter it t i ∧ h.IsTuple t items) where
  live := fun _ _ st => let ⟨o, ho, _⟩ := st.1; ⟨o, ho⟩
  frame := fun _ _ _ st hk => ⟨let ⟨o, ho, r⟩ := st.1; ⟨o, hk it (by simp) o ho, r⟩, let ⟨o, ho, r⟩ := st.2; ⟨o, hk t (by simp) o ho, r⟩⟩
  item := fun i s Q E hi st hQ => by
    refine nextOf_tup_item st.1 st.2 (x := items[i]) (by simp [hi]) fun h' hit' hs' => ?_
    exact hQ _ h' s.toks (by simp [hi]) ⟨hit', st.2.extBut hs'.extBut hne⟩ hs'
  done := fun s Q E st hE => nextOf_tup_end hh st.1 st.2 (by simp) hE
theorem meets_enum_tup (l : Addr) (items : Array Value) (n : Nat) (dct : Option Addr) (sl : Array (Option Value)) :
    Meets (Builtin.«enumerate.__new__» ⟨[.type "enumerate", .ref l], []⟩) (fun _ R s => s.heap.get? l = some { cls := .type "tuple", dict := dct, data := .seq items n, slots := sl } ∧
      R (.ok (.ret (.ref (s.heap.push { cls := .type "tuple_iterator", data := .fields #[.ref l, .int 0 0] }).objs.size)))
        { s with heap := (s.heap.push { cls := .type "tuple_iterator", data := .fields #[.ref l, .int 0 0] }).push { cls := .type "enumerate", data := .fields #[.none, .bool false, .ref s.heap.objs.size, rawInt 0, .none, .none] } }) :=
  .of_wp fun prog w A R s h => by
    obtain ⟨hp, g, d, tk, os⟩ := s
    obtain ⟨hl, h⟩ := h
    have hsub := sub_enumerate
    have hL : Heap.IsTuple (Shared.heap ⟨hp, g, d, tk, os⟩) l items := ⟨_, hl, rfl, n, rfl⟩
    wp_walk using wpAny_loadPart' hl
    refine wpAny_stack_any fun st => wpAny_pure ?_
    split
    · rename_i c _ _ _ _ _
      cases (c == Value.type "enumerate")
      · wp_walk using wpAny_loadPart' hl, wpAny_pyIter_tuple hL
        exact ⟨_, rfl, h⟩
      · wp_walk using wpAny_loadPart' hl, wpAny_pyIter_tuple hL
        exact ⟨_, rfl, h⟩
    · wp_walk using wpAny_loadPart' hl, wpAny_pyIter_tuple hL
      exact ⟨_, rfl, h⟩
theorem call_enum_tup {l : Addr} {items : Array Value} {Q : Value → Shared → Prop} (hL : s.heap.IsTuple l items)
    (h : ∀ h', IsEnum h' (s.heap.objs.size + 1) s.heap.objs.size 0 .none → h'.IsTupleIter s.heap.objs.size l 0 → h'.objs.size = s.heap.objs.size + 2 →
      (∀ b o, s.heap.get? b = some o → h'.get? b = some o) → Q (.ref (s.heap.objs.size + 1)) { s with heap := h' }) :
    wpAny (model prog w) A (call (.type "enumerate") [.ref l]) Q E s := by
  obtain ⟨⟨c, dct, dt, sl⟩, hl, hc, n, hd⟩ := hL
  replace hc : c = .type "tuple" := hc
  replace hd : dt = .seq items n := hd
  subst hc hd
  refine callType_new F.called_enumerate (by decide) (F.typeCall_enumerate_1 _) (F.newCall_enumerate_1 _) (fun obj => F.args_object_init_2 obj _) F.entry_enumerate_new (meets_enum_tup l items n dct sl) ⟨hl, ?_⟩
  have hz : (s.heap.push { cls := .type "tuple_iterator", data := .fields #[.ref l, .int 0 0] }).objs.size = s.heap.objs.size + 1 := Heap.size_push ..
  show _ ∧ _
  rw [hz]
  have he : IsEnum ((s.heap.push { cls := .type "tuple_iterator", data := .fields #[.ref l, .int 0 0] }).push
      { cls := .type "enumerate", data := .fields #[.none, .bool false, .ref s.heap.objs.size, rawInt 0, .none, .none] }) (s.heap.objs.size + 1) s.heap.objs.size 0 .none := by
    have := Heap.get?_push_size (s.heap.push { cls := .type "tuple_iterator", data := .fields #[.ref l, .int 0 0] })
      (o := { cls := .type "enumerate", data := .fields #[.none, .bool false, .ref s.heap.objs.size, rawInt 0, .none, .none] }) rfl
    rw [hz] at this; exact this
  refine ⟨⟨_, he, rfl⟩, h _ he ⟨_, Heap.get?_push_of_some _ (Heap.get?_push_size _ rfl), rfl, rfl⟩ (by rw [Heap.size_push, hz]) fun b o x => Heap.get?_push_of_some _ (Heap.get?_push_of_some _ x)⟩
end
/-- the tuple at a as it stands at each turn, each item in a new pair -/
def IteT (K : PySem.W.Frag) (a : Addr) : It :=
  ⟨fun i H => ∃ (xs : List V) (x : V), SqT K H a xs ∧ xs[i]? = some x, fun i H v H' => ∃ T x, v = .ref T ∧ H T = none ∧ H' = upd H T (.tup [.int (i : Nat), x]) ∧ ∀ xs, SqT K H a xs → xs[i]? = some x, fun i H => ∃ xs : List V, SqT K H a xs ∧ xs.length ≤ i⟩
theorem turn_enumT {P : Program} {w : World} {K : PySem.W.Frag} {elts : List Expr} {kk : Nat} {tpos : Pos} (a e it : Addr) (hai : a ≠ it) (hea : e ≠ a) :
    Turn P w K (.Tuple elts kk tpos) (IteT K a) [e, it] e (fun i h => (∃ old, IsEnum h e it ((i : Nat) : Int) old) ∧ h.IsTupleIter it a i ∧ e ≠ it) where
  mem := by simp
  obj := fun i h st b hb => by
    obtain ⟨⟨old, he⟩, ⟨o, ho, hc, hd⟩, _⟩ := st
    have e' : b = e ∨ b = it := by simpa using hb
    rcases e' with z | z
    · rw [z]; exact ⟨_, he, fun v q => nomatch q⟩
    · rw [z]; exact ⟨o, ho, fun v q => by rw [hd] at q; cases q⟩
  keep := fun i h h' st k => by
    obtain ⟨⟨old, he⟩, ⟨o, ho, r⟩, hne⟩ := st
    exact ⟨⟨old, k e (by simp) _ he⟩, ⟨o, k it (by simp) o ho, r⟩, hne⟩
  item := by
    intro X hP hw hK hc i pins s σ H E I hf st hg
    subst hP hw hK
    obtain ⟨⟨old, he⟩, hit, hne⟩ := st
    obtain ⟨xs, x, hq, hx⟩ := hg
    obtain ⟨its, rv, p, hz⟩ := I.tuple hq
    obtain ⟨u, hu, ru⟩ := rv.get hx
    have hel : e < s.heap.objs.size := Heap.lt_size he
    have hil : it < s.heap.objs.size := by obtain ⟨_, q, _⟩ := hit; exact Heap.lt_size q
    have hD := draws_tup (prog := X.prog) (w := X.w) (A := X.A.in1) (I.ok.hd hc) it a hai its.toArray
    have hlt : i < its.toArray.size := by
      have := (List.getElem?_eq_some_iff.mp hu).1
      simpa using this
    refine wpAny_pyNext_enum_itemD hD he ⟨hit, show s.heap.IsTuple a its.toArray from p⟩ hlt hne (by simp [hne, hea]) fun y h' tk hy ho hst' hT hsz hk => ?_
    obtain rfl : y = u := by
      have h1 : its[i]? = some y := by simpa using hy
      rw [hu] at h1
      exact (Option.some.inj h1).symm
    refine ⟨_, rfl, wpAny_letOwnedTupleGo_enum (s := { s with heap := h', toks := tk + 1 }) ho fun h'' he' sb => ?_⟩
    have hT2 : h''.get? s.heap.objs.size = some { cls := .type "tuple", data := .seq #[.int i tk, y] } := (sb.2 _ (Nat.ne_of_gt hel)).trans hT
    have new : ObjOk X.prog X.w (upd H s.heap.objs.size (.tup [.int (i : Nat), x])) h'' s.heap.objs.size (.tup [.int (i : Nat), x]) :=
      ⟨by show 2 ≤ sizeLine; decide, [.int i tk, y], .cons ⟨_, rfl⟩ (.cons ru .nil), ⟨_, hT2, rfl, _, rfl⟩⟩
    have I1 : Inv X pins σ (upd H s.heap.objs.size (.tup [.int (i : Nat), x])) { s with heap := h'', toks := tk + 1 } :=
      I.turnedNew (ch := [e, it]) (fun b ob hb q => (sb.2 b (fun z => hb (by simp [z]))).trans (hk b ob (fun z => hb (by simp [z])) (fun z => hb (by simp [z])) q)) hf (Nat.le_refl _) new
    refine ⟨.ref s.heap.objs.size, _, I1, rfl, ⟨_, x, rfl, I.hok.fresh (Nat.le_refl _), rfl, fun ys hy => by rw [I.tuple_inj hy hq]; exact hx⟩, ⟨⟨y, ?_⟩, ?_, hne⟩, fun b hb => ?_⟩
    · have e1 : ((i + 1 : Nat) : Int) = (i : Int) + 1 := by omega
      rw [e1]; exact he'
    · obtain ⟨o, ho', r⟩ := hst'.1
      exact ⟨o, (sb.2 it (Ne.symm hne)).trans ho', r⟩
    · have hb' : b < s.heap.objs.size := by
        have e' : b = e ∨ b = it := by simpa using hb
        rcases e' with z | z
        · rw [z]; exact hel
        · rw [z]; exact hil
      rw [upd_ne (Nat.ne_of_lt hb')]
      exact (hf b hb).1
  done := by
    intro X hP hw hK hc i pins s σ H E I hf st hg
    subst hP hw hK
    obtain ⟨⟨old, he⟩, hit, hne⟩ := st
    obtain ⟨xs, hq, hx⟩ := hg
    obtain ⟨its, rv, p, hz⟩ := I.tuple hq
    obtain ⟨f0, f1, f2, f3, f4, f5⟩ := hf it (by simp)
    have hl := rv.length
    have hT : s.TypeIs (.ref e) "enumerate" := ⟨_, he, rfl⟩
    unfold pyNext
    refine wpAny_bind (wpAny_attempt (wpAny_callSpecial?_slot (name := Str.ofString "__next__") hT F.slot_enumerate_next (wpAny_call_entry F.slot_enumerate_next hT F.entry_enumerate_next ?_ (F.args_enumerate_next_1 _))))
    show wpAny _ _ (field (.ref e) 2 >>= _) _ _ _
    refine wpAny_bind (wpAny_field he rfl (x := .ref it) rfl ?_)
    refine wpAny_bind (nextOf_tup_end (I.ok.hd hc) hit (show s.heap.IsTuple a its.toArray from p) (by simp; omega) fun h' x he' hx' => ?_)
    obtain ⟨o, ho, hc'⟩ := hx'
    refine wpAny_bind (wpAny_isInstance (T := "StopIteration") (b := true) ⟨o, ho, hc'⟩ isSubtype_stop ?_)
    exact wpAny_pure ⟨rfl, I.turned (t' := s.toks) (fun b o hb q => he' b o hb q) f0 f1 f3 f4 f5⟩
  self := fun A i s Q E st h => let ⟨⟨_, he⟩, _⟩ := st; wpAny_pyIter_enum he h
def iEnumT (K : PySem.W.Frag) (ta : TA) : TI := fun σ H R => ta σ H fun vs H1 => ∃ a xs, vs = [.ref a] ∧ SqT K H1 a xs ∧ R (IteT K a) H1
theorem pi_enumT {X : Cx} {e : Expr} {ta : TA} {p pos tpos : Pos} {elts : List Expr} {kk : Nat} (hg : Gl X "enumerate") (hm : X.mg "enumerate" = none) (ha : PA X [e] ta) (hs : starEach [e] X.env = [(false, eval e X.env)] := by rfl) :
    PI X (.Tuple elts kk tpos) (.Call (.Name "enumerate" p) [e] [] pos) (iEnumT X.K ta) := by
  refine ⟨fun pins s σ H R I h => ?_⟩
  refine Call_ (ld_blt I hg hm boot_enumerate (PyProof.Rows.callWith_type1 (thn (ha.run pos pins s σ H _ I h) fun us s1 ⟨vs, H1, I1, r1, q1⟩ => ?_) hs rfl))
  obtain ⟨a, xs, ex, hq, q⟩ := q1
  subst ex
  cases r1 with
  | cons r rr =>
    cases rr
    cases r
    obtain ⟨its, rv, p', hz⟩ := I1.tuple hq
    have pt : s1.heap.IsTuple a its.toArray := p'
    have hal : a < s1.heap.objs.size := by obtain ⟨o, ho, _⟩ := pt; exact Heap.lt_size ho
    refine call_enum_tup pt fun h' he hit hsz hk => wpAny_pyIter_enum he ?_
    have I2 : Inv X pins σ H1 { s1 with heap := h' } := I1.kept (t' := s1.toks) hk
    refine ⟨s1.heap.objs.size + 1, [s1.heap.objs.size + 1, s1.heap.objs.size], _, _, H1, rfl, I2, turn_enumT a (s1.heap.objs.size + 1) s1.heap.objs.size (Nat.ne_of_lt hal) (Nat.ne_of_gt (Nat.lt_succ_of_lt hal)), ⟨⟨.none, he⟩, hit, Nat.succ_ne_self _⟩, fun b hb => ?_, q⟩
    have e' : b = s1.heap.objs.size + 1 ∨ b = s1.heap.objs.size := by simpa using hb
    have hle : s1.heap.objs.size ≤ b := by
      rcases e' with z | z
      · rw [z]; exact Nat.le_add_right _ _
      · rw [z]; exact Nat.le_refl _
    exact I1.fpOk hle (I1.hok.fresh hle)
/-- either reading of what is walked -/
theorem pi_or {X : Cx} {tg iter : Expr} {w1 w2 : TI} (h1 : PI X tg iter w1) (h2 : PI X tg iter w2) : PI X tg iter (fun σ H R => w1 σ H R ∨ w2 σ H R) :=
  ⟨fun pins s σ H R I q => q.elim (h1.run pins s σ H R I) (h2.run pins s σ H R I)⟩
theorem pg_or {X : Cx} {tg : Expr} {g1 g2 : TG} (h1 : PG X tg g1) (h2 : PG X tg g2) : PG X tg (fun v σ H Q => g1 v σ H Q ∨ g2 v σ H Q) :=
  ⟨fun pins s σ H x v Q I r q => q.elim (h1.run pins s σ H x v Q I r) (h2.run pins s σ H x v Q I r)⟩
end OR

namespace OR
abbrev Row := Int × Int
def mem (l : List Row) (x : Int) : Prop := ∃ r ∈ l, r.1 ≤ x ∧ x ≤ r.2
theorem mem_nil (x : Int) : ¬ mem [] x := fun ⟨_, h, _⟩ => nomatch h
theorem mem_cons {r : Row} {l : List Row} {x : Int} : mem (r :: l) x ↔ (r.1 ≤ x ∧ x ≤ r.2) ∨ mem l x := by
  constructor
  · rintro ⟨q, hq, h⟩
    rcases List.mem_cons.mp hq with e | e
    · subst e
      exact .inl h
    · exact .inr ⟨q, e, h⟩
  · rintro (h | ⟨q, hq, h⟩)
    · exact ⟨r, List.mem_cons_self, h⟩
    · exact ⟨q, List.mem_cons_of_mem _ hq, h⟩
theorem mem_append {l m : List Row} {x : Int} : mem (l ++ m) x ↔ mem l x ∨ mem m x := by
  constructor
  · rintro ⟨q, hq, h⟩
    rcases List.mem_append.mp hq with e | e
    · exact .inl ⟨q, e, h⟩
    · exact .inr ⟨q, e, h⟩
  · rintro (⟨q, hq, h⟩ | ⟨q, hq, h⟩)
    · exact ⟨q, List.mem_append_left _ hq, h⟩
    · exact ⟨q, List.mem_append_right _ hq, h⟩
theorem mem_same {l m : List Row} (h : ∀ r, r ∈ l ↔ r ∈ m) (x : Int) : mem l x ↔ mem m x :=
  ⟨fun ⟨q, hq, k⟩ => ⟨q, (h q).mp hq, k⟩, fun ⟨q, hq, k⟩ => ⟨q, (h q).mpr hq, k⟩⟩
theorem mem_reverse {l : List Row} {x : Int} : mem l.reverse x ↔ mem l x := mem_same (fun _ => List.mem_reverse) x
/-- the one form: in order, with a gap between any two -/
structure Nf (l : List Row) : Prop where
  ok : ∀ r ∈ l, r.1 ≤ r.2
  gap : l.Pairwise fun r s => r.2 + 1 < s.1
theorem Nf.nil : Nf [] := ⟨fun _ h => (nomatch h), .nil⟩
theorem Nf.tail {r : Row} {l : List Row} (h : Nf (r :: l)) : Nf l := ⟨fun q hq => h.ok q (List.mem_cons_of_mem _ hq), (List.pairwise_cons.mp h.gap).2⟩
theorem Nf.head {r : Row} {l : List Row} (h : Nf (r :: l)) : r.1 ≤ r.2 := h.ok r List.mem_cons_self
theorem Nf.behind {r : Row} {l : List Row} (h : Nf (r :: l)) {x : Int} (m : mem l x) : r.2 + 1 < x := by
  obtain ⟨q, hq, h1, _⟩ := m
  have := (List.pairwise_cons.mp h.gap).1 q hq
  omega
/-- the one form is told by its places -/
theorem Nf.unique : ∀ {l m : List Row}, Nf l → Nf m → (∀ x, mem l x ↔ mem m x) → l = m
  | [], [], _, _, _ => rfl
  | [], s :: m, _, hm, h => absurd ((h s.1).mpr (mem_cons.mpr (.inl ⟨Int.le_refl _, hm.head⟩))) (mem_nil _)
  | r :: l, [], hl, _, h => absurd ((h r.1).mp (mem_cons.mpr (.inl ⟨Int.le_refl _, hl.head⟩))) (mem_nil _)
  | r :: l, s :: m, hl, hm, h => by
    have lr := hl.head
    have ls := hm.head
    have least : ∀ {x}, mem (r :: l) x → r.1 ≤ x := fun {x} hx => by
      rcases mem_cons.mp hx with k | k
      · exact k.1
      · have := hl.behind k; omega
    have least' : ∀ {x}, mem (s :: m) x → s.1 ≤ x := fun {x} hx => by
      rcases mem_cons.mp hx with k | k
      · exact k.1
      · have := hm.behind k; omega
    have e1 : r.1 = s.1 := by
      have a := least ((h s.1).mpr (mem_cons.mpr (.inl ⟨Int.le_refl _, ls⟩)))
      have b := least' ((h r.1).mp (mem_cons.mpr (.inl ⟨Int.le_refl _, lr⟩)))
      omega
    have nr : ¬ mem (r :: l) (r.2 + 1) := fun k => by
      rcases mem_cons.mp k with k | k
      · omega
      · have := hl.behind k; omega
    have ns : ¬ mem (s :: m) (s.2 + 1) := fun k => by
      rcases mem_cons.mp k with k | k
      · omega
      · have := hm.behind k; omega
    have e2 : r.2 = s.2 := by
      rcases Int.lt_trichotomy r.2 s.2 with k | k | k
      · exact absurd ((h _).mpr (mem_cons.mpr (.inl ⟨by omega, by omega⟩))) nr
      · exact k
      · exact absurd ((h _).mp (mem_cons.mpr (.inl ⟨by omega, by omega⟩))) ns
    have e : r = s := Prod.ext e1 e2
    subst e
    congr 1
    refine Nf.unique hl.tail hm.tail fun x => ⟨fun k => ?_, fun k => ?_⟩
    · have b := hl.behind k
      rcases mem_cons.mp ((h x).mp (mem_cons.mpr (.inr k))) with z | z
      · omega
      · exact z
    · have b := hm.behind k
      rcases mem_cons.mp ((h x).mpr (mem_cons.mpr (.inr k))) with z | z
      · omega
      · exact z
/-- a row more behind rows in one form, which are written backwards -/
def jstep : List Row → Row → List Row
  | [], r => [r]
  | q :: t, r => if r.1 ≤ q.2 + 1 then (q.1, if r.2 > q.2 then r.2 else q.2) :: t else r :: q :: t
def jfold (l : List Row) : List Row := l.foldl jstep []
/-- what the fold keeps: acc stands backwards -/
structure Jn (acc : List Row) (done : List Row) (b : Int) : Prop where
  nf : Nf acc.reverse
  up : ∀ q ∈ acc, q.1 ≤ b
  me : ∀ x, mem acc x ↔ mem done x
theorem nf_snoc {l : List Row} {r : Row} (h : Nf l) (hr : r.1 ≤ r.2) (hg : ∀ q ∈ l, q.2 + 1 < r.1) : Nf (l ++ [r]) := by
  refine ⟨fun q hq => ?_, List.pairwise_append.mpr ⟨h.gap, List.pairwise_singleton _ _, fun a ha b hb => ?_⟩⟩
  · rcases List.mem_append.mp hq with k | k
    · exact h.ok q k
    · rw [List.mem_singleton.mp k]; exact hr
  · rw [List.mem_singleton.mp hb]; exact hg a ha
theorem nf_unsnoc {l : List Row} {r : Row} (h : Nf (l ++ [r])) : Nf l ∧ r.1 ≤ r.2 ∧ ∀ q ∈ l, q.2 + 1 < r.1 := by
  have g := List.pairwise_append.mp h.gap
  exact ⟨⟨fun q hq => h.ok q (List.mem_append_left _ hq), g.1⟩, h.ok r (List.mem_append_right _ (List.mem_singleton.mpr rfl)), fun q hq => g.2.2 q hq r (List.mem_singleton.mpr rfl)⟩
theorem Jn.step {acc done : List Row} {b : Int} {r : Row} (h : Jn acc done b) (hb : b ≤ r.1) (hr : r.1 ≤ r.2) : Jn (jstep acc r) (done ++ [r]) r.1 := by
  have tailm : ∀ x, mem [r] x ↔ (r.1 ≤ x ∧ x ≤ r.2) := fun x => by
    rw [mem_cons]
    exact ⟨fun k => k.elim id fun z => absurd z (mem_nil _), .inl⟩
  cases acc with
  | nil =>
    refine ⟨nf_snoc Nf.nil hr (fun _ z => nomatch z), fun q hq => ?_, fun x => ?_⟩
    · rw [List.mem_singleton.mp hq]; exact Int.le_refl _
    · rw [mem_append, ← h.me x]
      exact ⟨.inr, fun k => k.elim (fun z => absurd z (mem_nil _)) id⟩
  | cons q t =>
    have n := h.nf
    rw [List.reverse_cons] at n
    obtain ⟨nt, hq, gq⟩ := nf_unsnoc n
    have hqr : q.1 ≤ r.1 := Int.le_trans (h.up q List.mem_cons_self) hb
    show Jn (if r.1 ≤ q.2 + 1 then (q.1, if r.2 > q.2 then r.2 else q.2) :: t else r :: q :: t) (done ++ [r]) r.1
    by_cases c : r.1 ≤ q.2 + 1
    · rw [if_pos c]
      refine ⟨?_, fun z hz => ?_, fun x => ?_⟩
      · rw [List.reverse_cons]
        refine nf_snoc nt ?_ fun z hz => gq z hz
        show q.1 ≤ (if r.2 > q.2 then r.2 else q.2)
        split <;> omega
      · rcases List.mem_cons.mp hz with e | e
        · subst e; exact hqr
        · exact Int.le_trans (h.up z (List.mem_cons_of_mem _ e)) hb
      · rw [mem_append, ← h.me x, mem_cons, mem_cons, tailm]
        show ((q.1 ≤ x ∧ x ≤ (if r.2 > q.2 then r.2 else q.2)) ∨ mem t x) ↔ _
        constructor
        · rintro (⟨k1, k2⟩ | k)
          · by_cases hx : x ≤ q.2
            · exact .inl (.inl ⟨k1, hx⟩)
            · split at k2
              · exact .inr ⟨by omega, k2⟩
              · omega
          · exact .inl (.inr k)
        · rintro ((⟨k1, k2⟩ | k) | ⟨k1, k2⟩)
          · refine .inl ⟨k1, ?_⟩
            split <;> omega
          · exact .inr k
          · refine .inl ⟨by omega, ?_⟩
            split <;> omega
    · rw [if_neg c]
      refine ⟨?_, fun z hz => ?_, fun x => ?_⟩
      · rw [List.reverse_cons, List.reverse_cons]
        refine nf_snoc n hr fun z hz => ?_
        rcases List.mem_append.mp hz with k | k
        · have := gq z k; omega
        · rw [List.mem_singleton.mp k]; omega
      · rcases List.mem_cons.mp hz with e | e
        · subst e; exact Int.le_refl _
        · exact Int.le_trans (h.up z e) hb
      · rw [mem_append, ← h.me x, mem_cons, tailm]
        exact ⟨fun k => k.elim .inr .inl, fun k => k.elim .inr .inl⟩
theorem Jn.nil (b : Int) : Jn [] [] b := ⟨Nf.nil, fun _ h => (nomatch h), fun _ => Iff.rfl⟩
/-- the fold over rows that ascend -/
theorem jfold_go : ∀ (l acc done : List Row) (b : Int), Jn acc done b → (∀ r ∈ l, r.1 ≤ r.2) → (∀ r ∈ l, b ≤ r.1) → l.Pairwise (fun r s => r.1 ≤ s.1) → ∃ b', Jn (l.foldl jstep acc) (done ++ l) b'
  | [], acc, done, b, h, _, _, _ => ⟨b, by rw [List.append_nil]; exact h⟩
  | r :: l, acc, done, b, h, ho, hb, hs => by
    have p := List.pairwise_cons.mp hs
    obtain ⟨b', h'⟩ := jfold_go l (jstep acc r) (done ++ [r]) r.1 (h.step (hb r List.mem_cons_self) (ho r List.mem_cons_self)) (fun q hq => ho q (List.mem_cons_of_mem _ hq)) (fun q hq => p.1 q hq) p.2
    exact ⟨b', by rw [List.append_assoc] at h'; exact h'⟩
theorem jfold_ok {l : List Row} (ho : ∀ r ∈ l, r.1 ≤ r.2) (hs : l.Pairwise (fun r s => r.1 ≤ s.1)) : Nf (jfold l).reverse ∧ ∀ x, mem (jfold l).reverse x ↔ mem l x := by
  cases l with
  | nil => exact ⟨Nf.nil, fun _ => Iff.rfl⟩
  | cons r l =>
    have p := List.pairwise_cons.mp hs
    obtain ⟨b', h⟩ := jfold_go (r :: l) [] [] r.1 (Jn.nil _) ho (fun q hq => by
      rcases List.mem_cons.mp hq with e | e
      · subst e; exact Int.le_refl _
      · exact p.1 q e) hs
    exact ⟨h.nf, fun x => by rw [mem_reverse]; exact h.me x⟩
end OR

namespace OR
open PySem PySem.Spec PyProof.Rows L2
/-! ### the code of Places -/
def lastP : Int := 10 ^ 30
def placeB (n : Int) : Bool := decide (0 ≤ n) && decide (n ≤ lastP)
def okRow (r : Row) : Bool := placeB r.1 && (placeB r.2 && decide (r.1 ≤ r.2))
structure PTxt (K : PySem.W.Frag) (mg : Str → Option Value) (C : Addr) : Prop where
  cl : Cls K C
  nS : NoAttr K C "stretches"
  nF : NoAttr K C "_firsts"
  nB : NoAttr K C "_before"
  mgC : mg "Places" = some (.ref C)
  isi : SlX.SIsi K C
  kPP : PySem.W.kitOne K (.ref C) (.ref C) = some true
  zIsi : mg "isinstance" = none
  zInt : mg "int" = none
  zBool : mg "bool" = none
  zTup : mg "tuple" = none
  zList : mg "list" = none
  zLen : mg "len" = none
  zMax : mg "max" = none
  zSort : mg "sorted" = none
  zEnum : mg "enumerate" = none
  last : ∃ t, mg "LAST_PLACE" = some (.int lastP t)
theorem bt_isi : bootBuiltins ("isinstance" : Str) = some (.builtin "isinstance") := by decide +kernel
theorem bt_int : bootBuiltins ("int" : Str) = some (.type "int") := by decide +kernel
theorem bt_bool : bootBuiltins ("bool" : Str) = some (.type "bool") := by decide +kernel
theorem bt_tup : bootBuiltins ("tuple" : Str) = some (.type "tuple") := by decide +kernel
theorem bt_list : bootBuiltins ("list" : Str) = some (.type "list") := by decide +kernel
theorem bt_max : bootBuiltins ("max" : Str) = some (.builtin "max") := by decide +kernel
theorem bt_min : bootBuiltins ("min" : Str) = some (.builtin "min") := by decide +kernel
theorem bt_sorted : bootBuiltins ("sorted" : Str) = some (.builtin "sorted") := by decide +kernel
/-- any value whose type is known -/
def spIsIntG (K : PySem.W.Frag) : Sp := fun vs H Q _ => ∃ (x : V) (T : String) (b1 b2 : Bool), vs = [x] ∧ TyX K H x (.type T) ∧ kitB T "int" = some b1 ∧ kitB T "bool" = some b2 ∧ Q (.bl (b1 && !b2)) H
def spIsPlace (K : PySem.W.Frag) : Sp := fun vs H Q _ => ∃ x, vs = [x] ∧ ((∃ n, x = .int n ∧ Q (.bl (placeB n)) H) ∨ ∃ (T : String) (b1 b2 : Bool), TyX K H x (.type T) ∧ kitB T "int" = some b1 ∧ kitB T "bool" = some b2 ∧ (b1 && !b2) = false ∧ Q (.bl false) H)
/-- a pair of integers, a tuple or a list -/
def PairAt (H : Hp) (a : Addr) (r : Row) : Prop := H a = some (.tup [.int r.1, .int r.2]) ∨ H a = some (.lst [.int r.1, .int r.2])
def spIsStretchP : Sp := fun vs H Q _ => ∃ a r, vs = [.ref a] ∧ PairAt H a r ∧ ∀ H', Same H H' → Q (.bl (okRow r)) H'
section
variable {P : Program} {w : World} {K : PySem.W.Frag} {mg : Str → Option Value} {base : Heap}
theorem scIsI : FnScope ["value"] ["value"] (defScope sIsInt) := ⟨rfl, rfl, rfl, by decide +kernel, rfl, by decide +kernel, by decide +kernel⟩
theorem ok_isintG {f C : Addr} {fd : FuncData} (F : Fun K "is_integer" "is_integer" sIsInt f fd) (T : PTxt K mg C) : FnOk P w K mg base CX0 1 f fd ["value"] (spIsIntG K) := by
  refine F.ok scIsI (fun vs H Q E h => ?_) (fun cdv A outer s H vs Q E hr h => ?_)
  · obtain ⟨x, _, _, _, rfl, _⟩ := h
    rfl
  · obtain ⟨x, ty, b1, b2, rfl, hT, h1, h2, q⟩ := h
    refine ⟨_, pss_one (ps_ret (pe_and (pe_callB call_isi (by rfl) T.zIsi bt_isi (pa_cons (pv 0) (pa_cons (pe_bltn (v := .ty "int") (by rfl) T.zInt bt_int rfl) pa_nil)))
      (pe_one (pe_not (pe_callB call_isi (by rfl) T.zIsi bt_isi (pa_cons (pv 0) (pa_cons (pe_bltn (v := .ty "bool") (by rfl) T.zBool bt_bool rfl) pa_nil))))))), ?_⟩
    refine ⟨_, rfl, x, .ty "int", _, _, b1, rfl, .ty "int", hT, kit_ty h1, b1, rfl, ?_⟩
    cases b1 with
    | true => exact iteT ⟨_, rfl, x, .ty "bool", _, _, b2, rfl, .ty "bool", hT, kit_ty h2, b2, rfl, q⟩
    | false => exact iteF q
theorem scIsP : FnScope ["value"] ["value"] (defScope sIsPlace) := ⟨rfl, rfl, rfl, by decide +kernel, rfl, by decide +kernel, by decide +kernel⟩
theorem ok_isplace {f C : Addr} {fd : FuncData} (F : Fun K "is_place" "is_place" sIsPlace f fd) (T : PTxt K mg C) (I : Cl P w K mg base 1 "is_integer" ["value"] (spIsIntG K)) : FnOk P w K mg base CX0 2 f fd ["value"] (spIsPlace K) := by
  refine F.ok scIsP (fun vs H Q E h => ?_) (fun cdv A outer s H vs Q E hr h => ?_)
  · obtain ⟨x, rfl, _⟩ := h
    rfl
  · obtain ⟨x, rfl, h⟩ := h
    obtain ⟨tl, hl⟩ := T.last
    refine ⟨_, pss_one (ps_ret (pe_and (pe_cl I hr (by decide) (by rfl) (pa_cons (pv 0) pa_nil)) (pe_one (pe_chain op_le op_le pe_int (pv 0) (pe_glob (v := .int lastP) (by rfl) hl ⟨tl, rfl⟩))))), ?_⟩
    rcases h with ⟨n, rfl, q⟩ | ⟨ty, b1, b2, hT, h1, h2, hb, q⟩
    · refine ⟨_, rfl, .int n, "int", true, false, rfl, .base (.int n), by decide +kernel, by decide +kernel, true, rfl, iteT ?_⟩
      refine ⟨_, rfl, _, _, rfl, rfl, _, rfl, ?_⟩
      unfold placeB at q
      cases e : decide ((0 : Int) ≤ n) with
      | true =>
        rw [e] at q
        exact iteT ⟨_, _, rfl, rfl, q⟩
      | false =>
        rw [e] at q
        exact iteF q
    · exact ⟨_, rfl, x, ty, b1, b2, rfl, hT, h1, h2, _, rfl, by rw [hb]; exact iteF q⟩
theorem scIsS : FnScope ["value", "first", "last"] ["value"] (defScope sIsStretch) := ⟨rfl, rfl, rfl, by decide +kernel, rfl, by decide +kernel, by decide +kernel⟩
theorem ok_isstretch {f C : Addr} {fd : FuncData} (F : Fun K "_is_stretch" "_is_stretch" sIsStretch f fd) (T : PTxt K mg C) (I : Cl P w K mg base 2 "is_place" ["value"] (spIsPlace K)) : FnOk P w K mg base CX0 3 f fd ["value"] spIsStretchP := by
  refine F.ok scIsS (fun vs H Q E h => ?_) (fun cdv A outer s H vs Q E hr h => ?_)
  · obtain ⟨a, r, rfl, _⟩ := h
    rfl
  · obtain ⟨a, r, rfl, hp, q⟩ := h
    have nd := scIsS.nd
    refine ⟨_, pss_cons (ps_if (PW.pt (pw_or (pt_not (pt_val (pe_callB call_isiT (by rfl) T.zIsi bt_isi (pa_cons (pv 0) (pa_cons (pe_tup (pa_cons (pe_bltn (v := .ty "tuple") (by rfl) T.zTup bt_tup rfl) (pa_cons (pe_bltn (v := .ty "list") (by rfl) T.zList bt_list rfl) pa_nil))) pa_nil)))))
        (pw_or1 (pt_cmpR op_ne (pe_callB call_len_seq (by rfl) T.zLen PySem.boot_len (pa_cons (pv 0) pa_nil)) pe_int (nomark _))))) (pss_one (ps_ret pe_bl)) pss_nil)
      (pss_cons (ps_asg (pv 0) (pg_or (pg_tup rfl (pgs_cons (pg_name (i := 1) nd rfl (.inl rfl)) (pgs_cons (pg_name (i := 2) nd rfl (.inl rfl)) pgs_nil))) (pg_unl rfl (pgs_cons (pg_name (i := 1) nd rfl (.inl rfl)) (pgs_cons (pg_name (i := 2) nd rfl (.inl rfl)) pgs_nil)))))
      (pss_one (ps_ret (pe_and (pe_cl I hr (by decide) (by rfl) (pa_cons (pv 1) pa_nil)) (pe_and (pe_cl I hr (by decide) (by rfl) (pa_cons (pv 2) pa_nil)) (pe_one (pe_cmpR op_le (pv 1) (pv 2) (nomark _)))))))), ?_⟩
    refine ⟨_, rfl, by show 2 ≤ sizeLine; decide, fun t ht => ?_⟩
    have S1 : Same H (upd H t (.tup [.ty "tuple", .ty "list"])) := fun b o e => by rw [upd_ne (ne_of_none e ht)]; exact e
    have hp1 : PairAt (upd H t (.tup [.ty "tuple", .ty "list"])) a r := hp.elim (fun e => .inl (S1 _ _ e)) fun e => .inr (S1 _ _ e)
    have hseq : SqL K (upd H t (.tup [.ty "tuple", .ty "list"])) a [.int r.1, .int r.2] ∨ SqT K (upd H t (.tup [.ty "tuple", .ty "list"])) a [.int r.1, .int r.2] := hp1.elim (fun e => .inr (.inl (.inl e))) fun e => .inl (.inl (.inl e))
    have hty : ∃ T, TyX K (upd H t (.tup [.ty "tuple", .ty "list"])) (.ref a) (.type T) ∧ PySem.W.kitAny K (.type T) [.type "tuple", .type "list"] = some true := by
      rcases hp1 with e | e
      · exact ⟨"tuple", .base (.tup e), kitAny_cons (kit_ty (b := "tuple") (r := true) (by decide +kernel)) (fun z => nomatch z) fun _ => rfl⟩
      · exact ⟨"list", .base (.lst e), kitAny_cons (kit_ty (b := "tuple") (r := false) (by decide +kernel)) (fun _ => kitAny_cons (kit_ty (b := "list") (r := true) (by decide +kernel)) (fun z => nomatch z) fun _ => rfl) fun z => nomatch z⟩
    obtain ⟨ty, hT, hk⟩ := hty
    refine ⟨.ref a, t, _, .type ty, [.type "tuple", .type "list"], true, rfl, upd_same, .cons (.ty "tuple") (.cons (.ty "list") .nil), hT, hk, true, rfl, iteF ?_⟩
    refine ⟨_, rfl, a, _, rfl, hseq, rfl, _, rfl, iteNS rfl ?_⟩
    have fin : ∀ (Q' : Prop), (Q (.bl (okRow r)) (upd H t (.tup [.ty "tuple", .ty "list"])) → Q') → Q' := fun Q' k => k (q _ S1)
    have tail : ∀ σ : L2.St, σ = [some (.ref a), some (.int r.1), some (.int r.2)] → (tRet (tAndV (tCall (spIsPlace K) [] E0 (tCons (tVar 1) tNil)) (tAndV (tCall (spIsPlace K) [] E0 (tCons (tVar 2) tNil)) (tOp (rI0 fun i j => .bl (decide (i ≤ j))) (tVar 1) (tVar 2))))) { nx := fun _ H' => Q .non H', rt := Q } σ (upd H t (.tup [.ty "tuple", .ty "list"])) := by
      intro σ e
      subst e
      refine ⟨_, rfl, _, rfl, .inl ⟨r.1, rfl, _, rfl, ?_⟩⟩
      have q1 := q _ S1
      unfold okRow at q1
      cases e1 : placeB r.1 with
      | false => rw [e1] at q1; exact iteF q1
      | true =>
        rw [e1] at q1
        refine iteT ⟨_, rfl, _, rfl, .inl ⟨r.2, rfl, _, rfl, ?_⟩⟩
        cases e2 : placeB r.2 with
        | false => rw [e2] at q1; exact iteF q1
        | true =>
          rw [e2] at q1
          exact iteT ⟨_, rfl, _, rfl, _, _, rfl, rfl, q1⟩
    rcases hp1 with e | e
    · exact ⟨_, rfl, .inl ⟨a, _, rfl, .inl (.inl e), rfl, _, _, rfl, _, _, rfl, rfl, tail _ rfl⟩⟩
    · exact ⟨_, rfl, .inr ⟨a, _, rfl, .inl (.inl e), rfl, _, _, rfl, _, _, rfl, rfl, tail _ rfl⟩⟩
end
end OR

namespace OR
open PySem PySem.Spec PyProof.Rows L2
/-- all but what stands at p is as it was -/
def Fre (p : Addr) (H H' : Hp) : Prop := ∀ b o, H b = some o → b ≠ p → H' b = some o
theorem Fre.refl (p : Addr) (H : Hp) : Fre p H H := fun _ _ h _ => h
theorem Fre.trans {p : Addr} {H H1 H2 : Hp} (a : Fre p H H1) (b : Fre p H1 H2) : Fre p H H2 := fun c o h n => b c o (a c o h n) n
theorem Fre.put {p : Addr} {H : Hp} {o : HO} : Fre p H (upd H p o) := fun b x e n => by rw [upd_ne n]; exact e
/-! ### rows of pairs in the heap -/
abbrev ARow := Addr × Row
def refs (L : List ARow) : List V := L.map fun p => V.ref p.1
def rws (L : List ARow) : List Row := L.map (·.2)
def AtR (H : Hp) (L : List ARow) : Prop := ∀ p ∈ L, H p.1 = some (.tup [.int p.2.1, .int p.2.2])
def PairsAt (H : Hp) (L : List ARow) : Prop := ∀ p ∈ L, PairAt H p.1 p.2
theorem AtR.same {H H' : Hp} {L : List ARow} (h : AtR H L) (s : Same H H') : AtR H' L := fun p hp => s _ _ (h p hp)
theorem PairsAt.same {H H' : Hp} {L : List ARow} (h : PairsAt H L) (s : Same H H') : PairsAt H' L := fun p hp => (h p hp).elim (fun e => .inl (s _ _ e)) fun e => .inr (s _ _ e)
theorem AtR.pairs {H : Hp} {L : List ARow} (h : AtR H L) : PairsAt H L := fun p hp => .inl (h p hp)
theorem refs_len (L : List ARow) : (refs L).length = L.length := List.length_map ..
theorem rws_len (L : List ARow) : (rws L).length = L.length := List.length_map ..
theorem refs_snoc (L : List ARow) (p : ARow) : refs (L ++ [p]) = refs L ++ [.ref p.1] := by unfold refs; rw [List.map_append]; rfl
theorem rws_snoc (L : List ARow) (p : ARow) : rws (L ++ [p]) = rws L ++ [p.2] := by unfold rws; rw [List.map_append]; rfl
theorem refs_get {L : List ARow} {i : Nat} {v : V} (h : (refs L)[i]? = some v) : ∃ p, L[i]? = some p ∧ p ∈ L ∧ v = .ref p.1 := by
  unfold refs at h
  rw [List.getElem?_map] at h
  cases e : L[i]? with
  | none => rw [e] at h; cases h
  | some p => rw [e] at h; exact ⟨p, rfl, List.mem_of_getElem? e, (Option.some.inj h).symm⟩
theorem rws_get {L : List ARow} {i : Nat} {p : ARow} (h : L[i]? = some p) : (rws L)[i]? = some p.2 := by
  unfold rws
  rw [List.getElem?_map, h]
  rfl
theorem mem_rws {L : List ARow} {r : Row} : r ∈ rws L ↔ ∃ a, (a, r) ∈ L := by
  unfold rws
  rw [List.mem_map]
  exact ⟨fun ⟨p, hp, e⟩ => ⟨p.1, by rw [← e]; exact hp⟩, fun ⟨a, h⟩ => ⟨(a, r), h, rfl⟩⟩
/-- what a reference to a pair is worth -/
def kOf (H : Hp) : V → Int × Int
  | .ref a => match H a with
    | some (.tup [.int x, .int y]) => (x, y)
    | _ => (0, 0)
  | _ => (0, 0)
theorem kOf_at {H : Hp} {a : Addr} {x y : Int} (h : H a = some (.tup [.int x, .int y])) : kOf H (.ref a) = (x, y) := by
  show (match H a with
    | some (.tup [.int x, .int y]) => (x, y)
    | _ => (0, 0)) = (x, y)
  rw [h]
def adr : V → Addr
  | .ref a => a
  | _ => 0
/-- an arrangement of references is one of rows -/
theorem refs_perm {H : Hp} {M : List ARow} {ys : List V} (hM : AtR H M) (hp : ys.Perm (refs M)) : ∃ S : List ARow, ys = refs S ∧ AtR H S ∧ (∀ r, r ∈ rws S ↔ r ∈ rws M) ∧ S.length = M.length ∧ rws S = ys.map (kOf H) := by
  have each : ∀ y ∈ ys, ∃ p ∈ M, y = .ref p.1 ∧ kOf H y = p.2 := fun y hy => by
    have := hp.mem_iff.mp hy
    unfold refs at this
    obtain ⟨p, hpM, e⟩ := List.mem_map.mp this
    subst e
    exact ⟨p, hpM, rfl, kOf_at (hM p hpM)⟩
  have back : ∀ p ∈ M, V.ref p.1 ∈ ys := fun p hpM => hp.mem_iff.mpr (List.mem_map.mpr ⟨p, hpM, rfl⟩)
  refine ⟨ys.map fun y => (adr y, kOf H y), ?_, ?_, fun r => ?_, ?_, ?_⟩
  · unfold refs
    rw [List.map_map]
    refine Eq.trans (List.map_id ys).symm (List.map_congr_left fun y hy => ?_)
    obtain ⟨p, _, rfl, _⟩ := each y hy
    rfl
  · intro q hq
    obtain ⟨y, hy, e⟩ := List.mem_map.mp hq
    obtain ⟨p, hpM, rfl, k⟩ := each y hy
    subst e
    show H p.1 = some (.tup [.int (kOf H (.ref p.1)).1, .int (kOf H (.ref p.1)).2])
    rw [k]
    exact hM p hpM
  · unfold rws
    rw [List.map_map, List.mem_map, List.mem_map]
    constructor
    · rintro ⟨y, hy, e⟩
      obtain ⟨p, hpM, rfl, k⟩ := each y hy
      exact ⟨p, hpM, by rw [← e]; exact k.symm⟩
    · rintro ⟨p, hpM, e⟩
      exact ⟨.ref p.1, back p hpM, by rw [← e]; exact kOf_at (hM p hpM)⟩
  · rw [List.length_map, hp.length_eq, refs_len]
  · unfold rws
    rw [List.map_map]
    rfl
theorem jstep_len : ∀ (acc : List Row) (r : Row), (jstep acc r).length ≤ acc.length + 1
  | [], r => Nat.le_refl _
  | q :: t, r => by
    show (if r.1 ≤ q.2 + 1 then (q.1, if r.2 > q.2 then r.2 else q.2) :: t else r :: q :: t).length ≤ _
    split
    · exact Nat.le_succ _
    · exact Nat.le_refl _
theorem jfold_len : ∀ (l acc : List Row), (l.foldl jstep acc).length ≤ acc.length + l.length
  | [], acc => Nat.le_refl _
  | r :: l, acc => by
    have h1 := jfold_len l (jstep acc r)
    have h2 := jstep_len acc r
    show (l.foldl jstep (jstep acc r)).length ≤ _
    rw [List.length_cons]
    omega
theorem ixN_last (n : Nat) : ixN (n + 1) (-1) = some n := by
  unfold ixN
  rw [if_neg (by omega), if_pos (by omega)]
  congr 1
  omega
theorem set_last (xs : List V) (v u : V) : (xs ++ [v]).set xs.length u = xs ++ [u] := by
  rw [List.set_append_right _ _ (Nat.le_refl _), Nat.sub_self]
  rfl
def rTupOf (K : PySem.W.Frag) : List V → Hp → VK → Prop := fun xs H Q => ∃ p ys, xs = [.ref p] ∧ ((SqL K H p ys ∧ ∀ l, H l = none → Q (.ref l) (upd H l (.tup ys))) ∨ (SqT K H p ys ∧ Q (.ref p) H))
theorem call_tupOf {X : Cx} (K : PySem.W.Frag) (h : X.K = K) : CallR X (.type "tuple") (rTupOf K) := by
  subst h
  exact call_tuple_of
theorem yesT {σ : L2.St} {H : Hp} {A B : Hp → Prop} (h : A H) : tYes σ H (fun b H3 => if b = true then A H3 else B H3) := by
  show if true = true then A H else B H
  rw [if_pos rfl]
  exact h
theorem same_upd {H H' : Hp} {b : Addr} {u : HO} (s : Same H H') (h : H b = none) : Same H (upd H' b u) := fun c v e => by rw [upd_ne (ne_of_none e h)]; exact s c v e
theorem same_lay {H : Hp} {q : Addr} {o : HO} (h : H q = none) : Same H (upd H q o) := fun b x e => by rw [upd_ne (ne_of_none e h)]; exact e
theorem sameT {K : PySem.W.Frag} {H H' : Hp} {a : Addr} {xs : List V} (e : Same H H') (h : SqT K H a xs) : SqT K H' a xs := by
  rcases h with (h | ⟨o, h⟩) | h
  · exact .inl (.inl (e _ _ h))
  · exact .inl (.inr ⟨o, e _ _ h⟩)
  · exact .inr h
def spJoined (K : PySem.W.Frag) : Sp := fun vs H Q _ => ∃ (a : Addr) (L : List ARow), vs = [.ref a] ∧ (SqL K H a (refs L) ∨ SqT K H a (refs L)) ∧ L.length ≤ 1000 ∧ PairsAt H L ∧ (∀ r ∈ rws L, r.1 ≤ r.2) ∧
  ∀ (t : Addr) (M : List ARow) (H' : Hp), Same H H' → H t = none → H' t = some (.tup (refs M)) → AtR H' M → Nf (rws M) → (∀ x, mem (rws M) x ↔ mem (rws L) x) → M.length ≤ L.length → Q (.ref t) H'
section
variable {P : Program} {w : World} {K : PySem.W.Frag} {mg : Str → Option Value} {base : Heap}
theorem scJ : FnScope ["stretches", "rows", "first", "last", "stretch"] ["stretches"] (defScope sJoined) := ⟨rfl, rfl, rfl, by decide +kernel, rfl, by decide +kernel, by decide +kernel⟩
theorem small_l {n : Nat} (h : n ≤ 1000) : n ≤ sizeLine := Nat.le_of_lt (small1000 h)
theorem ok_joined {f C : Addr} {fd : FuncData} (F : Fun K "_joined" "_joined" sJoined f fd) (T : PTxt K mg C) : FnOk P w K mg base CX0 1 f fd ["stretches"] (spJoined K) := by
  refine F.ok scJ (fun vs H Q E h => ?_) (fun cdv A outer s H vs Q E hr h => ?_)
  · obtain ⟨a, L, rfl, _⟩ := h
    rfl
  · obtain ⟨a, L, rfl, hS, hlen, hP, hok, q⟩ := h
    have nd := scJ.nd
    refine ⟨_, pss_cons (ps_set (i := 1) nd rfl (.inl rfl) (pe_lst pa_nil))
      (pss_cons (ps_for PassesOwn.never rfl (pi_list (pe_callB cr_sortedPO (by rfl) T.zSort bt_sorted (pa_cons
            (pe_lc (own := [("stretch", 4)]) (g := gName 4) (tt := tYes) rfl nd (pi_or (pi_list (pv 0)) (pi_tup (pv 0))) (blkOk_by (N := ["stretches", "rows", "first", "last", "stretch"]) (sc := defScope sJoined) (by decide +kernel))
              (fun _ _ _ _ _ => pg_name (i := 4) nd rfl (.inl rfl)) (fun _ _ _ _ _ => pts_nil) (fun _ _ _ _ _ => pe_callTy (call_tupOf K rfl) (by rfl) T.zTup bt_tup (pa_cons (pv 4) pa_nil))) pa_nil)))
          (pg_tup rfl (pgs_cons (pg_name (i := 2) nd rfl (.inl rfl)) (pgs_cons (pg_name (i := 3) nd rfl (.inl rfl)) pgs_nil)))
        (pss_one (ps_if (PW.pt (pw_and (pt_truth (pv 1) (by intro _; rfl)) (pw_and1 (pt_cmpR op_le (pv 2) (pe_op op_add (pe_ix ix_tup (pe_ix ix_list (pv 1) (pe_un un_neg pe_int) (fun _ _ => rfl)) pe_int (fun _ _ => rfl)) pe_int) (nomark _)))))
          (pss_one (ps_asg (pe_tup (pa_cons (pe_ix ix_tup (pe_ix ix_list (pv 1) (pe_un un_neg pe_int) (fun _ _ => rfl)) pe_int (fun _ _ => rfl))
              (pa_cons (pe_callB (call_max2 rfl) (by rfl) T.zMax bt_max (pa_cons (pe_ix ix_tup (pe_ix ix_list (pv 1) (pe_un un_neg pe_int) (fun _ _ => rfl)) pe_int (fun _ _ => rfl)) (pa_cons (pv 3) pa_nil))) pa_nil)))
            (pg_sub (pv 1) (pe_un un_neg pe_int) set_list)))
          (pss_one (ps_expr (pe_bm PySem.F.plainAttrs_list PySem.F.slot_list_append PySem.F.type_list_append mt_append (pv 1) (pa_cons (pe_tup (pa_cons (pv 2) (pa_cons (pv 3) pa_nil))) pa_nil)))))))
      (pss_one (ps_ret (pe_callTy call_tuple_of (by rfl) T.zTup bt_tup (pa_cons (pv 1) pa_nil))))), ?_⟩
    refine ⟨Nat.zero_le _, fun o no => ?_⟩
    have S1 : Same H (upd H o (.lst [])) := fun b u e => by rw [upd_ne (ne_of_none e no)]; exact e
    rcases hS with hS | hS
    · refine .inl ⟨_, rfl, a, rfl, ⟨_, S1.seq hS⟩, fun D hD => lc_list (K := K) (a := a) (xs := refs L) (fun i H2 => ∃ M : List ARow, H2 D = some (.lst (refs M)) ∧ AtR H2 M ∧ rws M = (rws L).take i ∧ Same (upd H o (.lst [])) H2)
        ⟨[], upd_same, (fun _ z => nomatch z), rfl, same_lay hD⟩ (fun i H2 _ ⟨_, _, _, _, s⟩ => s.seq (S1.seq hS)) ?_ ?_⟩
      · intro i x H2 hx hI
        obtain ⟨M, hD2, hM, eM, s2⟩ := hI
        obtain ⟨p, hp, hpL, rfl⟩ := refs_get hx
        have hil : i < L.length := (List.getElem?_eq_some_iff.mp hp).1
        have hlM : M.length = i := by
          rw [← rws_len M, eM, List.length_take, rws_len]
          omega
        have e1 : (rws L).take (i + 1) = (rws L).take i ++ [p.2] := by rw [List.take_add_one, rws_get hp]; rfl
        have nDp : ∀ q ∈ M, q.1 ≠ D := fun q hq => ne_of (hM q hq) hD2 (by intro z; cases z)
        refine ⟨rfl, yesT ?_⟩
        refine ⟨_, rfl, p.1, [.int p.2.1, .int p.2.2], rfl, ?_⟩
        rcases hP p hpL with e | e
        · have e3 := s2 _ _ (S1 _ _ e)
          refine .inr ⟨.inl (.inl e3), refs M, hD2, small1000 (by rw [refs_len, hlM]; omega), M ++ [p], ?_, ?_, ?_, same_upd s2 hD⟩
          · rw [upd_same, refs_snoc]
          · intro q hq
            rcases List.mem_append.mp hq with k | k
            · rw [upd_ne (nDp q k)]; exact hM q k
            · rw [List.mem_singleton.mp k, upd_ne (ne_of e3 hD2 (by intro z; cases z))]; exact e3
          · rw [rws_snoc, eM, e1]
        · have e3 := s2 _ _ (S1 _ _ e)
          refine .inl ⟨.inl (.inl e3), fun l hl => ?_⟩
          have nDl : D ≠ l := ne_of_none hD2 hl
          have s3 := same_lay (o := .tup [.int p.2.1, .int p.2.2]) hl
          refine ⟨refs M, s3 _ _ hD2, small1000 (by rw [refs_len, hlM]; omega), M ++ [(l, p.2)], ?_, ?_, ?_, same_upd (s2.trans s3) hD⟩
          · rw [upd_same, refs_snoc]
          · intro q hq
            rcases List.mem_append.mp hq with k | k
            · rw [upd_ne (nDp q k)]; exact s3 _ _ (hM q k)
            · rw [List.mem_singleton.mp k, upd_ne nDl.symm, upd_same]
          · rw [rws_snoc, eM, e1]
      · intro H2 hI
        obtain ⟨M, hD2, hM, eM, s2⟩ := hI
        rw [refs_len, List.take_of_length_le (by rw [rws_len]; exact Nat.le_refl _)] at eM
        have no2 : H2 o = some (.lst []) := s2 _ _ upd_same
        have lM : M.length = L.length := by rw [← rws_len M, eM, rws_len]
        -- sorted
        refine ⟨D, refs M, kOf H2, rfl, .inl (.inl hD2), fun y hy => ?_, fun ys p hs hb np => ?_⟩
        · unfold refs at hy
          obtain ⟨z, hz, rfl⟩ := List.mem_map.mp hy
          exact ⟨z.1, rfl, by rw [kOf_at (hM z hz)]; exact hM z hz⟩
        obtain ⟨S, rfl, hSA, hSm, hSl, hSk⟩ := refs_perm hM hb.perm
        have hso : (rws S).Pairwise fun r s => r.1 ≤ s.1 := by
          rw [hSk]
          refine List.pairwise_map.mpr (hs.imp fun {x y} hxy => ?_)
          have := SrtO.lexB_no.mp hxy
          omega
        have hSok : ∀ r ∈ rws S, r.1 ≤ r.2 := fun r hr => hok r (by rw [← eM]; exact (hSm r).mp hr)
        obtain ⟨hnf, hme⟩ := jfold_ok hSok hso
        have s3 := same_lay (o := .lst (refs S)) np
        have nop : o ≠ p := ne_of_none no2 np
        refine ⟨p, rfl, ⟨_, .inl (.inl upd_same)⟩, for_list (K := K) (a := p) (xs := refs S) (fun i σ H' => ∃ f l, ∃ A : List ARow, σ = [some (.ref a), some (.ref o), f, l, none] ∧ H' o = some (.lst (refs A)) ∧ AtR H' A ∧ rws A = (((rws S).take i).foldl jstep []).reverse ∧ Fre o (upd H2 p (.lst (refs S))) H' ∧ A.length ≤ i)
          ⟨none, none, [], rfl, by rw [upd_ne nop]; exact no2, (fun _ z => nomatch z), rfl, Fre.refl _ _, Nat.le_refl _⟩ (fun i σ H' _ ⟨_, _, _, _, _, _, _, fr, _⟩ => .inl (.inl (fr _ _ upd_same nop.symm))) ?_ ?_⟩
        · rintro i y σ H' hy ⟨f, l, A, rfl, hoA, hA, eA, fr, hAl⟩
          obtain ⟨z, hz, hzS, rfl⟩ := refs_get hy
          have hil : i < S.length := (List.getElem?_eq_some_iff.mp hz).1
          have ez : H' z.1 = some (.tup [.int z.2.1, .int z.2.2]) := fr _ _ (s3 _ _ (hSA z hzS)) (ne_of (hSA z hzS) no2 (by intro q; cases q))
          have e1 : ((rws S).take (i + 1)).foldl jstep [] = jstep (((rws S).take i).foldl jstep []) z.2 := by
            rw [List.take_add_one, rws_get hz, List.foldl_append]
            rfl
          have nAo : ∀ q ∈ A, q.1 ≠ o := fun q hq => ne_of (hA q hq) hoA (by intro w; cases w)
          refine ⟨z.1, _, rfl, .inl (.inl ez), rfl, _, _, rfl, _, _, rfl, rfl, ?_⟩
          refine ⟨_, rfl, !(refs A).isEmpty, .inl ⟨refs A, .inl (.inl hoA), rfl⟩, ?_⟩
          -- the row goes to the end
          have app : ∀ (hj : jstep (((rws S).take i).foldl jstep []) z.2 = z.2 :: ((rws S).take i).foldl jstep []) (T : Addr), H' T = none →
              ∃ f' l', ∃ A' : List ARow, [some (V.ref a), some (.ref o), some (.int z.2.1), some (.int z.2.2), none] = [some (.ref a), some (.ref o), f', l', none] ∧ (upd (upd H' T (.tup [.int z.2.1, .int z.2.2])) o (.lst (refs A ++ [.ref T]))) o = some (.lst (refs A')) ∧ AtR (upd (upd H' T (.tup [.int z.2.1, .int z.2.2])) o (.lst (refs A ++ [.ref T]))) A' ∧
                rws A' = (((rws S).take (i + 1)).foldl jstep []).reverse ∧ Fre o (upd H2 p (.lst (refs S))) (upd (upd H' T (.tup [.int z.2.1, .int z.2.2])) o (.lst (refs A ++ [.ref T]))) ∧ A'.length ≤ i + 1 := by
            intro hj Tn hT
            have s4 := same_lay (o := .tup [.int z.2.1, .int z.2.2]) hT
            have noT : Tn ≠ o := by
              intro e
              rw [e] at hT
              rw [hT] at hoA
              cases hoA
            refine ⟨_, _, A ++ [(Tn, z.2)], rfl, by rw [upd_same, refs_snoc], ?_, ?_, (fr.trans (fun b u e _ => s4 b u e)).trans Fre.put, by rw [List.length_append]; exact Nat.succ_le_succ hAl⟩
            · intro q hq
              rcases List.mem_append.mp hq with k | k
              · rw [upd_ne (nAo q k)]; exact s4 _ _ (hA q k)
              · rw [List.mem_singleton.mp k, upd_ne noT, upd_same]
            · rw [rws_snoc, eA, e1, hj, List.reverse_cons]
          have alen : (refs A).length < sizeLine := small1000 (by rw [refs_len]; omega)
          have two : 2 ≤ sizeLine := by decide
          cases hacc : ((rws S).take i).foldl jstep [] with
          | nil =>
            have eA0 : A = [] := by
              rw [hacc] at eA
              exact List.map_eq_nil_iff.mp eA
            refine ite2 (fun k => ?_) (fun _ => iteF ?_)
            · rw [eA0] at k
              exact absurd k (by decide)
            · refine ⟨_, rfl, .inl ⟨rfl, _, .inl (.inl hoA)⟩, _, rfl, _, rfl, two, fun Tn hT => ?_⟩
              refine ⟨o, refs A, _, rfl, rfl, same_lay hT _ _ hoA, alen, ?_⟩
              exact app (by rw [hacc]; rfl) Tn hT
          | cons q0 t0 =>
            have eA1 : rws A = t0.reverse ++ [q0] := by rw [eA, hacc, List.reverse_cons]
            obtain ⟨B, A2, rfl, eB, eA2⟩ := List.map_eq_append_iff.mp eA1
            obtain ⟨⟨aq, q1⟩, A3, rfl, eq1, eA3⟩ := List.map_eq_cons_iff.mp eA2
            obtain rfl := List.map_eq_nil_iff.mp eA3
            obtain rfl : q1 = q0 := eq1
            have haq : H' aq = some (.tup [.int q1.1, .int q1.2]) := hA (aq, q1) (List.mem_append_right _ (List.mem_singleton.mpr rfl))
            rw [refs_snoc] at hoA
            have hSo : SqL K H' o (refs B ++ [.ref aq]) := .inl (.inl hoA)
            have hSq : SqT K H' aq [.int q1.1, .int q1.2] := .inl (.inl haq)
            have g0 : atI [V.int q1.1, .int q1.2] 0 = some (.int q1.1) := atI_nat (j := 0) rfl
            have g1 : atI [V.int q1.1, .int q1.2] 1 = some (.int q1.2) := atI_nat (j := 1) rfl
            have gl : atI (refs B ++ [V.ref aq]) (-1) = some (.ref aq) := atI_last _ _
            refine ite2 (fun _ => ?_) (fun k => ?_)
            · refine ⟨_, rfl, _, rfl, 1, rfl, o, _, -1, _, rfl, rfl, hSo, gl, aq, _, 1, _, rfl, rfl, hSq, g1, _, _, rfl, rfl, _, _, rfl, rfl, _, rfl, ite2 (fun c => ?_) (fun c => ?_)⟩
              · have hc : z.2.1 ≤ q1.2 + 1 := of_decide_eq_true c
                refine ⟨_, rfl, 1, rfl, o, _, -1, _, rfl, rfl, hSo, gl, aq, _, 0, _, rfl, rfl, hSq, g0, _, rfl, 1, rfl, o, _, -1, _, rfl, rfl, hSo, gl, aq, _, 1, _, rfl, rfl, hSq, g1, _, rfl, _, _, rfl, two, fun Tn hT => ?_⟩
                have s4 := same_lay (o := .tup [.int q1.1, .int (if z.2.2 > q1.2 then z.2.2 else q1.2)]) hT
                have noT : Tn ≠ o := by
                  intro e
                  rw [e] at hT
                  rw [hT] at hoA
                  cases hoA
                have ixe : ixN (refs B ++ [V.ref aq]).length (-1) = some (refs B).length := by
                  rw [List.length_append]
                  exact ixN_last _
                refine ⟨_, rfl, 1, rfl, o, _, -1, _, rfl, rfl, s4 _ _ hoA, ixe, ?_⟩
                refine ⟨_, _, B ++ [(Tn, (q1.1, if z.2.2 > q1.2 then z.2.2 else q1.2))], rfl, by rw [upd_same, set_last, refs_snoc], ?_, ?_, (fr.trans (fun b u e _ => s4 b u e)).trans Fre.put, ?_⟩
                · intro q hq
                  rcases List.mem_append.mp hq with k | k
                  · rw [upd_ne (nAo q (List.mem_append_left _ k))]; exact s4 _ _ (hA q (List.mem_append_left _ k))
                  · rw [List.mem_singleton.mp k, upd_ne noT, upd_same]
                · rw [rws_snoc, e1, hacc]
                  show rws B ++ [(q1.1, if z.2.2 > q1.2 then z.2.2 else q1.2)] = (if z.2.1 ≤ q1.2 + 1 then (q1.1, if z.2.2 > q1.2 then z.2.2 else q1.2) :: t0 else z.2 :: q1 :: t0).reverse
                  rw [if_pos hc, List.reverse_cons]
                  exact congrArg (· ++ [(q1.1, if z.2.2 > q1.2 then z.2.2 else q1.2)]) eB
                · rw [List.length_append] at hAl ⊢
                  exact Nat.le_succ_of_le hAl
              · have hc : ¬ z.2.1 ≤ q1.2 + 1 := fun w => c (decide_eq_true w)
                refine ⟨_, rfl, .inl ⟨rfl, _, .inl (.inl hoA)⟩, _, rfl, _, rfl, two, fun Tn hT => ?_⟩
                refine ⟨o, _, _, rfl, rfl, same_lay hT _ _ hoA, by rw [← refs_snoc]; exact alen, ?_⟩
                rw [← refs_snoc]
                refine app ?_ Tn hT
                rw [hacc]
                show (if z.2.1 ≤ q1.2 + 1 then (q1.1, if z.2.2 > q1.2 then z.2.2 else q1.2) :: t0 else z.2 :: q1 :: t0) = z.2 :: q1 :: t0
                rw [if_neg hc]
            · exfalso
              apply k
              rw [refs_snoc]
              simp
        · rintro σ H' ⟨f, l, A, rfl, hoA, hA, eA, fr, hAl⟩
          rw [refs_len, List.take_of_length_le (by rw [rws_len]; exact Nat.le_refl _)] at eA
          have eN : rws A = (jfold (rws S)).reverse := eA
          refine ⟨_, rfl, o, refs A, rfl, .inl ⟨.inl (.inl hoA), fun t ht => ?_⟩⟩
          have s5 := same_lay (o := .tup (refs A)) ht
          have s6 : Same H H' := fun b u e => fr b u (s3 b u (s2 b u (S1 b u e))) (ne_of_none e no)
          refine q t A _ (s6.trans s5) (s6.free ht) upd_same (hA.same s5) (by rw [eN]; exact hnf) (fun x => ?_) ?_
          · rw [eN, hme x, ← eM]
            exact mem_same hSm x
          · rw [refs_len] at hAl
            omega
    · refine .inr ⟨_, rfl, a, rfl, ⟨_, sameT S1 hS⟩, fun D hD => lc_tup (K := K) (a := a) (xs := refs L) (fun i H2 => ∃ M : List ARow, H2 D = some (.lst (refs M)) ∧ AtR H2 M ∧ rws M = (rws L).take i ∧ Same (upd H o (.lst [])) H2)
        ⟨[], upd_same, (fun _ z => nomatch z), rfl, same_lay hD⟩ (fun i H2 _ ⟨_, _, _, _, s⟩ => sameT s (sameT S1 hS)) ?_ ?_⟩
      · intro i x H2 hx hI
        obtain ⟨M, hD2, hM, eM, s2⟩ := hI
        obtain ⟨p, hp, hpL, rfl⟩ := refs_get hx
        have hil : i < L.length := (List.getElem?_eq_some_iff.mp hp).1
        have hlM : M.length = i := by
          rw [← rws_len M, eM, List.length_take, rws_len]
          omega
        have e1 : (rws L).take (i + 1) = (rws L).take i ++ [p.2] := by rw [List.take_add_one, rws_get hp]; rfl
        have nDp : ∀ q ∈ M, q.1 ≠ D := fun q hq => ne_of (hM q hq) hD2 (by intro z; cases z)
        refine ⟨rfl, yesT ?_⟩
        refine ⟨_, rfl, p.1, [.int p.2.1, .int p.2.2], rfl, ?_⟩
        rcases hP p hpL with e | e
        · have e3 := s2 _ _ (S1 _ _ e)
          refine .inr ⟨.inl (.inl e3), refs M, hD2, small1000 (by rw [refs_len, hlM]; omega), M ++ [p], ?_, ?_, ?_, same_upd s2 hD⟩
          · rw [upd_same, refs_snoc]
          · intro q hq
            rcases List.mem_append.mp hq with k | k
            · rw [upd_ne (nDp q k)]; exact hM q k
            · rw [List.mem_singleton.mp k, upd_ne (ne_of e3 hD2 (by intro z; cases z))]; exact e3
          · rw [rws_snoc, eM, e1]
        · have e3 := s2 _ _ (S1 _ _ e)
          refine .inl ⟨.inl (.inl e3), fun l hl => ?_⟩
          have nDl : D ≠ l := ne_of_none hD2 hl
          have s3 := same_lay (o := .tup [.int p.2.1, .int p.2.2]) hl
          refine ⟨refs M, s3 _ _ hD2, small1000 (by rw [refs_len, hlM]; omega), M ++ [(l, p.2)], ?_, ?_, ?_, same_upd (s2.trans s3) hD⟩
          · rw [upd_same, refs_snoc]
          · intro q hq
            rcases List.mem_append.mp hq with k | k
            · rw [upd_ne (nDp q k)]; exact s3 _ _ (hM q k)
            · rw [List.mem_singleton.mp k, upd_ne nDl.symm, upd_same]
          · rw [rws_snoc, eM, e1]
      · intro H2 hI
        obtain ⟨M, hD2, hM, eM, s2⟩ := hI
        rw [refs_len, List.take_of_length_le (by rw [rws_len]; exact Nat.le_refl _)] at eM
        have no2 : H2 o = some (.lst []) := s2 _ _ upd_same
        have lM : M.length = L.length := by rw [← rws_len M, eM, rws_len]
        -- sorted
        refine ⟨D, refs M, kOf H2, rfl, .inl (.inl hD2), fun y hy => ?_, fun ys p hs hb np => ?_⟩
        · unfold refs at hy
          obtain ⟨z, hz, rfl⟩ := List.mem_map.mp hy
          exact ⟨z.1, rfl, by rw [kOf_at (hM z hz)]; exact hM z hz⟩
        obtain ⟨S, rfl, hSA, hSm, hSl, hSk⟩ := refs_perm hM hb.perm
        have hso : (rws S).Pairwise fun r s => r.1 ≤ s.1 := by
          rw [hSk]
          refine List.pairwise_map.mpr (hs.imp fun {x y} hxy => ?_)
          have := SrtO.lexB_no.mp hxy
          omega
        have hSok : ∀ r ∈ rws S, r.1 ≤ r.2 := fun r hr => hok r (by rw [← eM]; exact (hSm r).mp hr)
        obtain ⟨hnf, hme⟩ := jfold_ok hSok hso
        have s3 := same_lay (o := .lst (refs S)) np
        have nop : o ≠ p := ne_of_none no2 np
        refine ⟨p, rfl, ⟨_, .inl (.inl upd_same)⟩, for_list (K := K) (a := p) (xs := refs S) (fun i σ H' => ∃ f l, ∃ A : List ARow, σ = [some (.ref a), some (.ref o), f, l, none] ∧ H' o = some (.lst (refs A)) ∧ AtR H' A ∧ rws A = (((rws S).take i).foldl jstep []).reverse ∧ Fre o (upd H2 p (.lst (refs S))) H' ∧ A.length ≤ i)
          ⟨none, none, [], rfl, by rw [upd_ne nop]; exact no2, (fun _ z => nomatch z), rfl, Fre.refl _ _, Nat.le_refl _⟩ (fun i σ H' _ ⟨_, _, _, _, _, _, _, fr, _⟩ => .inl (.inl (fr _ _ upd_same nop.symm))) ?_ ?_⟩
        · rintro i y σ H' hy ⟨f, l, A, rfl, hoA, hA, eA, fr, hAl⟩
          obtain ⟨z, hz, hzS, rfl⟩ := refs_get hy
          have hil : i < S.length := (List.getElem?_eq_some_iff.mp hz).1
          have ez : H' z.1 = some (.tup [.int z.2.1, .int z.2.2]) := fr _ _ (s3 _ _ (hSA z hzS)) (ne_of (hSA z hzS) no2 (by intro q; cases q))
          have e1 : ((rws S).take (i + 1)).foldl jstep [] = jstep (((rws S).take i).foldl jstep []) z.2 := by
            rw [List.take_add_one, rws_get hz, List.foldl_append]
            rfl
          have nAo : ∀ q ∈ A, q.1 ≠ o := fun q hq => ne_of (hA q hq) hoA (by intro w; cases w)
          refine ⟨z.1, _, rfl, .inl (.inl ez), rfl, _, _, rfl, _, _, rfl, rfl, ?_⟩
          refine ⟨_, rfl, !(refs A).isEmpty, .inl ⟨refs A, .inl (.inl hoA), rfl⟩, ?_⟩
          -- the row goes to the end
          have app : ∀ (hj : jstep (((rws S).take i).foldl jstep []) z.2 = z.2 :: ((rws S).take i).foldl jstep []) (T : Addr), H' T = none →
              ∃ f' l', ∃ A' : List ARow, [some (V.ref a), some (.ref o), some (.int z.2.1), some (.int z.2.2), none] = [some (.ref a), some (.ref o), f', l', none] ∧ (upd (upd H' T (.tup [.int z.2.1, .int z.2.2])) o (.lst (refs A ++ [.ref T]))) o = some (.lst (refs A')) ∧ AtR (upd (upd H' T (.tup [.int z.2.1, .int z.2.2])) o (.lst (refs A ++ [.ref T]))) A' ∧
                rws A' = (((rws S).take (i + 1)).foldl jstep []).reverse ∧ Fre o (upd H2 p (.lst (refs S))) (upd (upd H' T (.tup [.int z.2.1, .int z.2.2])) o (.lst (refs A ++ [.ref T]))) ∧ A'.length ≤ i + 1 := by
            intro hj Tn hT
            have s4 := same_lay (o := .tup [.int z.2.1, .int z.2.2]) hT
            have noT : Tn ≠ o := by
              intro e
              rw [e] at hT
              rw [hT] at hoA
              cases hoA
            refine ⟨_, _, A ++ [(Tn, z.2)], rfl, by rw [upd_same, refs_snoc], ?_, ?_, (fr.trans (fun b u e _ => s4 b u e)).trans Fre.put, by rw [List.length_append]; exact Nat.succ_le_succ hAl⟩
            · intro q hq
              rcases List.mem_append.mp hq with k | k
              · rw [upd_ne (nAo q k)]; exact s4 _ _ (hA q k)
              · rw [List.mem_singleton.mp k, upd_ne noT, upd_same]
            · rw [rws_snoc, eA, e1, hj, List.reverse_cons]
          have alen : (refs A).length < sizeLine := small1000 (by rw [refs_len]; omega)
          have two : 2 ≤ sizeLine := by decide
          cases hacc : ((rws S).take i).foldl jstep [] with
          | nil =>
            have eA0 : A = [] := by
              rw [hacc] at eA
              exact List.map_eq_nil_iff.mp eA
            refine ite2 (fun k => ?_) (fun _ => iteF ?_)
            · rw [eA0] at k
              exact absurd k (by decide)
            · refine ⟨_, rfl, .inl ⟨rfl, _, .inl (.inl hoA)⟩, _, rfl, _, rfl, two, fun Tn hT => ?_⟩
              refine ⟨o, refs A, _, rfl, rfl, same_lay hT _ _ hoA, alen, ?_⟩
              exact app (by rw [hacc]; rfl) Tn hT
          | cons q0 t0 =>
            have eA1 : rws A = t0.reverse ++ [q0] := by rw [eA, hacc, List.reverse_cons]
            obtain ⟨B, A2, rfl, eB, eA2⟩ := List.map_eq_append_iff.mp eA1
            obtain ⟨⟨aq, q1⟩, A3, rfl, eq1, eA3⟩ := List.map_eq_cons_iff.mp eA2
            obtain rfl := List.map_eq_nil_iff.mp eA3
            obtain rfl : q1 = q0 := eq1
            have haq : H' aq = some (.tup [.int q1.1, .int q1.2]) := hA (aq, q1) (List.mem_append_right _ (List.mem_singleton.mpr rfl))
            rw [refs_snoc] at hoA
            have hSo : SqL K H' o (refs B ++ [.ref aq]) := .inl (.inl hoA)
            have hSq : SqT K H' aq [.int q1.1, .int q1.2] := .inl (.inl haq)
            have g0 : atI [V.int q1.1, .int q1.2] 0 = some (.int q1.1) := atI_nat (j := 0) rfl
            have g1 : atI [V.int q1.1, .int q1.2] 1 = some (.int q1.2) := atI_nat (j := 1) rfl
            have gl : atI (refs B ++ [V.ref aq]) (-1) = some (.ref aq) := atI_last _ _
            refine ite2 (fun _ => ?_) (fun k => ?_)
            · refine ⟨_, rfl, _, rfl, 1, rfl, o, _, -1, _, rfl, rfl, hSo, gl, aq, _, 1, _, rfl, rfl, hSq, g1, _, _, rfl, rfl, _, _, rfl, rfl, _, rfl, ite2 (fun c => ?_) (fun c => ?_)⟩
              · have hc : z.2.1 ≤ q1.2 + 1 := of_decide_eq_true c
                refine ⟨_, rfl, 1, rfl, o, _, -1, _, rfl, rfl, hSo, gl, aq, _, 0, _, rfl, rfl, hSq, g0, _, rfl, 1, rfl, o, _, -1, _, rfl, rfl, hSo, gl, aq, _, 1, _, rfl, rfl, hSq, g1, _, rfl, _, _, rfl, two, fun Tn hT => ?_⟩
                have s4 := same_lay (o := .tup [.int q1.1, .int (if z.2.2 > q1.2 then z.2.2 else q1.2)]) hT
                have noT : Tn ≠ o := by
                  intro e
                  rw [e] at hT
                  rw [hT] at hoA
                  cases hoA
                have ixe : ixN (refs B ++ [V.ref aq]).length (-1) = some (refs B).length := by
                  rw [List.length_append]
                  exact ixN_last _
                refine ⟨_, rfl, 1, rfl, o, _, -1, _, rfl, rfl, s4 _ _ hoA, ixe, ?_⟩
                refine ⟨_, _, B ++ [(Tn, (q1.1, if z.2.2 > q1.2 then z.2.2 else q1.2))], rfl, by rw [upd_same, set_last, refs_snoc], ?_, ?_, (fr.trans (fun b u e _ => s4 b u e)).trans Fre.put, ?_⟩
                · intro q hq
                  rcases List.mem_append.mp hq with k | k
                  · rw [upd_ne (nAo q (List.mem_append_left _ k))]; exact s4 _ _ (hA q (List.mem_append_left _ k))
                  · rw [List.mem_singleton.mp k, upd_ne noT, upd_same]
                · rw [rws_snoc, e1, hacc]
                  show rws B ++ [(q1.1, if z.2.2 > q1.2 then z.2.2 else q1.2)] = (if z.2.1 ≤ q1.2 + 1 then (q1.1, if z.2.2 > q1.2 then z.2.2 else q1.2) :: t0 else z.2 :: q1 :: t0).reverse
                  rw [if_pos hc, List.reverse_cons]
                  exact congrArg (· ++ [(q1.1, if z.2.2 > q1.2 then z.2.2 else q1.2)]) eB
                · rw [List.length_append] at hAl ⊢
                  exact Nat.le_succ_of_le hAl
              · have hc : ¬ z.2.1 ≤ q1.2 + 1 := fun w => c (decide_eq_true w)
                refine ⟨_, rfl, .inl ⟨rfl, _, .inl (.inl hoA)⟩, _, rfl, _, rfl, two, fun Tn hT => ?_⟩
                refine ⟨o, _, _, rfl, rfl, same_lay hT _ _ hoA, by rw [← refs_snoc]; exact alen, ?_⟩
                rw [← refs_snoc]
                refine app ?_ Tn hT
                rw [hacc]
                show (if z.2.1 ≤ q1.2 + 1 then (q1.1, if z.2.2 > q1.2 then z.2.2 else q1.2) :: t0 else z.2 :: q1 :: t0) = z.2 :: q1 :: t0
                rw [if_neg hc]
            · exfalso
              apply k
              rw [refs_snoc]
              simp
        · rintro σ H' ⟨f, l, A, rfl, hoA, hA, eA, fr, hAl⟩
          rw [refs_len, List.take_of_length_le (by rw [rws_len]; exact Nat.le_refl _)] at eA
          have eN : rws A = (jfold (rws S)).reverse := eA
          refine ⟨_, rfl, o, refs A, rfl, .inl ⟨.inl (.inl hoA), fun t ht => ?_⟩⟩
          have s5 := same_lay (o := .tup (refs A)) ht
          have s6 : Same H H' := fun b u e => fr b u (s3 b u (s2 b u (S1 b u e))) (ne_of_none e no)
          refine q t A _ (s6.trans s5) (s6.free ht) upd_same (hA.same s5) (by rw [eN]; exact hnf) (fun x => ?_) ?_
          · rw [eN, hme x, ← eM]
            exact mem_same hSm x
          · rw [refs_len] at hAl
            omega
end
end OR

namespace OR
open PySem PySem.Spec PyProof.Rows L2
/-! ### counts before, and __init__ -/
def tot (l : List Row) : Int := l.foldl (fun t r => t + r.2 - r.1 + 1) 0
def befs (l : List Row) : List Int := (List.range l.length).map fun j => tot (l.take j)
theorem tot_snoc (l : List Row) (r : Row) : tot (l ++ [r]) = tot l + r.2 - r.1 + 1 := by
  unfold tot
  rw [List.foldl_append]
  rfl
def spCounts (K : PySem.W.Frag) : Sp := fun vs H Q _ => ∃ (t : Addr) (M : List ARow), vs = [.ref t] ∧ H t = some (.tup (refs M)) ∧ AtR H M ∧ M.length ≤ 1000 ∧
  ∀ (b : Addr) (H' : Hp), Same H H' → H b = none → H' b = some (.tup ((befs (rws M)).map V.int)) → Q (.ref b) H'
/-- an instance of Places with these rows -/
theorem kFS : ¬ (("_firsts" : Str) = "stretches") := by decide +kernel
theorem kBS : ¬ (("_before" : Str) = "stretches") := by decide +kernel
theorem kBF : ¬ (("_before" : Str) = "_firsts") := by decide +kernel
def pFl (t f b : Addr) : List (Str × V) := putF "_before" (.ref b) (putF "_firsts" (.ref f) (putF "stretches" (.ref t) []))
theorem pFl_s (t f b : Addr) : (pFl t f b).lookup ("stretches" : Str) = some (.ref t) := by
  unfold pFl
  rw [lookup_putF, if_neg (fun e => kBS e.symm), lookup_putF, if_neg (fun e => kFS e.symm), lookup_putF, if_pos rfl]
theorem pFl_f (t f b : Addr) : (pFl t f b).lookup ("_firsts" : Str) = some (.ref f) := by
  unfold pFl
  rw [lookup_putF, if_neg (fun e => kBF e.symm), lookup_putF, if_pos rfl]
theorem pFl_b (t f b : Addr) : (pFl t f b).lookup ("_before" : Str) = some (.ref b) := by
  unfold pFl
  rw [lookup_putF, if_pos rfl]
theorem pFl_no (t f b : Addr) {m : Str} (h1 : ¬ m = "_before") (h2 : ¬ m = "_firsts") (h3 : ¬ m = "stretches") : (pFl t f b).lookup m = none := by
  unfold pFl
  rw [lookup_putF, if_neg h1, lookup_putF, if_neg h2, lookup_putF, if_neg h3]
  rfl
structure IsP (C : Addr) (H : Hp) (x : Addr) (l : List Row) : Prop where
  nf : Nf l
  ex : ∃ (dx t f b : Addr) (M : List ARow), H x = some (.ins C dx (pFl t f b)) ∧ H t = some (.tup (refs M)) ∧ AtR H M ∧ rws M = l ∧ H f = some (.tup (l.map fun r => V.int r.1)) ∧ H b = some (.tup ((befs l).map V.int)) ∧ M.length ≤ 1000
theorem IsP.same {C : Addr} {H H' : Hp} {x : Addr} {l : List Row} (h : IsP C H x l) (s : Same H H') : IsP C H' x l := by
  obtain ⟨nf, dx, t, f, b, M, h1, h2, h3, h4, h5, h6, h7⟩ := h
  exact ⟨nf, dx, t, f, b, M, s _ _ h1, s _ _ h2, h3.same s, h4, s _ _ h5, s _ _ h6, h7⟩
/-- enumerate, turn by turn -/
theorem for_enum {K : PySem.W.Frag} {a : Addr} {xs : List V} {g : TG} {tb : TS} {D : Ends} {σ : L2.St} {H : Hp} (Pv : Nat → L2.St → Hp → Prop) (h0 : Pv 0 σ H) (hl : ∀ i σ H, i ≤ xs.length → Pv i σ H → SqL K H a xs)
    (hs : ∀ i x σ H T, xs[i]? = some x → Pv i σ H → H T = none → g (.ref T) σ (upd H T (.tup [.int (i : Nat), x])) fun σ2 H2 => tb { D with nx := Pv (i + 1), ct := Pv (i + 1), bk := D.nx } σ2 H2) (hd : ∀ σ H, Pv xs.length σ H → D.nx σ H) :
    ∃ W : Nat → Nat → L2.St → Hp → Prop, (∃ m, W 0 m σ H) ∧ ∀ i m σ H, W i m σ H →
      ((Ite K a).stop i H ∧ D.nx σ H) ∨ ((Ite K a).go i H ∧ ∃ N : L2.St → Hp → Prop, (∀ σ' H', N σ' H' → ∃ m', m' < m ∧ W (i + 1) m' σ' H') ∧ ∀ x H', (Ite K a).yld i H x H' → g x σ H' fun σ2 H2 => tb { D with nx := N, ct := N, bk := D.nx } σ2 H2) := by
  refine ⟨fun i m σ H => m = xs.length - i ∧ i ≤ xs.length ∧ Pv i σ H, ⟨xs.length, by simp, Nat.zero_le _, h0⟩, ?_⟩
  rintro i m σ H ⟨rfl, hi, p⟩
  have q := hl i σ H hi p
  by_cases hlt : i < xs.length
  · refine .inr ⟨⟨xs, xs[i], q, by simp [hlt]⟩, Pv (i + 1), fun σ' H' p' => ⟨xs.length - (i + 1), by omega, rfl, hlt, p'⟩, fun v H' y => ?_⟩
    obtain ⟨T, x, rfl, hT, rfl, hx⟩ := y
    exact hs i x σ H T (hx xs q) p hT
  · obtain rfl : i = xs.length := by omega
    exact .inl ⟨⟨xs, q, Nat.le_refl _⟩, hd σ H p⟩
theorem for_enumT {K : PySem.W.Frag} {a : Addr} {xs : List V} {g : TG} {tb : TS} {D : Ends} {σ : L2.St} {H : Hp} (Pv : Nat → L2.St → Hp → Prop) (h0 : Pv 0 σ H) (hl : ∀ i σ H, i ≤ xs.length → Pv i σ H → SqT K H a xs)
    (hs : ∀ i x σ H T, xs[i]? = some x → Pv i σ H → H T = none → g (.ref T) σ (upd H T (.tup [.int (i : Nat), x])) fun σ2 H2 => tb { D with nx := Pv (i + 1), ct := Pv (i + 1), bk := D.nx } σ2 H2) (hd : ∀ σ H, Pv xs.length σ H → D.nx σ H) :
    ∃ W : Nat → Nat → L2.St → Hp → Prop, (∃ m, W 0 m σ H) ∧ ∀ i m σ H, W i m σ H →
      ((IteT K a).stop i H ∧ D.nx σ H) ∨ ((IteT K a).go i H ∧ ∃ N : L2.St → Hp → Prop, (∀ σ' H', N σ' H' → ∃ m', m' < m ∧ W (i + 1) m' σ' H') ∧ ∀ x H', (IteT K a).yld i H x H' → g x σ H' fun σ2 H2 => tb { D with nx := N, ct := N, bk := D.nx } σ2 H2) := by
  refine ⟨fun i m σ H => m = xs.length - i ∧ i ≤ xs.length ∧ Pv i σ H, ⟨xs.length, by simp, Nat.zero_le _, h0⟩, ?_⟩
  rintro i m σ H ⟨rfl, hi, p⟩
  have q := hl i σ H hi p
  by_cases hlt : i < xs.length
  · refine .inr ⟨⟨xs, xs[i], q, by simp [hlt]⟩, Pv (i + 1), fun σ' H' p' => ⟨xs.length - (i + 1), by omega, rfl, hlt, p'⟩, fun v H' y => ?_⟩
    obtain ⟨T, x, rfl, hT, rfl, hx⟩ := y
    exact hs i x σ H T (hx xs q) p hT
  · obtain rfl : i = xs.length := by omega
    exact .inl ⟨⟨xs, q, Nat.le_refl _⟩, hd σ H p⟩
def spPlInit (K : PySem.W.Frag) (C : Addr) : Sp := fun vs H Q _ => ∃ (x dx a : Addr) (L : List ARow), vs = [.ref x, .ref a] ∧ H x = some (.ins C dx []) ∧ (SqL K H a (refs L) ∨ SqT K H a (refs L)) ∧ L.length ≤ 1000 ∧ PairsAt H L ∧ (∀ r ∈ rws L, okRow r = true) ∧
  ∀ (l : List Row) (H' : Hp), (∀ c o, H c = some o → c ≠ x → H' c = some o) → IsP C H' x l → (∀ z, mem l z ↔ mem (rws L) z) → l.length ≤ L.length → Q .non H'
theorem okRow_le {r : Row} (h : okRow r = true) : r.1 ≤ r.2 := by
  unfold okRow at h
  simp only [Bool.and_eq_true, decide_eq_true_eq] at h
  exact h.2.2
section
variable {P : Program} {w : World} {K : PySem.W.Frag} {mg : Str → Option Value} {base : Heap}
theorem scC : FnScope ["stretches", "counts", "total", "first", "last"] ["stretches"] (defScope sCounts) := ⟨rfl, rfl, rfl, by decide +kernel, rfl, by decide +kernel, by decide +kernel⟩
theorem ok_counts {f C : Addr} {fd : FuncData} (F : Fun K "_counts_before" "_counts_before" sCounts f fd) (T : PTxt K mg C) : FnOk P w K mg base CX0 1 f fd ["stretches"] (spCounts K) := by
  refine F.ok scC (fun vs H Q E h => ?_) (fun cdv A outer s H vs Q E hr h => ?_)
  · obtain ⟨t, M, rfl, _⟩ := h
    rfl
  · obtain ⟨t, M, rfl, ht, hM, hlen, q⟩ := h
    have nd := scC.nd
    refine ⟨_, pss_cons (ps_set (i := 1) nd rfl (.inl rfl) (pe_lst pa_nil))
      (pss_cons (ps_set (i := 2) nd rfl (.inl rfl) pe_int)
      (pss_cons (ps_for PassesOwn.never rfl (pi_tup (pv 0)) (pg_tup rfl (pgs_cons (pg_name (i := 3) nd rfl (.inl rfl)) (pgs_cons (pg_name (i := 4) nd rfl (.inl rfl)) pgs_nil)))
        (pss_cons (ps_expr (pe_bm PySem.F.plainAttrs_list PySem.F.slot_list_append PySem.F.type_list_append mt_append (pv 1) (pa_cons (pv 2) pa_nil)))
        (pss_one (ps_set (i := 2) nd rfl (.inl rfl) (pe_op op_add (pe_op op_sub (pe_op op_add (pv 2) (pv 4)) (pv 3)) pe_int)))))
      (pss_one (ps_ret (pe_callTy call_tuple_of (by rfl) T.zTup bt_tup (pa_cons (pv 1) pa_nil)))))), ?_⟩
    refine ⟨Nat.zero_le _, fun o no => ?_⟩
    have s1 := same_lay (o := .lst []) no
    refine ⟨_, rfl, t, rfl, ⟨_, .inl (.inl (s1 _ _ ht))⟩, for_tup (K := K) (a := t) (xs := refs M) (fun i σ H' => ∃ f l, σ = [some (.ref t), some (.ref o), some (.int (tot ((rws M).take i))), f, l] ∧ H' o = some (.lst (((List.range i).map fun j => tot ((rws M).take j)).map V.int)) ∧ Fre o (upd H o (.lst [])) H')
      ⟨none, none, rfl, upd_same, Fre.refl _ _⟩ (fun i σ H' _ ⟨_, _, _, _, fr⟩ => .inl (.inl (fr _ _ (s1 _ _ ht) (ne_of_none ht no)))) ?_ ?_⟩
    · rintro i y σ H' hy ⟨f, l, rfl, ho, fr⟩
      obtain ⟨z, hz, hzM, rfl⟩ := refs_get hy
      have hil : i < M.length := (List.getElem?_eq_some_iff.mp hz).1
      have ez : H' z.1 = some (.tup [.int z.2.1, .int z.2.2]) := fr _ _ (s1 _ _ (hM z hzM)) (ne_of_none (hM z hzM) no)
      refine ⟨z.1, _, rfl, .inl (.inl ez), rfl, _, _, rfl, _, _, rfl, rfl, ?_⟩
      refine ⟨_, rfl, .inl ⟨rfl, _, .inl (.inl ho)⟩, _, rfl, o, _, _, rfl, rfl, ho, small1000 (by rw [List.length_map, List.length_map, List.length_range]; omega), ?_⟩
      refine ⟨_, rfl, _, rfl, _, _, rfl, rfl, _, rfl, _, _, rfl, rfl, _, _, rfl, rfl, ?_⟩
      have e1 : (rws M).take (i + 1) = (rws M).take i ++ [z.2] := by rw [List.take_add_one, rws_get hz]; rfl
      refine ⟨some (.int z.2.1), some (.int z.2.2), ?_, ?_, fr.trans Fre.put⟩
      · rw [e1, tot_snoc]
        rfl
      · rw [upd_same, List.range_succ, List.map_append, List.map_append]
        rfl
    · rintro σ H' ⟨f, l, rfl, ho, fr⟩
      refine ⟨_, rfl, o, _, rfl, .inl ⟨.inl (.inl ho), fun b hb => ?_⟩⟩
      have s2 := same_lay (o := .tup (((List.range (refs M).length).map fun j => tot ((rws M).take j)).map V.int)) hb
      have s3 : Same H H' := fun c u e => fr c u (s1 c u e) (ne_of_none e no)
      refine q b _ (s3.trans s2) (s3.free hb) ?_
      rw [upd_same]
      unfold befs
      rw [rws_len, refs_len]
theorem scPI : FnScope ["self", "stretches", "index", "stretch", "first", "_"] ["self", "stretches"] (defScope sPlInit) := ⟨rfl, rfl, rfl, by decide +kernel, rfl, by decide +kernel, by decide +kernel⟩
theorem ok_plinit {f C : Addr} {fd : FuncData} {dvs : List V} (F : FunD K "__init__" "Places.__init__" (defArgs sPlInit) (defBody sPlInit) (defScope sPlInit) dvs [] f fd) (T : PTxt K mg C) (S : Cl P w K mg base 3 "_is_stretch" ["value"] spIsStretchP)
    (J : Cl P w K mg base 1 "_joined" ["stretches"] (spJoined K)) (B : Cl P w K mg base 1 "_counts_before" ["stretches"] (spCounts K)) : FnOk P w K mg base CX0 4 f fd ["self", "stretches"] (spPlInit K C) := by
  refine F.ok scPI (fun vs H Q E h => ?_) (fun cdv A outer s H vs Q E hr h => ?_)
  · obtain ⟨x, dx, a, L, rfl, _⟩ := h
    rfl
  · obtain ⟨x, dx, a, L, rfl, hx, hS, hlen, hP, hok, q⟩ := h
    have nd := scPI.nd
    have hb := PSs.nox (X := cxOf CX0 P w K mg base ["self", "stretches", "index", "stretch", "first", "_"] "Places.__init__" (defScope sPlInit) f cdv A outer s H E) (st := defBody sPlInit) (pss_cons (ps_for PassesOwn.never rfl (pi_or (pi_enum (by rfl) T.zEnum (pa_cons (pv 1) pa_nil)) (pi_enumT (by rfl) T.zEnum (pa_cons (pv 1) pa_nil)))
          (pg_tup rfl (pgs_cons (pg_name (i := 2) nd rfl (.inl rfl)) (pgs_cons (pg_name (i := 3) nd rfl (.inl rfl)) pgs_nil)))
        (pss_one (ps_if (pt_not (pt_val (pe_cl S hr (by decide) (by rfl) (pa_cons (pv 3) pa_nil)))) (pss_one ps_never) pss_nil)))
      (pss_cons (ps_fld (pv 0) (pe_cl J hr (by decide) (by rfl) (pa_cons (pv 1) pa_nil)) rfl)
      (pss_cons (ps_fld (pv 0) (pe_callTy call_tuple_of (by rfl) T.zTup bt_tup (pa_cons
          (pe_lc (own := [("first", 4), ("_", 5)]) (g := gTup K 2 (gCons (gName 4) (gCons (gName 5) gNil))) (tt := tYes) rfl nd (pi_tup (pe_fld (pv 0) rfl)) (blkOk_by (N := ["self", "stretches", "index", "stretch", "first", "_"]) (sc := defScope sPlInit) (by decide +kernel))
            (fun _ _ _ _ _ => pg_tup rfl (pgs_cons (pg_name (i := 4) nd rfl (.inl rfl)) (pgs_cons (pg_name (i := 5) nd rfl (.inl rfl)) pgs_nil))) (fun _ _ _ _ _ => pts_nil) (fun _ _ _ _ _ => pv 4)) pa_nil)) rfl)
      (pss_one (ps_fld (pv 0) (pe_cl B hr (by decide) (by rfl) (pa_cons (pe_fld (pv 0) rfl) pa_nil)) rfl)))))
    refine ⟨_, hb, ?_⟩
    clear hb
    -- what follows the loop
    have after : ∀ (σ : L2.St) (H1 : Hp) (i1 s1 : Option V), σ = [some (.ref x), some (.ref a), i1, s1, none, none] → Same H H1 → (tSeq (sFld K (tVar 0) (tCall (spJoined K) [] E0 (tCons (tVar 1) tNil)) "stretches")
        (tSeq (sFld K (tVar 0) (tCB (fun xs H Q => ∃ p ys, xs = [V.ref p] ∧ ((SqL K H p ys ∧ ∀ l, H l = none → Q (.ref l) (upd H l (.tup ys))) ∨ (SqT K H p ys ∧ Q (.ref p) H))) (tCons (tLc (iTup K (tFld K (tVar 0) "stretches")) (gTup K 2 (gCons (gName 4) (gCons (gName 5) gNil))) tYes (tVar 4) [4, 5]) tNil)) "_firsts")
        (sFld K (tVar 0) (tCall (spCounts K) [] E0 (tCons (tFld K (tVar 0) "stretches") tNil)) "_before"))) { nx := fun _ H' => Q .non H', rt := Q } σ H1 := by
      rintro σ H1 i1 s1 rfl S1
      have hS1 : SqL K H1 a (refs L) ∨ SqT K H1 a (refs L) := hS.elim (fun e => .inl (S1.seq e)) fun e => .inr (sameT S1 e)
      refine ⟨_, rfl, a, L, rfl, hS1, hlen, hP.same S1, fun r hr => okRow_le (hok r hr), fun t M H2 S2 nt ht hM hnf hme hlM => ?_⟩
      have hx2 := S2 _ _ (S1 _ _ hx)
      refine ⟨_, rfl, x, C, dx, [], rfl, hx2, T.cl, T.nS, (by show 0 < 1000; decide), ?_⟩
      have ntx : t ≠ x := ne_of ht hx2 (by intro z; cases z)
      have nMx : ∀ p ∈ M, p.1 ≠ x := fun p hp => ne_of (hM p hp) hx2 (by intro z; cases z)
      -- firsts
      generalize hH3 : upd H2 x (.ins C dx (putF "stretches" (.ref t) [])) = H3
      have hx3 : H3 x = some (.ins C dx (putF "stretches" (.ref t) [])) := by rw [← hH3, upd_same]
      have ht3 : H3 t = some (.tup (refs M)) := by rw [← hH3, upd_ne ntx]; exact ht
      have hM3 : AtR H3 M := fun p hp => by rw [← hH3, upd_ne (nMx p hp)]; exact hM p hp
      have f3 : ∀ c o, H c = some o → c ≠ x → H3 c = some o := fun c o e n => by rw [← hH3, upd_ne n]; exact S2 _ _ (S1 _ _ e)
      have lk : (putF "stretches" (V.ref t) []).lookup ("stretches" : Str) = some (V.ref t) := by rw [lookup_putF, if_pos rfl]
      refine ⟨_, rfl, x, C, dx, _, _, rfl, hx3, T.cl, T.nS, lk, t, rfl, ⟨_, .inl (.inl ht3)⟩, fun D hD => lc_tup (K := K) (a := t) (xs := refs M) (fun i H4 => H4 D = some (.lst ((rws M).take i |>.map fun r => V.int r.1)) ∧ Same H3 H4)
        ⟨upd_same, same_lay hD⟩ (fun i H4 _ ⟨_, s⟩ => .inl (.inl (s _ _ ht3))) ?_ ?_⟩
      · rintro i y H4 hy ⟨hD4, s4⟩
        obtain ⟨z, hz, hzM, rfl⟩ := refs_get hy
        have hil : i < M.length := (List.getElem?_eq_some_iff.mp hz).1
        have ez := s4 _ _ (hM3 z hzM)
        refine ⟨z.1, _, rfl, .inl (.inl ez), rfl, _, _, rfl, _, _, rfl, rfl, rfl, yesT ?_⟩
        refine ⟨_, rfl, _, hD4, small1000 (by rw [List.length_map, List.length_take]; omega), ?_, same_upd s4 hD⟩
        have e1 : (rws M).take (i + 1) = (rws M).take i ++ [z.2] := by rw [List.take_add_one, rws_get hz]; rfl
        rw [upd_same, e1, List.map_append]
        rfl
      · rintro H4 ⟨hD4, s4⟩
        rw [refs_len, List.take_of_length_le (by rw [rws_len]; exact Nat.le_refl _)] at hD4
        refine ⟨D, _, rfl, .inl ⟨.inl (.inl hD4), fun f nf => ?_⟩⟩
        have s5 := same_lay (o := .tup ((rws M).map fun r => V.int r.1)) nf
        have s35 := s4.trans s5
        have hx5 := s35 _ _ hx3
        refine ⟨_, rfl, x, C, dx, _, rfl, hx5, T.cl, T.nF, (by show 1 < 1000; decide), ?_⟩
        have nfx : f ≠ x := by
          intro e
          rw [e] at nf
          rw [s4 _ _ hx3] at nf
          cases nf
        generalize hH6 : upd (upd H4 f (.tup ((rws M).map fun r => V.int r.1))) x (.ins C dx (putF "_firsts" (.ref f) (putF "stretches" (.ref t) []))) = H6
        have hx6 : H6 x = some (.ins C dx (putF "_firsts" (.ref f) (putF "stretches" (.ref t) []))) := by rw [← hH6, upd_same]
        have ht6 : H6 t = some (.tup (refs M)) := by rw [← hH6, upd_ne ntx]; exact s35 _ _ ht3
        have hM6 : AtR H6 M := fun p hp => by rw [← hH6, upd_ne (nMx p hp)]; exact s35 _ _ (hM3 p hp)
        have hf6 : H6 f = some (.tup ((rws M).map fun r => V.int r.1)) := by rw [← hH6, upd_ne nfx, upd_same]
        have f6 : ∀ c o, H c = some o → c ≠ x → H6 c = some o := fun c o e n => by rw [← hH6, upd_ne n]; exact s35 _ _ (f3 c o e n)
        have lk6 : (putF "_firsts" (V.ref f) (putF "stretches" (V.ref t) [])).lookup ("stretches" : Str) = some (V.ref t) := by
          rw [lookup_putF, if_neg (fun e => kFS e.symm), lookup_putF, if_pos rfl]
        refine ⟨_, rfl, x, C, dx, _, _, rfl, hx6, T.cl, T.nS, lk6, t, M, rfl, ht6, hM6, Nat.le_trans hlM hlen, fun b H7 s7 nb hb => ?_⟩
        have hx7 := s7 _ _ hx6
        refine ⟨_, rfl, x, C, dx, _, rfl, hx7, T.cl, T.nB, (by show 2 < 1000; decide), ?_⟩
        have nbx : b ≠ x := ne_of hb hx7 (by intro z; cases z)
        refine q (rws M) _ (fun c o e n => by rw [upd_ne n]; exact s7 _ _ (f6 c o e n)) ⟨hnf, dx, t, f, b, M, upd_same, ?_, fun p hp => ?_, rfl, ?_, ?_, Nat.le_trans hlM hlen⟩ hme (by rw [rws_len]; exact hlM)
        · rw [upd_ne ntx]; exact s7 _ _ ht6
        · rw [upd_ne (nMx p hp)]; exact s7 _ _ (hM6 p hp)
        · rw [upd_ne nfx]; exact s7 _ _ hf6
        · rw [upd_ne nbx]; exact hb
    rcases hS with hS' | hS'
    · refine .inl ⟨_, rfl, a, refs L, rfl, hS', for_enum (K := K) (a := a) (xs := refs L) (fun i σ H' => ∃ i1 s1, σ = [some (.ref x), some (.ref a), i1, s1, none, none] ∧ Same H H')
        ⟨none, none, rfl, Same.refl _⟩ (fun i σ H' _ ⟨_, _, _, s⟩ => s.seq hS') ?_ ?_⟩
      · rintro i y σ H' Tn hy ⟨i1, s1, rfl, S1⟩ hT
        obtain ⟨z, hz, hzL, rfl⟩ := refs_get hy
        have s2 := same_lay (o := .tup [.int (i : Nat), .ref z.1]) hT
        have pz := (hP.same (S1.trans s2)) z hzL
        have okz : okRow z.2 = true := hok z.2 (mem_rws.mpr ⟨z.1, hzL⟩)
        refine ⟨Tn, _, rfl, .inl (.inl upd_same), rfl, _, _, rfl, _, _, rfl, rfl, ?_⟩
        refine ⟨_, rfl, z.1, z.2, rfl, pz, fun H'' S3 => ⟨_, rfl, ?_⟩⟩
        rw [okz]
        exact iteF ⟨_, _, rfl, (S1.trans s2).trans S3⟩
      · rintro σ H' ⟨i1, s1, rfl, S1⟩
        exact after _ _ i1 s1 rfl S1
    · refine .inr ⟨_, rfl, a, refs L, rfl, hS', for_enumT (K := K) (a := a) (xs := refs L) (fun i σ H' => ∃ i1 s1, σ = [some (.ref x), some (.ref a), i1, s1, none, none] ∧ Same H H')
        ⟨none, none, rfl, Same.refl _⟩ (fun i σ H' _ ⟨_, _, _, s⟩ => sameT s hS') ?_ ?_⟩
      · rintro i y σ H' Tn hy ⟨i1, s1, rfl, S1⟩ hT
        obtain ⟨z, hz, hzL, rfl⟩ := refs_get hy
        have s2 := same_lay (o := .tup [.int (i : Nat), .ref z.1]) hT
        have pz := (hP.same (S1.trans s2)) z hzL
        have okz : okRow z.2 = true := hok z.2 (mem_rws.mpr ⟨z.1, hzL⟩)
        refine ⟨Tn, _, rfl, .inl (.inl upd_same), rfl, _, _, rfl, _, _, rfl, rfl, ?_⟩
        refine ⟨_, rfl, z.1, z.2, rfl, pz, fun H'' S3 => ⟨_, rfl, ?_⟩⟩
        rw [okz]
        exact iteF ⟨_, _, rfl, (S1.trans s2).trans S3⟩
      · rintro σ H' ⟨i1, s1, rfl, S1⟩
        exact after _ _ i1 s1 rfl S1
end
end OR

namespace OR
open PySem PySem.Spec PyProof.Rows L2
/-! ### deep data made of rows -/
def rowD (r : Row) : PyData := .tuple [.int r.1, .int r.2]
theorem dp_row {K : PySem.W.Frag} {H : Hp} {a : Addr} {r : Row} (h : H a = some (.tup [.int r.1, .int r.2])) : Dp K H (.ref a) (rowD r) := .tup (.inl (.inl h)) (.cons (.int _) (.cons (.int _) .nil))
theorem dp_rows {K : PySem.W.Frag} {H : Hp} : ∀ {L : List ARow}, AtR H L → DpAll K H (refs L) ((rws L).map rowD)
  | [], _ => .nil
  | p :: L, h => .cons (dp_row (h p List.mem_cons_self)) (dp_rows fun q hq => h q (List.mem_cons_of_mem _ hq))
theorem lay_rows : ∀ l : List Row, PyData.canLayAll0 (l.map rowD) = true
  | [] => rfl
  | r :: l => by
    show (PyData.canLay0 (rowD r) && PyData.canLayAll0 (l.map rowD)) = true
    rw [lay_rows l]
    rfl
theorem dep_rows : ∀ l : List Row, PyData.depthAll (l.map rowD) ≤ 1
  | [] => Nat.zero_le _
  | r :: l => by
    show max (PyData.depth (rowD r)) (PyData.depthAll (l.map rowD)) ≤ 1
    have := dep_rows l
    have e : PyData.depth (rowD r) = 1 := rfl
    omega
theorem shp_tup (l : List Row) : SeqAt.shaped (.tuple (l.map rowD)) = true := by
  unfold SeqAt.shaped
  rw [show PyData.canLay0 (.tuple (l.map rowD)) = true from lay_rows l, Bool.true_and]
  refine decide_eq_true ?_
  show PyData.depthAll (l.map rowD) + 1 ≤ 64
  have := dep_rows l
  omega
theorem shp_lst (l : List Row) : SeqAt.shaped (.list (l.map rowD)) = true := by
  unfold SeqAt.shaped
  rw [show PyData.canLay0 (.list (l.map rowD)) = true from lay_rows l, Bool.true_and]
  refine decide_eq_true ?_
  show PyData.depthAll (l.map rowD) + 1 ≤ 64
  have := dep_rows l
  omega
theorem eqv_row (r s : Row) : PyData.eqv (rowD r) (rowD s) = decide (r = s) := by
  show ((r.1 == s.1) && ((r.2 == s.2) && true)) = decide (r = s)
  rw [Bool.and_true]
  by_cases h : r = s
  · subst h
    simp
  · rw [decide_eq_false h]
    by_cases h1 : r.1 = s.1
    · have h2 : r.2 ≠ s.2 := fun e => h (Prod.ext h1 e)
      simp [h2]
    · simp [h1]
theorem eqv_rows : ∀ l m : List Row, PyData.eqvAll (l.map rowD) (m.map rowD) = decide (l = m)
  | [], [] => by simp [PyData.eqvAll]
  | [], _ :: _ => by simp [PyData.eqvAll]
  | _ :: _, [] => by simp [PyData.eqvAll]
  | r :: l, s :: m => by
    show (PyData.eqv (rowD r) (rowD s) && PyData.eqvAll (l.map rowD) (m.map rowD)) = decide (r :: l = s :: m)
    rw [eqv_row, eqv_rows l m]
    by_cases h1 : r = s
    · by_cases h2 : l = m
      · simp [h1, h2]
      · simp [h1, h2]
    · simp [h1]
theorem AtR.frm {H H' : Hp} {L : List ARow} {p : Addr} {n : Nat} (h : AtR H L) (f : Frm p H H') (P : Pen H p n) : AtR H' L := fun q hq => by
  obtain ⟨c, ns, k, l, hp, _⟩ := P
  exact f _ _ (h q hq) (ne_of (h q hq) hp (by intro z; cases z))
theorem Frm.free {p q : Addr} {H H' : Hp} {n : Nat} (f : Frm p H H') (P : Pen H' p n) (h : H' q = none) : H q = none := by
  obtain ⟨c, ns, k, l, hp, _⟩ := P
  cases e : H q with
  | none => rfl
  | some o =>
    by_cases ep : q = p
    · rw [ep, hp] at h
      cases h
    · rw [f q o e ep] at h
      cases h
theorem frmS {p : Addr} {H H' : Hp} (s : Same H H') : Frm p H H' := ⟨fun b o e _ => s b o e, fun c ⟨k, l, e⟩ => ⟨k, l, s _ _ e⟩⟩
theorem Pen.same' {H H' : Hp} {p : Addr} {n : Nat} (P : Pen H p n) (s : Same H H') : Pen H' p n := by
  obtain ⟨c, ns, k, l, h1, h2, h⟩ := P
  exact ⟨c, ns, k, l, s _ _ h1, s _ _ h2, h⟩
/-! ### the law's drawing of rows -/
def spSpot : Sp := fun vs H Q _ => ∃ (p : Addr) (n : Nat), vs = [.ref p] ∧ Pen H p n ∧ n ≤ 900000 ∧ ∀ (r : Int) (H' : Hp), placeB r = true → Pen H' p (n + 2) → Frm p H H' → Q (.int r) H'
def spDrawn : Sp := fun vs H Q _ => ∃ (p : Addr) (m n : Nat), vs = [.ref p, .int m] ∧ m ≤ 20 ∧ Pen H p n ∧ n ≤ 700000 ∧
  ∀ (a : Addr) (L : List ARow) (H' : Hp), H a = none → H' a = some (.lst (refs L)) → AtR H' L → (∀ r ∈ rws L, okRow r = true) → L.length ≤ m → Pen H' p (n + 1000) → Frm p H H' → Q (.ref a) H'
theorem place_of {r : Int} (h0 : 0 ≤ r) (h1 : r ≤ lastP) : placeB r = true := by
  unfold placeB
  rw [decide_eq_true h0, decide_eq_true h1]
  rfl
theorem place_iff {r : Int} (h : placeB r = true) : 0 ≤ r ∧ r ≤ lastP := by
  unfold placeB at h
  simp only [Bool.and_eq_true, decide_eq_true_eq] at h
  exact h
theorem okRow_of {a b : Int} (h0 : 0 ≤ a) (h1 : a ≤ b) (h2 : b ≤ lastP) : okRow (a, b) = true := by
  unfold okRow
  rw [place_of (r := a) h0 (Int.le_trans h1 h2), place_of (r := b) (Int.le_trans h0 h1) h2, Bool.true_and, Bool.true_and]
  exact decide_eq_true h1
theorem okRow_iff {r : Row} (h : okRow r = true) : 0 ≤ r.1 ∧ r.1 ≤ r.2 ∧ r.2 ≤ lastP := by
  unfold okRow at h
  rw [Bool.and_eq_true, Bool.and_eq_true, decide_eq_true_eq] at h
  exact ⟨(place_iff h.1).1, h.2.2, (place_iff h.2.1).2⟩
structure Bd (mg : Str → Option Value) : Prop where
  range : mg "range" = none
  min : mg "min" = none
  max : mg "max" = none
  int : mg "int" = none
  len : mg "len" = none
  list : mg "list" = none
  set : mg "set" = none
  sorted : mg "sorted" = none
section
variable {P : Program} {w : World} {K : PySem.W.Frag} {mg : Str → Option Value} {base : Heap}
theorem scSpot : FnScope ["_law_pen_here", "_law_way"] ["_law_pen_here"] (defScope sSpot) := ⟨rfl, rfl, rfl, by decide +kernel, rfl, by decide +kernel, by decide +kernel⟩
theorem ok_spot {f : Addr} {fd : FuncData} (F : Fun K "_law_spot" "_law_spot" sSpot f fd) (D : Cl P w K mg base 1 "_law_draw" ["_law_pen_here", "_law_many"] spDraw) : FnOk P w K mg base CX0 2 f fd ["_law_pen_here"] spSpot := by
  refine F.ok scSpot (fun vs H Q E h => ?_) (fun cdv A outer s H vs Q E hr h => ?_)
  · obtain ⟨p, n, rfl, _⟩ := h
    rfl
  · obtain ⟨p, n, rfl, hP, hn, q⟩ := h
    have nd := scSpot.nd
    refine ⟨_, pss_cons (ps_set (i := 1) nd rfl (.inl rfl) (pe_cl D hr (by decide) (by rfl) (pa_cons (pv 0) (pa_cons pe_int pa_nil))))
      (pss_cons (ps_if (pt_cmpR op_lt (pv 1) pe_int (nomark _)) (pss_one (ps_ret (pe_cl D hr (by decide) (by rfl) (pa_cons (pv 0) (pa_cons (pe_ix ix_list (pe_lst (pa_cons pe_int (pa_cons pe_int pa_nil))) (pv 1) (fun _ _ => rfl)) pa_nil))))) pss_nil)
      (pss_cons (ps_if (pt_cmpR op_eq (pv 1) pe_int (nomark _)) (pss_one (ps_ret (pe_cl D hr (by decide) (by rfl) (pa_cons (pv 0) (pa_cons (pe_op op_add (pe_op op_pow pe_int pe_int) pe_int) pa_nil))))) pss_nil)
      (pss_one (ps_ret (pe_ifExp (pt_cmpR op_eq (pv 1) pe_int (nomark _)) (pe_op op_sub (pe_op op_pow pe_int pe_int) (pe_cl D hr (by decide) (by rfl) (pa_cons (pv 0) (pa_cons pe_int pa_nil))))
        (pe_op op_add (pe_op op_pow pe_int pe_int) (pe_cl D hr (by decide) (by rfl) (pa_cons (pv 0) (pa_cons pe_int pa_nil))))))))), ?_⟩
    have hpow : CPow 10 30 := ⟨by decide, by decide, by decide⟩
    have hpow15 : CPow 10 15 := ⟨by decide, by decide, by decide⟩
    have eL : lastP = 10 ^ 30 := rfl
    refine ⟨_, rfl, p, 5, n, rfl, by decide, by decide, hP, by omega, fun way H1 w0 w5 P1 F1 => ?_⟩
    refine ⟨_, rfl, _, _, rfl, rfl, _, rfl, ite2 (fun c => ?_) (fun _ => ?_)⟩
    · have hw : way < 2 := of_decide_eq_true c
      refine ⟨_, rfl, by show 2 ≤ sizeLine; decide, fun l hl => ?_⟩
      obtain ⟨m, hm, hm0, hm1⟩ : ∃ m : Int, atI [V.int 9, V.int 60] way = some (.int m) ∧ 0 < m ∧ m ≤ 60 := by
        have : way = 0 ∨ way = 1 := by omega
        rcases this with e | e <;> subst e
        · exact ⟨9, atI_nat (j := 0) rfl, by decide, by decide⟩
        · exact ⟨60, atI_nat (j := 1) rfl, by decide, by decide⟩
      have hmb : m.natAbs < 2 ^ 200 := Nat.lt_of_le_of_lt (show m.natAbs ≤ 60 by omega) (by decide)
      refine ⟨_, rfl, l, _, way, _, rfl, rfl, .inl (.inl upd_same), hm, p, m, n + 1, rfl, hm0, hmb, P1.new hl, by omega, fun r H2 r0 r1 P2 F2 => ?_⟩
      exact q r H2 (place_of r0 (by rw [eL]; omega)) P2 (F1.trans ((Frm.new hl).trans F2))
    refine ⟨_, rfl, rfl, _, rfl, ite2 (fun _ => ?_) (fun _ => ?_)⟩
    · refine ⟨_, rfl, _, _, rfl, rfl, hpow, _, _, rfl, rfl, p, _, n + 1, rfl, by decide, by decide, P1, by omega, fun r H2 r0 r1 P2 F2 => ?_⟩
      have r1' : r < 10 ^ 30 + 1 := r1
      exact q r H2 (place_of r0 (by rw [eL]; omega)) P2 (F1.trans F2)
    refine ⟨_, rfl, rfl, _, rfl, ite2 (fun _ => ?_) (fun _ => ?_)⟩
    · refine ⟨_, _, rfl, rfl, hpow, _, rfl, p, 9, n + 1, rfl, by decide, by decide, P1, by omega, fun r H2 r0 r1 P2 F2 => ⟨_, _, rfl, rfl, ?_⟩⟩
      refine q _ H2 (place_of ?_ ?_) P2 (F1.trans F2)
      · show (0 : Int) ≤ 10 ^ 30 - r
        omega
      · show (10 : Int) ^ 30 - r ≤ 10 ^ 30
        omega
    · refine ⟨_, _, rfl, rfl, hpow15, _, rfl, p, 99, n + 1, rfl, by decide, by decide, P1, by omega, fun r H2 r0 r1 P2 F2 => ⟨_, _, rfl, rfl, ?_⟩⟩
      refine q _ H2 (place_of ?_ ?_) P2 (F1.trans F2)
      · show (0 : Int) ≤ 10 ^ 15 + r
        omega
      · show (10 : Int) ^ 15 + r ≤ 10 ^ 30
        omega
theorem scDn : FnScope ["_law_pen_here", "_law_most", "_law_found", "_law_k", "_law_first", "_law_size"] ["_law_pen_here", "_law_most"] (defScope sDrawn) := ⟨rfl, rfl, rfl, by decide +kernel, rfl, by decide +kernel, by decide +kernel⟩
theorem ok_drawn {f : Addr} {fd : FuncData} (F : Fun K "_law_drawn" "_law_drawn" sDrawn f fd) (B : Bd mg) (D : Cl P w K mg base 1 "_law_draw" ["_law_pen_here", "_law_many"] spDraw) (C : Cl P w K mg base 2 "_law_pick" ["_law_pen_here", "_law_items"] (spPick K))
    (S : Cl P w K mg base 2 "_law_spot" ["_law_pen_here"] spSpot) : FnOk P w K mg base CX0 3 f fd ["_law_pen_here", "_law_most"] spDrawn := by
  refine F.ok scDn (fun vs H Q E h => ?_) (fun cdv A outer s H vs Q E hr h => ?_)
  · obtain ⟨p, m, n, rfl, _⟩ := h
    rfl
  · obtain ⟨p, m, n, rfl, hm, hP, hn, q⟩ := h
    have nd := scDn.nd
    have hu64 : (A.deeper (envOfC "_law_drawn" (defScope sDrawn) s.heap.objs.size f cdv)).units + 64 < cLine := hr.units
    refine ⟨_, pss_cons (ps_set (i := 2) nd rfl (.inl rfl) (pe_lst pa_nil))
      (pss_cons (ps_for PassesOwn.never rfl (pi_range1 (by rfl) B.range (pa_cons (pe_cl D hr (by decide) (by rfl) (pa_cons (pv 0) (pa_cons (pe_op op_add (pv 1) pe_int) pa_nil))) pa_nil)) (pg_name (i := 3) nd rfl (.inl rfl))
        (pss_cons (ps_set (i := 4) nd rfl (.inl rfl) (pe_cl S hr (by decide) (by rfl) (pa_cons (pv 0) pa_nil)))
        (Evl.pss_cut (ps_if (PW.pt (pw_and (pt_cmpR (op_neD hu64) (pv 2) (pe_lst pa_nil) (nomark _)) (pw_and1 (pt_cmpR op_eq (pe_cl D hr (by decide) (by rfl) (pa_cons (pv 0) (pa_cons pe_int pa_nil))) pe_int (nomark _)))))
          (pss_one (ps_set (i := 4) nd rfl (.inl rfl) (pe_callB (call_min2 rfl) (by rfl) B.min bt_min (pa_cons (pe_op op_pow pe_int pe_int) (pa_cons (pe_callTy call_int1 (by rfl) B.int bt_int (pa_cons
            (pe_op op_add (pe_ix ix_tup (pe_cl C hr (by decide) (by rfl) (pa_cons (pv 0) (pa_cons (pv 2) pa_nil))) pe_int (fun _ _ => rfl)) (pe_cl C hr (by decide) (by rfl) (pa_cons (pv 0) (pa_cons (pe_lst (pa_cons pe_int (pa_cons pe_int (pa_cons pe_int (pa_cons pe_int (pa_cons pe_int pa_nil)))))) pa_nil)))) pa_nil)) pa_nil))))) pss_nil)
        (pss_cons (ps_set (i := 5) nd rfl (.inl rfl) (pe_cl C hr (by decide) (by rfl) (pa_cons (pv 0) (pa_cons (pe_lst (pa_cons pe_int (pa_cons pe_int (pa_cons pe_int (pa_cons pe_int (pa_cons (pe_cl D hr (by decide) (by rfl) (pa_cons (pv 0) (pa_cons pe_int pa_nil)))
            (pa_cons (pe_cl D hr (by decide) (by rfl) (pa_cons (pv 0) (pa_cons (pe_op op_pow pe_int pe_int) pa_nil))) pa_nil))))))) pa_nil))))
        (pss_one (ps_expr (pe_bm PySem.F.plainAttrs_list PySem.F.slot_list_append PySem.F.type_list_append mt_append (pv 2) (pa_cons (pe_tup (pa_cons (pv 4) (pa_cons (pe_callB (call_min2 rfl) (by rfl) B.min bt_min (pa_cons (pe_op op_pow pe_int pe_int)
            (pa_cons (pe_callTy call_int1 (by rfl) B.int bt_int (pa_cons (pe_op op_add (pv 4) (pv 5)) pa_nil)) pa_nil))) pa_nil))) pa_nil))))))))
      (pss_one (ps_ret (pv 2)))), ?_⟩
    have hpow : CPow 10 30 := ⟨by decide, by decide, by decide⟩
    have eL : lastP = 10 ^ 30 := rfl
    obtain ⟨c0, hc0, hcn⟩ := hP.cells
    refine ⟨Nat.zero_le _, fun a0 na => ?_⟩
    have nca0 : c0 ≠ a0 := fun e => hcn (by rw [e]; exact na)
    have P0 := hP.new (o := .lst []) na
    refine ⟨_, rfl, _, rfl, _, _, rfl, rfl, p, _, n, rfl, by omega, Nat.lt_of_le_of_lt (show ((m : Int) + 1).natAbs ≤ 21 by omega) (by decide), P0, by omega, fun r H1 r0 r1 P1 F1 => ?_⟩
    have a1 : H1 a0 = some (.lst []) := F1.lst P0 upd_same
    refine ⟨r, rfl, by omega, by omega, for_range (n := r.toNat) (fun i σ H' => ∃ s3 s4 s5, ∃ L : List ARow, σ = [some (.ref p), some (.int m), some (.ref a0), s3, s4, s5] ∧ H' a0 = some (.lst (refs L)) ∧ AtR H' L ∧ (∀ r ∈ rws L, okRow r = true) ∧ L.length = i ∧ Pen H' p (n + 1 + 20 * i) ∧ Frm p H H')
      ⟨none, none, none, [], rfl, a1, (fun _ z => nomatch z), (fun _ z => nomatch z), rfl, P1, (Frm.new na).trans F1⟩ ?_ ?_⟩
    · rintro i σ H' hi ⟨s3, s4, s5, L, rfl, ha, hA, hok, hlen, hPn, hF⟩
      have hi20 : i < 20 := by omega
      -- first
      refine ⟨_, rfl, p, _, rfl, hPn, by omega, fun fst H2 hf P2 F2 => ?_⟩
      have ha2 : H2 a0 = some (.lst (refs L)) := F2.lst hPn ha
      have hA2 := hA.frm F2 hPn
      have hF2 := hF.trans F2
      refine ⟨fun σ'' H'' => ∃ fst : Int, σ'' = [some (.ref p), some (.int m), some (.ref a0), some (.int (0 + i)), some (.int fst), s5] ∧ placeB fst = true ∧ H'' a0 = some (.lst (refs L)) ∧ AtR H'' L ∧ Pen H'' p (n + 1 + 20 * i + 5) ∧ Frm p H H'', ?_, ?_⟩
      · refine ⟨_, rfl, Nat.zero_le _, fun e he => ?_⟩
        have se := same_lay (o := .lst []) he
        have ha3 := se _ _ ha2
        have hA3 := hA2.same se
        have P3 := P2.same' se
        have hF3 := hF2.trans (frmS se)
        refine ⟨.list ((rws L).map rowD), .list [], .lst (.inl (.inl ha3)) (dp_rows hA3), .lst (.inl (.inl upd_same)) .nil, shp_lst _, rfl, _, rfl, ?_⟩
        refine ite2 (fun hne => ?_) (fun _ => iteF ⟨fst, rfl, hf, ha3, hA3, P3.mono (by omega), hF3⟩)
        have hL0 : 0 < L.length := by
          cases L with
          | nil => exact absurd hne (by decide)
          | cons _ _ => exact Nat.succ_pos _
        refine ⟨_, rfl, p, 2, _, rfl, by decide, by decide, P3, by omega, fun c H4 _ _ P4 F4 => ?_⟩
        have ha4 : H4 a0 = some (.lst (refs L)) := F4.lst P3 ha3
        have hA4 := hA3.frm F4 P3
        have hF4 := hF3.trans F4
        refine ⟨rfl, _, rfl, ite2 (fun _ => ?_) (fun _ => ⟨fst, rfl, hf, ha4, hA4, P4.mono (by omega), hF4⟩)⟩
        refine ⟨_, _, rfl, rfl, hpow, _, rfl, _, rfl, p, a0, refs L, _, rfl, .inl (.inl ha4), by rw [refs_len]; exact hL0, by rw [refs_len]; omega, P4, by omega, fun v H5 hv P5 F5 => ?_⟩
        obtain ⟨z, hz, rfl⟩ := List.mem_map.mp hv
        have ha5 : H5 a0 = some (.lst (refs L)) := F5.lst P4 ha4
        have hA5 := hA4.frm F5 P4
        have okz := okRow_iff (hok z.2 (mem_rws.mpr ⟨z.1, hz⟩))
        refine ⟨z.1, _, 1, .int z.2.2, rfl, rfl, .inl (.inl (hA5 z hz)), atI_nat (j := 1) rfl, _, rfl, by show 5 ≤ sizeLine; decide, fun l2 hl2 => ?_⟩
        refine ⟨p, l2, _, _, rfl, .inl (.inl upd_same), by show 0 < 5; decide, by show 5 ≤ 1000; decide, P5.new hl2, by omega, fun v2 H6 hv2 P6 F6 => ?_⟩
        obtain ⟨j, rfl, hj0, hj1⟩ : ∃ j : Int, v2 = .int j ∧ 0 ≤ j ∧ j ≤ 3 := by
          simp only [List.mem_cons, List.not_mem_nil, or_false] at hv2
          rcases hv2 with e | e | e | e | e <;> subst e <;> exact ⟨_, rfl, by decide, by decide⟩
        have s2 := same_lay (o := .lst [.int 0, .int 1, .int 1, .int 2, .int 3]) hl2
        have ha6 : H6 a0 = some (.lst (refs L)) := F6.lst (P5.new hl2) (s2 _ _ ha5)
        refine ⟨_, _, rfl, rfl, .inl ⟨_, rfl, _, _, rfl, ?_⟩⟩
        refine ⟨_, rfl, place_of ?_ ?_, ha6, (hA5.same s2).frm F6 (P5.new hl2), P6.mono (by omega), ((hF4.trans F5).trans (frmS s2)).trans F6⟩
        · show (0 : Int) ≤ (if z.2.2 + j < 10 ^ 30 then z.2.2 + j else 10 ^ 30)
          split <;> omega
        · show (if z.2.2 + j < 10 ^ 30 then z.2.2 + j else 10 ^ 30) ≤ (10 : Int) ^ 30
          split <;> omega
      clear hf ha2 hA2 hF2 F2 P2
      rintro σ'' H3 ⟨fst, rfl, hf, ha3, hA3, P3, hF3⟩
      -- size
      refine ⟨_, rfl, _, rfl, p, 9, _, rfl, by decide, by decide, P3, by omega, fun r1 H4 h10 _ P4 F4 => ?_⟩
      refine ⟨_, rfl, _, _, rfl, rfl, hpow, p, _, _, rfl, by decide, by decide, P4, by omega, fun r2 H5 h20 _ P5 F5 => ?_⟩
      refine ⟨by show 6 ≤ sizeLine; decide, fun l hl => ?_⟩
      refine ⟨p, l, _, _, rfl, .inl (.inl upd_same), by show 0 < 6; decide, by show 6 ≤ 1000; decide, P5.new hl, by omega, fun v H6 hv P6 F6 => ?_⟩
      obtain ⟨sz, rfl, hsz⟩ : ∃ sz : Int, v = .int sz ∧ 0 ≤ sz := by
        simp only [List.mem_cons, List.not_mem_nil, or_false] at hv
        rcases hv with e | e | e | e | e | e <;> subst e <;> exact ⟨_, rfl, by omega⟩
      have sl := same_lay (o := .lst [.int 0, .int 0, .int 1, .int 2, .int r1, .int r2]) hl
      have FF : Frm p H3 H6 := ((F4.trans F5).trans (frmS sl)).trans F6
      have ha6 : H6 a0 = some (.lst (refs L)) := FF.lst P3 ha3
      have hA6 := hA3.frm FF P3
      have hf2 := place_iff hf
      have hfe : fst ≤ 10 ^ 30 := hf2.2
      refine ⟨_, rfl, .inl ⟨rfl, _, .inl (.inl ha6)⟩, _, rfl, _, _, rfl, rfl, hpow, _, rfl, _, rfl, _, _, rfl, rfl, .inl ⟨_, rfl, _, _, rfl, by show 2 ≤ sizeLine; decide, fun T hT => ?_⟩⟩
      have sT := same_lay (o := .tup [.int fst, .int (if fst + sz < 10 ^ (30 : Int).toNat then fst + sz else 10 ^ (30 : Int).toNat)]) hT
      have nTa : T ≠ a0 := by
        intro e
        rw [e, ha6] at hT
        cases hT
      refine ⟨a0, _, _, rfl, rfl, sT _ _ ha6, small1000 (by rw [refs_len]; omega), ?_⟩
      have nLa : ∀ q ∈ L, q.1 ≠ a0 := fun q hq => ne_of (hA6 q hq) ha6 (by intro z; cases z)
      refine ⟨_, _, _, L ++ [(T, (fst, if fst + sz < 10 ^ (30 : Int).toNat then fst + sz else 10 ^ (30 : Int).toNat))], rfl, by rw [upd_same, refs_snoc], ?_, ?_, by rw [List.length_append, hlen]; rfl, ?_, ?_⟩
      · intro q hq
        rcases List.mem_append.mp hq with k | k
        · rw [upd_ne (nLa q k)]; exact sT _ _ (hA6 q k)
        · rw [List.mem_singleton.mp k, upd_ne nTa, upd_same]
      · intro x hx
        rw [rws_snoc] at hx
        rcases List.mem_append.mp hx with k | k
        · exact hok x k
        · rw [List.mem_singleton.mp k]
          refine okRow_of hf2.1 ?_ ?_
          · show fst ≤ (if fst + sz < 10 ^ 30 then fst + sz else 10 ^ 30)
            split <;> omega
          · show (if fst + sz < 10 ^ 30 then fst + sz else 10 ^ 30) ≤ (10 : Int) ^ 30
            split <;> omega
      · exact ((P6.same' sT).put (((hF3.trans FF).trans (frmS sT)).ce c0 hc0) (sT _ _ ha6) nca0).mono (by omega)
      · refine ⟨fun b o e nb => ?_, fun c hc => ?_⟩
        · rw [upd_ne (ne_of_none e na)]
          exact sT _ _ (FF _ _ (hF3 _ _ e nb) nb)
        · obtain ⟨k, l', e⟩ := ((hF3.trans FF).trans (frmS sT)).ce c hc
          exact ⟨k, l', by rw [upd_ne (ne_of e (sT _ _ ha6) (by intro z; cases z))]; exact e⟩
    · rintro σ H' ⟨s3, s4, s5, L, rfl, ha, hA, hok, hl, hPn, hF⟩
      exact ⟨_, rfl, q a0 L H' na ha hA hok (by omega) (hPn.mono (by omega)) hF⟩
end
end OR

namespace OR
open PySem PySem.Spec PyProof.Rows L2
/-! ### the law's own merging -/
theorem bt_set : bootBuiltins ("set" : Str) = some (.type "set") := by decide +kernel
theorem ok_of_mem {l m : List Row} (hn : Nf m) (h : ∀ x, mem m x ↔ mem l x) (hl : ∀ r ∈ l, okRow r = true) : ∀ r ∈ m, okRow r = true := fun r hr => by
  have hle := hn.ok r hr
  obtain ⟨q1, hq1, a1, b1⟩ := (h r.1).mp ⟨r, hr, Int.le_refl _, hle⟩
  obtain ⟨q2, hq2, a2, b2⟩ := (h r.2).mp ⟨r, hr, hle, Int.le_refl _⟩
  have o1 := okRow_iff (hl q1 hq1)
  have o2 := okRow_iff (hl q2 hq2)
  exact okRow_of (a := r.1) (b := r.2) (by omega) hle (by omega)
theorem call_setO {X : Cx} (K : PySem.W.Frag) (P : Program) (w : World) (hK : X.K = K) (hP : X.prog = P) (hw : X.w = w) (hc : X.calm = true) (hu : X.A.units + 64 < cLine) : CallR X (.type "set") (rSetOfT K P w) := by
  subst hK hP hw
  exact cr_setOfT hc hu
def spMerged (K : PySem.W.Frag) : Sp := fun vs H Q _ => ∃ (a : Addr) (L : List ARow), vs = [.ref a] ∧ SqL K H a (refs L) ∧ AtR H L ∧ (∀ r ∈ rws L, okRow r = true) ∧ L.length < 64 ∧
  ∀ (o : Addr) (M : List ARow) (H' : Hp), Same H H' → H o = none → H' o = some (.lst (refs M)) → AtR H' M → Nf (rws M) → (∀ x, mem (rws M) x ↔ mem (rws L) x) → M.length < 64 → M.length ≤ L.length → Q (.ref o) H'
theorem nodup_le {α : Type} : ∀ {l m : List α}, l.Nodup → (∀ x ∈ l, x ∈ m) → l.length ≤ m.length
  | [], _, _, _ => Nat.zero_le _
  | x :: l, m, h, s => by
    obtain ⟨h1, h2⟩ := List.nodup_cons.mp h
    obtain ⟨a, b, rfl⟩ := List.append_of_mem (s x List.mem_cons_self)
    have k : l.length ≤ (a ++ b).length := nodup_le h2 fun y hy => by
      have hy2 := s y (List.mem_cons_of_mem _ hy)
      rcases List.mem_append.mp hy2 with c | c
      · exact List.mem_append_left _ c
      · rcases List.mem_cons.mp c with e | c
        · exact absurd (e ▸ hy) h1
        · exact List.mem_append_right _ c
    rw [List.length_append] at k
    rw [List.length_append, List.length_cons, List.length_cons]
    omega
/-- an arrangement of some of the rows, as lists of integers -/
def ilist (L : List ARow) : List (Addr × List Int) := L.map fun p => (p.1, [p.2.1, p.2.2])
theorem refs_ilist (L : List ARow) : (ilist L).map (fun p => V.ref p.1) = refs L := by
  unfold ilist refs
  rw [List.map_map]
  rfl
theorem of_ilist : ∀ {L' : List (Addr × List Int)} {L : List ARow}, (∀ q ∈ L', q ∈ ilist L) → ∃ S : List ARow, L' = ilist S ∧ ∀ p ∈ S, p ∈ L
  | [], _, _ => ⟨[], rfl, fun _ z => nomatch z⟩
  | q :: L', L, h => by
    obtain ⟨S, e, hS⟩ := of_ilist (L' := L') (L := L) fun z hz => h z (List.mem_cons_of_mem _ hz)
    have hq := h q List.mem_cons_self
    unfold ilist at hq
    obtain ⟨p, hp, rfl⟩ := List.mem_map.mp hq
    refine ⟨p :: S, by rw [e]; rfl, fun z hz => ?_⟩
    rcases List.mem_cons.mp hz with k | k
    · rw [k]; exact hp
    · exact hS z k
theorem bd_row {r : Row} (h : okRow r = true) : TS.Bd (lastP + 1) [r.1, r.2] := fun m hm => by
  have o := okRow_iff h
  simp only [List.mem_cons, List.not_mem_nil, or_false] at hm
  rcases hm with rfl | rfl <;> constructor <;> omega
section
variable {P : Program} {w : World} {K : PySem.W.Frag} {mg : Str → Option Value} {base : Heap}
theorem scMg : FnScope ["_law_rows", "_law_found", "_law_first", "_law_last", "_law_before"] ["_law_rows"] (defScope sMerged) := ⟨rfl, rfl, rfl, by decide +kernel, rfl, by decide +kernel, by decide +kernel⟩
theorem ok_merged {f : Addr} {fd : FuncData} (F : Fun K "_law_merged" "_law_merged" sMerged f fd) (B : Bd mg) : FnOk P w K mg base CX0 1 f fd ["_law_rows"] (spMerged K) := by
  refine F.ok scMg (fun vs H Q E h => ?_) (fun cdv A outer s H vs Q E hr h => ?_)
  · obtain ⟨a, L, rfl, _⟩ := h
    rfl
  · obtain ⟨a, L, rfl, hS, hA0, hok, hlen, q⟩ := h
    have nd := scMg.nd
    have hu64 : (A.deeper (envOfC "_law_merged" (defScope sMerged) s.heap.objs.size f cdv)).units + 64 < cLine := hr.units
    refine ⟨_, pss_cons (ps_set (i := 1) nd rfl (.inl rfl) (pe_lst pa_nil))
      (pss_cons (ps_for PassesOwn.never rfl (pi_list (pe_callB (cr_sortedT rfl) (by rfl) B.sorted bt_sorted (pa_cons (pe_callTy (call_setO K P w rfl rfl rfl rfl hu64) (by rfl) B.set bt_set (pa_cons (pv 0) pa_nil)) pa_nil)))
          (pg_tup rfl (pgs_cons (pg_name (i := 2) nd rfl (.inl rfl)) (pgs_cons (pg_name (i := 3) nd rfl (.inl rfl)) pgs_nil)))
        (pss_one (ps_if (PW.pt (pw_and (pt_cmpR (op_neD hu64) (pv 1) (pe_lst pa_nil) (nomark _)) (pw_and1 (pt_cmpR op_le (pv 2) (pe_op op_add (pe_ix ix_tup (pe_ix ix_list (pv 1) (pe_un un_neg pe_int) (fun _ _ => rfl)) pe_int (fun _ _ => rfl)) pe_int) (nomark _)))))
          (pss_cons (ps_set (i := 4) nd rfl (.inl rfl) (pe_bm0 PySem.F.plainAttrs_list PySem.F.slot_list_pop PySem.F.type_list_pop mt_pop (pv 1)))
          (pss_one (ps_expr (pe_bm PySem.F.plainAttrs_list PySem.F.slot_list_append PySem.F.type_list_append mt_append (pv 1) (pa_cons (pe_tup (pa_cons (pe_ix ix_tup (pv 4) pe_int (fun _ _ => rfl))
              (pa_cons (pe_callB (call_max2 rfl) (by rfl) B.max bt_max (pa_cons (pe_callTy call_int1 (by rfl) B.int bt_int (pa_cons (pe_ix ix_tup (pv 4) pe_int (fun _ _ => rfl)) pa_nil)) (pa_cons (pe_callTy call_int1 (by rfl) B.int bt_int (pa_cons (pv 3) pa_nil)) pa_nil))) pa_nil))) pa_nil)))))
          (pss_one (ps_expr (pe_bm PySem.F.plainAttrs_list PySem.F.slot_list_append PySem.F.type_list_append mt_append (pv 1) (pa_cons (pe_tup (pa_cons (pv 2) (pa_cons (pv 3) pa_nil))) pa_nil)))))))
      (pss_one (ps_ret (pv 1)))), ?_⟩
    refine ⟨Nat.zero_le _, fun o no => ?_⟩
    have S1 := same_lay (o := .lst []) no
    have hA1 := hA0.same S1
    refine ⟨_, rfl, a, ilist L, rfl, by rw [refs_ilist]; exact S1.seq hS, fun p hp => ?_, by unfold ilist; rw [List.length_map]; exact hlen, fun u L1 nu h1 h2 => ?_⟩
    · unfold ilist at hp
      obtain ⟨z, hz, rfl⟩ := List.mem_map.mp hp
      exact .inl (.inl (hA1 z hz))
    have S2 := S1.trans (same_lay (o := SetTO P w u L1) nu)
    have hA2 := hA0.same S2
    obtain ⟨Z, rfl, hZ⟩ := of_ilist h1
    refine ⟨u, ilist Z, 2, lastP + 1, rfl, upd_same, fun p hp => ?_, by decide, fun p hp => ?_, fun L' d hperm hnd hlt hsort nd2 => ?_⟩
    · unfold ilist at hp
      obtain ⟨z, hz, rfl⟩ := List.mem_map.mp hp
      exact .inl (.inl (hA2 z (hZ z hz)))
    · unfold ilist at hp
      obtain ⟨z, hz, rfl⟩ := List.mem_map.mp hp
      exact ⟨rfl, bd_row (hok z.2 (mem_rws.mpr ⟨z.1, hZ z hz⟩))⟩
    obtain ⟨S, rfl, hSL⟩ := of_ilist (L := L) fun y hy => h1 y (hperm.mem_iff.mp hy)
    have S3 := S2.trans (same_lay (o := .lst ((ilist S).map fun q => V.ref q.1)) nd2)
    have hSA : AtR (upd (upd (upd H o (.lst [])) u (SetTO P w u (ilist Z))) d (.lst ((ilist S).map fun q => V.ref q.1))) S := fun p hp => S3 _ _ (hA0 p (hSL p hp))
    have hSlen : S.length < 64 := by
      unfold ilist at hlt
      rw [List.length_map] at hlt
      exact hlt
    have hSL2 : S.length ≤ L.length := by
      have k := nodup_le (l := (ilist S).map (·.2)) (m := (ilist L).map (·.2)) hnd fun y hy => by
        obtain ⟨p, hp, rfl⟩ := List.mem_map.mp hy
        unfold ilist at hp
        obtain ⟨z, hz, rfl⟩ := List.mem_map.mp hp
        exact List.mem_map.mpr ⟨_, by unfold ilist; exact List.mem_map.mpr ⟨z, hSL z hz, rfl⟩, rfl⟩
      unfold ilist at k
      rw [List.length_map, List.length_map, List.length_map, List.length_map] at k
      exact k
    have hSm : ∀ r, r ∈ rws S ↔ r ∈ rws L := fun r => by
      constructor
      · intro hr
        obtain ⟨a', ha'⟩ := mem_rws.mp hr
        exact mem_rws.mpr ⟨a', hSL _ ha'⟩
      · intro hr
        obtain ⟨a', ha'⟩ := mem_rws.mp hr
        have k1 := h2 (a', [r.1, r.2]) (by unfold ilist; exact List.mem_map.mpr ⟨(a', r), ha', rfl⟩)
        obtain ⟨y, hy, e⟩ := List.mem_map.mp k1
        have hy2 := hperm.mem_iff.mpr hy
        unfold ilist at hy2
        obtain ⟨z, hz, rfl⟩ := List.mem_map.mp hy2
        injection e with e1 e2
        injection e2 with e2 _
        exact mem_rws.mpr ⟨z.1, by rw [← Prod.ext e1 e2]; exact hz⟩
    have hso : (rws S).Pairwise fun r s => r.1 ≤ s.1 := by
      unfold ilist at hsort
      have := List.pairwise_map.mp hsort
      unfold rws
      refine List.pairwise_map.mpr (List.Pairwise.imp_of_mem (fun {x y} hx hy hxy => ?_) this)
      exact code_first (bd_row (hok x.2 ((hSm x.2).mp (mem_rws.mpr ⟨x.1, hx⟩)))) (bd_row (hok y.2 ((hSm y.2).mp (mem_rws.mpr ⟨y.1, hy⟩)))) hxy
    have hSok : ∀ r ∈ rws S, r.1 ≤ r.2 := fun r hr => okRow_le (hok r ((hSm r).mp hr))
    obtain ⟨hnf, hme⟩ := jfold_ok hSok hso
    rw [refs_ilist] at S3 hSA ⊢
    generalize hH5 : upd (upd (upd H o (.lst [])) u (SetTO P w u (ilist Z))) d (.lst (refs S)) = H5
    rw [hH5] at S3 hSA
    have nuo : o ≠ u := ne_of_none upd_same nu
    have nod : o ≠ d := by
      intro e
      rw [← e, upd_ne nuo, upd_same] at nd2
      cases nd2
    have ho5 : H5 o = some (.lst []) := by rw [← hH5, upd_ne nod, upd_ne nuo, upd_same]
    have hd5 : H5 d = some (.lst (refs S)) := by rw [← hH5, upd_same]
    have two : 2 ≤ sizeLine := by decide
    refine ⟨d, rfl, ⟨_, .inl (.inl hd5)⟩, for_list (K := K) (a := d) (xs := refs S) (fun i σ H' => ∃ f l b, ∃ A : List ARow, σ = [some (.ref a), some (.ref o), f, l, b] ∧ H' o = some (.lst (refs A)) ∧ AtR H' A ∧ rws A = (((rws S).take i).foldl jstep []).reverse ∧ Fre o H5 H' ∧ A.length ≤ i)
      ⟨none, none, none, [], rfl, ho5, (fun _ z => nomatch z), rfl, Fre.refl _ _, Nat.le_refl _⟩ (fun i σ H' _ ⟨_, _, _, _, _, _, _, _, fr, _⟩ => .inl (.inl (fr _ _ hd5 nod.symm))) ?_ ?_⟩
    · rintro i y σ H' hy ⟨f, l, b, A, rfl, hoA, hA, eA, fr, hAl⟩
      obtain ⟨z, hz, hzS, rfl⟩ := refs_get hy
      have hil : i < S.length := (List.getElem?_eq_some_iff.mp hz).1
      have ez : H' z.1 = some (.tup [.int z.2.1, .int z.2.2]) := fr _ _ (hSA z hzS) (ne_of (hSA z hzS) ho5 (by intro q; cases q))
      have e1 : ((rws S).take (i + 1)).foldl jstep [] = jstep (((rws S).take i).foldl jstep []) z.2 := by
        rw [List.take_add_one, rws_get hz, List.foldl_append]
        rfl
      have nAo : ∀ q ∈ A, q.1 ≠ o := fun q hq => ne_of (hA q hq) hoA (by intro w; cases w)
      refine ⟨z.1, _, rfl, .inl (.inl ez), rfl, _, _, rfl, _, _, rfl, rfl, ?_⟩
      -- found != []
      refine ⟨_, rfl, Nat.zero_le _, fun v hv => ?_⟩
      have sv := same_lay (o := .lst []) hv
      have hoV := sv _ _ hoA
      have hAV := hA.same sv
      have frV : Fre o H5 (upd H' v (.lst [])) := fr.trans fun b u e _ => sv b u e
      refine ⟨.list ((rws A).map rowD), .list [], .lst (.inl (.inl hoV)) (dp_rows hAV), .lst (.inl (.inl upd_same)) .nil, shp_lst _, rfl, _, rfl, ?_⟩
      generalize hHv : upd H' v (.lst []) = Hv
      rw [hHv] at hoV hAV frV
      have nAv : ∀ q ∈ A, q.1 ≠ o := nAo
      have alen : (refs A).length < sizeLine := small1000 (by rw [refs_len]; omega)
      have app : ∀ (b' : Option V) (_ : jstep (((rws S).take i).foldl jstep []) z.2 = z.2 :: ((rws S).take i).foldl jstep []) (T : Addr), Hv T = none →
          ∃ f' l' b'', ∃ A' : List ARow, [some (V.ref a), some (.ref o), some (.int z.2.1), some (.int z.2.2), b'] = [some (.ref a), some (.ref o), f', l', b''] ∧ (upd (upd Hv T (.tup [.int z.2.1, .int z.2.2])) o (.lst (refs A ++ [.ref T]))) o = some (.lst (refs A')) ∧ AtR (upd (upd Hv T (.tup [.int z.2.1, .int z.2.2])) o (.lst (refs A ++ [.ref T]))) A' ∧
            rws A' = (((rws S).take (i + 1)).foldl jstep []).reverse ∧ Fre o H5 (upd (upd Hv T (.tup [.int z.2.1, .int z.2.2])) o (.lst (refs A ++ [.ref T]))) ∧ A'.length ≤ i + 1 := by
        intro b' hj Tn hT
        have s4 := same_lay (o := .tup [.int z.2.1, .int z.2.2]) hT
        have noT : Tn ≠ o := by
          intro e
          rw [e, hoV] at hT
          cases hT
        refine ⟨_, _, _, A ++ [(Tn, z.2)], rfl, by rw [upd_same, refs_snoc], ?_, ?_, (frV.trans (fun b u e _ => s4 b u e)).trans Fre.put, by rw [List.length_append]; exact Nat.succ_le_succ hAl⟩
        · intro q hq
          rcases List.mem_append.mp hq with k | k
          · rw [upd_ne (nAo q k)]; exact s4 _ _ (hAV q k)
          · rw [List.mem_singleton.mp k, upd_ne noT, upd_same]
        · rw [rws_snoc, eA, e1, hj, List.reverse_cons]
      cases hacc : ((rws S).take i).foldl jstep [] with
      | nil =>
        have eA0 : A = [] := by
          rw [hacc] at eA
          exact List.map_eq_nil_iff.mp eA
        refine ite2 (fun k => ?_) (fun _ => iteF ?_)
        · rw [eA0] at k
          exact absurd k (by decide)
        · refine ⟨_, rfl, .inl ⟨rfl, _, .inl (.inl hoV)⟩, _, rfl, _, rfl, two, fun Tn hT => ?_⟩
          refine ⟨o, refs A, _, rfl, rfl, same_lay hT _ _ hoV, alen, ?_⟩
          exact app b (by rw [hacc]; rfl) Tn hT
      | cons q0 t0 =>
        have eA1 : rws A = t0.reverse ++ [q0] := by rw [eA, hacc, List.reverse_cons]
        obtain ⟨B', A2, rfl, eB, eA2⟩ := List.map_eq_append_iff.mp eA1
        obtain ⟨⟨aq, q1⟩, A3, rfl, eq1, eA3⟩ := List.map_eq_cons_iff.mp eA2
        obtain rfl := List.map_eq_nil_iff.mp eA3
        obtain rfl : q1 = q0 := eq1
        have haq : Hv aq = some (.tup [.int q1.1, .int q1.2]) := hAV (aq, q1) (List.mem_append_right _ (List.mem_singleton.mpr rfl))
        have hoW := hoV
        rw [refs_snoc] at hoV
        have hSo : SqL K Hv o (refs B' ++ [.ref aq]) := .inl (.inl hoV)
        have hSq : SqT K Hv aq [.int q1.1, .int q1.2] := .inl (.inl haq)
        have g0 : atI [V.int q1.1, .int q1.2] 0 = some (.int q1.1) := atI_nat (j := 0) rfl
        have g1 : atI [V.int q1.1, .int q1.2] 1 = some (.int q1.2) := atI_nat (j := 1) rfl
        have gl : atI (refs B' ++ [V.ref aq]) (-1) = some (.ref aq) := atI_last _ _
        refine ite2 (fun _ => ?_) (fun k => ?_)
        · refine ⟨_, rfl, _, rfl, 1, rfl, o, _, -1, _, rfl, rfl, hSo, gl, aq, _, 1, _, rfl, rfl, hSq, g1, _, _, rfl, rfl, _, _, rfl, rfl, _, rfl, ite2 (fun c => ?_) (fun c => ?_)⟩
          · have hc : z.2.1 ≤ q1.2 + 1 := of_decide_eq_true c
            -- before = found.pop()
            refine ⟨_, rfl, .inl ⟨rfl, _, .inl (.inl hoV)⟩, o, _, .ref aq, rfl, rfl, hoV, ?_, ?_⟩
            · rw [List.length_append, List.getElem?_append_right (by simp)]
              simp
            rw [List.dropLast_concat]
            have nqo : aq ≠ o := ne_of haq hoV (by intro w; cases w)
            have haq2 : (upd Hv o (.lst (refs B'))) aq = some (.tup [.int q1.1, .int q1.2]) := by rw [upd_ne nqo]; exact haq
            have hSq2 : SqT K (upd Hv o (.lst (refs B'))) aq [.int q1.1, .int q1.2] := .inl (.inl haq2)
            refine ⟨_, rfl, .inl ⟨rfl, _, .inl (.inl upd_same)⟩, _, rfl, aq, _, 0, _, rfl, rfl, hSq2, g0, _, rfl, aq, _, 1, _, rfl, rfl, hSq2, g1, .inl ⟨_, rfl, _, rfl, .inl ⟨_, rfl, _, _, rfl, two, fun Tn hT => ?_⟩⟩⟩
            have s4 := same_lay (o := .tup [.int q1.1, .int (if z.2.2 > q1.2 then z.2.2 else q1.2)]) hT
            have noT : Tn ≠ o := by
              intro e
              rw [e, upd_same] at hT
              cases hT
            refine ⟨o, _, _, rfl, rfl, s4 _ _ upd_same, small1000 (by rw [refs_len]; rw [List.length_append] at hAl; omega), ?_⟩
            refine ⟨_, _, _, B' ++ [(Tn, (q1.1, if z.2.2 > q1.2 then z.2.2 else q1.2))], rfl, by rw [upd_same, refs_snoc], ?_, ?_, ((frV.trans Fre.put).trans (fun b u e _ => s4 b u e)).trans Fre.put, ?_⟩
            · intro q hq
              rcases List.mem_append.mp hq with k | k
              · have nq := nAo q (List.mem_append_left _ k)
                rw [upd_ne nq]
                refine s4 _ _ ?_
                rw [upd_ne nq]
                exact hAV q (List.mem_append_left _ k)
              · rw [List.mem_singleton.mp k, upd_ne noT, upd_same]
            · rw [rws_snoc, e1, hacc]
              show rws B' ++ [(q1.1, if z.2.2 > q1.2 then z.2.2 else q1.2)] = (if z.2.1 ≤ q1.2 + 1 then (q1.1, if z.2.2 > q1.2 then z.2.2 else q1.2) :: t0 else z.2 :: q1 :: t0).reverse
              rw [if_pos hc, List.reverse_cons]
              exact congrArg (· ++ [(q1.1, if z.2.2 > q1.2 then z.2.2 else q1.2)]) eB
            · rw [List.length_append] at hAl ⊢
              exact Nat.le_succ_of_le hAl
          · have hc : ¬ z.2.1 ≤ q1.2 + 1 := fun w => c (decide_eq_true w)
            refine ⟨_, rfl, .inl ⟨rfl, _, .inl (.inl hoV)⟩, _, rfl, _, rfl, two, fun Tn hT => ?_⟩
            refine ⟨o, _, _, rfl, rfl, same_lay hT _ _ hoV, by rw [← refs_snoc]; exact alen, ?_⟩
            rw [← refs_snoc]
            refine app b ?_ Tn hT
            rw [hacc]
            show (if z.2.1 ≤ q1.2 + 1 then (q1.1, if z.2.2 > q1.2 then z.2.2 else q1.2) :: t0 else z.2 :: q1 :: t0) = z.2 :: q1 :: t0
            rw [if_neg hc]
        · exfalso
          apply k
          show (!PyData.eqvAll ((rws (B' ++ [(aq, q1)])).map rowD) []) = true
          rw [rws_snoc, List.map_append]
          cases (rws B').map rowD <;> rfl
    · rintro σ H' ⟨f, l, b, A, rfl, hoA, hA, eA, fr, hAl⟩
      rw [refs_len, List.take_of_length_le (by rw [rws_len]; exact Nat.le_refl _)] at eA
      have eN : rws A = (jfold (rws S)).reverse := eA
      have s6 : Same H H' := fun b u e => fr b u (S3 b u e) (ne_of_none e no)
      refine ⟨_, rfl, q o A H' s6 no hoA hA (by rw [eN]; exact hnf) (fun x => ?_) ?_ ?_⟩
      · rw [eN, hme x]
        exact mem_same hSm x
      · rw [refs_len] at hAl
        omega
      · rw [refs_len] at hAl
        omega
end
end OR

namespace OR
open PySem PySem.Spec PyProof.Rows L2
/-! ### own ==, !=, bool -/
section
variable {prog : Program} {w : World} {A : Around} {E : Value → Shared → Prop} {s : Shared} {K : PySem.W.Frag} {x C L f : Addr} {h₀ : Heap} {m : Str → Option Value} {ox : Obj} {od : Option Obj} {b tb : Value}
theorem ifBound_ne {M : Model} {args : List Value} {Q : Option Value → Shared → Prop} (X : K.In s.heap) (I : PySem.W.InstAt s.heap x ox C od) (hs : PySem.W.findIn K (.ref C) "__ne__" = some (some (.builtin "object.__ne__")))
    (h : wpAny M A (call (.builtin "object.__ne__") (.ref x :: args)) (fun v => Q (some v)) E s) : wpAny M A (callSpecialIfBound? (.ref x) "__ne__" args) Q E s := by
  simp only [callSpecialIfBound?, bindSpecialIfBound?]
  refine wpAny_holding (wpAny_bind (wpAny_bind (wpAny_bind (I.type.here ((PySem.W.looks_findIn X hs).here ?_)))))
  simp only [PySem.F.cmp_object.ne.bind]
  refine wpAny_bind (wpAny_askSetting (wpAny_ite ?_))
  have fin : wpAny M A (call (.builtin "object.__ne__") ([.ref x] ++ args) >>= fun v => pure (some v)) Q E s := wpAny_bind (wpAny_mono h (fun v s' h' => wpAny_pure h') fun _ _ h' => h')
  split
  · exact wpAny_bind (wpAny_pure (wpAny_pure fin))
  · exact wpAny_tryCatch (wpAny_bind (wpAny_pure (wpAny_pure fin)))
theorem check_ne {M : Model} {Q : Unit → Shared → Prop} (X : K.In s.heap) (I : PySem.W.InstAt s.heap x ox C od) (hm : PySem.W.mroIn K C (.type "object") = some true) (hq : Q () s) :
    wpAny M A (PySem.checkBuiltinCall "object.__ne__" ⟨[.ref x, b], []⟩) Q E s := by
  have hsig : ∃ sig, Manifest.signature? "object.__ne__" = sig := ⟨_, rfl⟩
  obtain ⟨sig, hsig⟩ := hsig
  have ha := PySem.F.cmpArgs_ne (.ref x) b
  unfold argsOk at ha
  simp only [PySem.checkBuiltinCall, PySem.F.cmpKind_ne, PySem.F.cmpSplit_ne]
  refine wpAny_bind (m := PySem.isInstance _ _) ?_
  unfold PySem.isInstance
  refine wpAny_bind (I.type.here ((PySem.W.looks_mroIn X hm).here ?_))
  rw [hsig] at ha ⊢
  cases sig with
  | none => exact wpAny_pure hq
  | some sg =>
    have h2 : Bind.checkArgs "object.__ne__" sg ⟨[.ref x, b], []⟩ = pure () := ha
    show wpAny M A (Bind.checkArgs "object.__ne__" sg ⟨[.ref x, b], []⟩) Q E _
    rw [h2]; exact wpAny_pure hq
/-- x != b by the own == of x -/
theorem ne_K {Q : Value → Shared → Prop} (hu : A.units + 1 < cLine) (F : PyProof.Rows.Fr h₀ L s.heap m) (X₀ : K.In h₀) (I : PySem.W.InstAt s.heap x ox C od) (hb : PySem.W.Looks (model prog w) s.heap (typeOf b) tb) (hn : PySem.W.notFirst K C tb = true)
    (h1 : PySem.W.findIn K (.ref C) "__ne__" = some (some (.builtin "object.__ne__"))) (hm : PySem.W.mroIn K C (.type "object") = some true) (hs : PySem.W.findIn K (.ref C) "__eq__" = some (some (.ref f))) (hf : PySem.W.isFn K (.ref f) = true)
    (h : wpAny (model prog w) A.in1 (call (.ref f) [.ref x, b]) (fun v s' => ∃ k, v = .bool k ∧ Q (.bool (!k)) s') E s) : wpAny (model prog w) A (richCompare .NotEq (.ref x) b) Q E s := by
  have X := X₀.keeps F.keep
  have entry : wpAny (model prog w) A.in1 (Builtin.«object.__ne__» ⟨[.ref x, b], []⟩) (fun r s' => ∃ k, r = .done (.ret (.bool (!k))) ∧ Q (.bool (!k)) s') E s := by
    unfold Builtin.«object.__ne__»
    refine wpAny_bind (m := PySem.slotArgs "__ne__" 1 _) (wpAny_pure ?_)
    refine wpAny_bind (wpAny_cRoomFor hu ?_)
    refine wpAny_bind (m := callSpecialIfBound? (.ref x) (Str.ofString "__eq__") [b]) (PySem.W.ifBound_K X I hs hf (wpAny_mono h (fun r s' hr => ?_) fun _ _ e => e))
    obtain ⟨k, rfl, hq⟩ := hr
    refine wpAny_bind (m := truthy (.bool k)) (wpAny_truthy_bool ?_)
    exact wpAny_pure ⟨k, rfl, hq⟩
  have one : wpAny (model prog w) A (tryCompare (.ref x) "__ne__" b) (fun r s' => ∃ v, r = some v ∧ Q v s') E s := by
    unfold tryCompare
    refine wpAny_bind (ifBound_ne X I h1 (wpAny_call (codeAny_call_builtin PySem.F.cmp_object.ne.plain PySem.F.cmpEntry_ne (check_ne X I hm (wpAny_mono entry (fun r s' z => ?_) fun _ _ e => e)))))
    obtain ⟨k, rfl, hq⟩ := z
    exact wpAny_pure ⟨_, rfl, hq⟩
  unfold richCompare
  simp only [oneThing_ref]
  refine wpAny_holding (wpAny_bind (wpAny_cRoomFor (by omega) ?_))
  refine wpAny_bind (I.type.here (wpAny_bind (hb.here ?_)))
  split
  · rename_i q
    have e : PySem.W.subIn K tb (.ref C) = some false := by
      rcases Bool.or_eq_true_iff.mp hn with e | e
      · rw [beq_iff_eq.mp e] at q; simp at q
      · exact beq_iff_eq.mp e
    refine wpAny_bind ((PySem.W.looks_subIn X e).here ?_)
    simp only [Bool.false_eq_true, if_false]
    refine wpAny_bind (wpAny_mono one (fun r s' z => ?_) fun _ _ e => e)
    obtain ⟨v, rfl, hq⟩ := z
    exact wpAny_pure hq
  · refine wpAny_bind (wpAny_pure ?_)
    simp only [Bool.false_eq_true, if_false]
    refine wpAny_bind (wpAny_mono one (fun r s' z => ?_) fun _ _ e => e)
    obtain ⟨v, rfl, hq⟩ := z
    exact wpAny_pure hq
theorem bool_truth {v : Value} {Q : Value → Shared → Prop} (h : wpAny (model prog w) A.in1.in1 (truthy v) (fun b s' => Q (.bool b) s') E s) : wpAny (model prog w) A (call (.type "bool") [v]) Q E s := by
  refine PySem.callType_codes (T := "bool") (Bi := Builtin.«object.__init__») (Q₁ := fun r s₁ => ∃ b, r = Value.bool b ∧ Q r s₁) PySem.F.called_bool (PySem.F.typeCall_bool_1 _) PySem.F.entry_object_init ?_ ?_
  · refine codeAny_of_tree ?_
    show wpAny _ A.in1.in1 (do checkBuiltinCall "bool.__new__" ⟨[.type "bool", v], []⟩; again (.builtin "bool.__new__" ⟨[.type "bool", v], []⟩)) _ _ s
    refine wpAny_bind (wpAny_of_eq (PySem.F.newCall_bool_1 _) (wpAny_pure ⟨plainId_quiet (by decide +kernel) _, codeAny_builtin PySem.F.entry_bool_new ?_⟩))
    rw [Around.under_plainId (by decide +kernel) _]
    unfold Builtin.«bool.__new__»
    refine wpAny_bind (wpAny_of_eq (a := true) (by first | rfl | kernel_rfl | (unfold isType; rw [isSubtype_type]; kernel_rfl)) ?_)
    refine PySem.W.KFB.if_not rfl ?_
    refine wpAny_bind (wpAny_of_eq (a := true) PySem.F.conv_sub_bool ?_)
    refine PySem.W.KFB.if_not rfl ?_
    refine wpAny_bind (wpAny_of_eq (a := [v]) rfl ?_)
    refine wpAny_bind (wpAny_mono h (fun b s' hq => ?_) fun _ _ e => e)
    exact wpAny_pure ⟨b, rfl, hq⟩
  · rintro obj s₁ ⟨b, rfl, hq⟩
    exact ⟨rfl, PySem.F.args_object_init_2 _ _, object_init_meets PySem.F.called_bool.init.lookup PySem.F.called_bool.made (by decide) prog w A.in1 _ s₁ ⟨rfl, rfl, hq⟩⟩
end
section
variable {X : Cx} {n : Nat} {C : Addr} {sp : Sp}
/-- what stands on the right: an instance of the class, or a value of a type that is no class below -/
def RightOf (K : PySem.W.Frag) (C : Addr) (H : Hp) (y : V) : Prop := ∃ tb, TyX K H y tb ∧ PySem.W.notFirst K C tb = true
/-- x == y by the own == of x -/
def rEqO (K : PySem.W.Frag) (C : Addr) (sp : Sp) : R2 := fun x y H Q => ∃ a dx fs, x = .ref a ∧ H a = some (.ins C dx fs) ∧ RightOf K C H y ∧ sp [x, y] H Q E0
theorem op_eqO (K : PySem.W.Frag) (hK : X.K = K) (m : Md X.prog X.w X.K X.mg X.base n C "__eq__" sp) (hr : Room n X.A) : OpR X (compareOp .Eq) (rEqO K C sp) := by
  subst hK
  intro pins s σ H x y v u Q I rx ry h
  obtain ⟨f, F, hs, hf, _⟩ := m.ex
  obtain ⟨a, dx, fs, rfl, ha, ⟨tb, hy, hn⟩, q⟩ := h
  cases (show v = Value.ref a from rx)
  obtain ⟨mA, J, _⟩ := ins_get I.hok ha
  obtain ⟨od, J, _⟩ := J.look
  obtain ⟨Pk, hk, hp, _⟩ := kit_of I ry hy
  obtain ⟨m, hF⟩ := I.fr
  refine PySem.W.cmp_K (op := .Eq) (tb := tb) hr.units0 hF I.ok.mod.kin J (hk.ty _ _ I.kIn hp) hn hs hf ?_
  refine wpAny_mono (wpAny_call (run_fnR (us := [.ref a, u]) (vs := [.ref a, y]) F hr pass0 I (.cons rfl (.cons ry .nil)) q)) (fun w s' z => ?_) fun _ _ x => x
  obtain ⟨z', H', I', rz, qz⟩ := z
  exact SlX.cmpback rz ⟨z', H', I', rz, qz⟩
/-- x != y by the own == of x -/
def rNeO (K : PySem.W.Frag) (C : Addr) (sp : Sp) : R2 := fun x y H Q => ∃ a dx fs, x = .ref a ∧ H a = some (.ins C dx fs) ∧ RightOf K C H y ∧ sp [x, y] H (fun z H' => ∃ k, z = .bl k ∧ Q (.bl (!k)) H') E0
theorem op_neO (K : PySem.W.Frag) (hK : X.K = K) (m : Md X.prog X.w X.K X.mg X.base n C "__eq__" sp) (h1 : PySem.W.findIn X.K (.ref C) "__ne__" = some (some (.builtin "object.__ne__"))) (hm : PySem.W.mroIn X.K C (.type "object") = some true) (hr : Room (n + 1) X.A) : OpR X (compareOp .NotEq) (rNeO K C sp) := by
  subst hK
  intro pins s σ H x y v u Q I rx ry h
  obtain ⟨f, F, hs, hf, _⟩ := m.ex
  obtain ⟨a, dx, fs, rfl, ha, ⟨tb, hy, hn⟩, q⟩ := h
  cases (show v = Value.ref a from rx)
  obtain ⟨mA, J, _⟩ := ins_get I.hok ha
  obtain ⟨od, J, _⟩ := J.look
  obtain ⟨Pk, hk, hp, _⟩ := kit_of I ry hy
  obtain ⟨m, hF⟩ := I.fr
  refine ne_K (tb := tb) (by have := hr.units; omega) hF I.ok.mod.kin J (hk.ty _ _ I.kIn hp) hn h1 hm hs hf ?_
  refine wpAny_mono (wpAny_call (SlX.run_at (us := [.ref a, u]) (ws := [.ref a, y]) F hr.in1 I.env0.in1 pass0 I (.cons rfl (.cons ry .nil)) q)) (fun w s' z => ?_) fun _ _ x => x
  obtain ⟨z', H', I', rz, k, ek, qz⟩ := z
  subst ek
  cases (show w = Value.bool k from rz)
  exact ⟨k, rfl, .bl (!k), H', I', rfl, qz⟩
/-- the truth of x by its own bool -/
def rTruO (C : Addr) (sp : Sp) : V → Hp → (Bool → Hp → Prop) → Prop := fun x H Q => ∃ a dx fs, x = .ref a ∧ H a = some (.ins C dx fs) ∧ sp [x] H (fun z H' => ∃ k, z = .bl k ∧ Q k H') E0
theorem tru_own (m : Md X.prog X.w X.K X.mg X.base n C "__bool__" sp) (hr : Room n X.A) : TruR X (rTruO C sp) := by
  intro pins s σ H x v Q I rx h
  obtain ⟨f, F, hs, hf, _⟩ := m.ex
  obtain ⟨a, dx, fs, rfl, ha, q⟩ := h
  cases (show v = Value.ref a from rx)
  obtain ⟨mA, J, _⟩ := ins_get I.hok ha
  obtain ⟨od, J, _⟩ := J.look
  obtain ⟨m, hF⟩ := I.fr
  refine PySem.W.truthy_K hF I.ok.mod.kin J hs hf ?_
  refine wpAny_mono (wpAny_call (run_fnR (us := [.ref a]) (vs := [.ref a]) F hr pass0 I (.cons rfl .nil) q)) (fun w s' z => ?_) fun _ _ x => x
  obtain ⟨z', H', I', rz, k, ek, qz⟩ := z
  subst ek
  cases (show w = Value.bool k from rz)
  exact ⟨H', I', qz⟩
/-- bool(x) by its own bool -/
def rBoolO (C : Addr) (sp : Sp) : List V → Hp → VK → Prop := fun xs H Q => ∃ a dx fs, xs = [.ref a] ∧ H a = some (.ins C dx fs) ∧ sp xs H (fun z H' => ∃ k, z = .bl k ∧ Q z H') E0
theorem call_boolO (m : Md X.prog X.w X.K X.mg X.base n C "__bool__" sp) (hr : Room (n + 2) X.A) : CallR X (.type "bool") (rBoolO C sp) := by
  intro pins s σ H xs us Q I r h
  obtain ⟨f, F, hs, hf, _⟩ := m.ex
  obtain ⟨a, dx, fs, rfl, ha, q⟩ := h
  obtain ⟨u, rfl, ru⟩ := r.one
  cases (show u = Value.ref a from ru)
  obtain ⟨mA, J, _⟩ := ins_get I.hok ha
  obtain ⟨od, J, _⟩ := J.look
  obtain ⟨m, hF⟩ := I.fr
  have hr2 : Room n X.A.in1.in1 := (show Room (n + 1) X.A.in1 from Room.in1 hr).in1
  refine bool_truth (PySem.W.truthy_K hF I.ok.mod.kin J hs hf ?_)
  refine wpAny_mono (wpAny_call (SlX.run_at (us := [.ref a]) (ws := [.ref a]) F hr2 I.env0.in1.in1 pass0 I (.cons rfl .nil) q)) (fun w s' z => ?_) fun _ _ x => x
  obtain ⟨z', H', I', rz, k, ek, qz⟩ := z
  subst ek
  cases (show w = Value.bool k from rz)
  exact ⟨.bl k, H', I', rfl, qz⟩
/-- bool(a tuple) -/
theorem call_boolT (K : PySem.W.Frag) (hK : X.K = K) : CallR X (.type "bool") (fun xs H Q => ∃ (a : Addr) (zs : List V), xs = [.ref a] ∧ SqT K H a zs ∧ Q (.bl (!zs.isEmpty)) H) := by
  subst hK
  intro pins s σ H xs us Q I r h
  obtain ⟨a, zs, rfl, hq, q⟩ := h
  obtain rfl := Vals.ref1 r
  obtain ⟨its, rv, pl, hz⟩ := I.tuple hq
  have hl := line63
  have hlen := rv.length
  exact bool_truth (truthy_tuple pl (by simp only [List.size_toArray]; omega) ⟨.bl (!zs.isEmpty), H, I.tok _, by rw [isEmpty_of rv]; rfl, q⟩)
end
end OR

namespace OR
open PySem PySem.Spec PyProof.Rows L2
/-! ### Places: made, compared, its truth -/
structure PMk' (P : Program) (w : World) (K : PySem.W.Frag) (mg : Str → Option Value) (base : Heap) (C : Addr) : Prop where
  T : PTxt K mg C
  made : ∃ f fd t0, Mk K C f ∧ FnOk P w K mg base CX0 4 f fd ["self", "stretches"] (spPlInit K C) ∧ Binds K fd ["self", "stretches"] [] ∧ Binds K fd ["self", "stretches"] [.ref t0] ∧ ∀ H : Hp, SqT K H t0 []
def tMkP (K : PySem.W.Frag) (C : Addr) (t : TA) : TE := fun σ H Q => t σ H fun vs H1 => ∃ (a : Addr) (L : List ARow), vs = [.ref a] ∧ (SqL K H1 a (refs L) ∨ SqT K H1 a (refs L)) ∧ L.length ≤ 1000 ∧ PairsAt H1 L ∧ (∀ r ∈ rws L, okRow r = true) ∧
  ∀ (x : Addr) (l : List Row) (H' : Hp), H1 x = none → IsP C H' x l → (∀ z, mem l z ↔ mem (rws L) z) → l.length ≤ L.length → Same H1 H' → Q (.ref x) H'
def tMkP0 (C : Addr) : TE := fun σ H Q => ∀ (x : Addr) (H' : Hp), H x = none → IsP C H' x [] → Same H H' → Q (.ref x) H'
theorem made_same {C x dx : Addr} {H H' : Hp} (nx : H x = none) (ndx : H dx = none) (hs : ∀ c o, (upd (upd H dx (.own x)) x (.ins C dx [])) c = some o → c ≠ x → H' c = some o) : Same H H' := fun c o e => by
  have ncx : c ≠ x := ne_of_none e nx
  refine hs c o ?_ ncx
  rw [upd_ne ncx, upd_ne (ne_of_none e ndx)]
  exact e
theorem pe_mkP {X : Cx} (K : PySem.W.Frag) (hK : X.K = K) {C : Addr} {j : Nat} {e : Expr} {es : List Expr} {t : TA} {p pos : Pos} (M : PMk' X.prog X.w X.K X.mg X.base C) (hr : Room j X.A) (hj : 5 ≤ j) (hg : Gl X "Places") (ha : PA X (e :: es) t)
    (he : starEach (e :: es) X.env = (false, eval e X.env) :: starEach es X.env := by rfl) (hpl : (backTo pos (starEach es X.env)).any (·.1) = false := by rfl) : PE X (.Call (.Name "Places" p) (e :: es) [] pos) (tMkP K C t) := by
  subst hK
  obtain ⟨f, fd, t0, mk, F, hb, _⟩ := M.made
  refine ⟨fun pins s σ H Q I h => ?_⟩
  refine wpAny_Call_Name_kw (ld_glob I hg M.T.mgC ?_ (by decide))
  refine PySem.W.callWith_K (h₀ := X.base) I.ok.mod.kin mk.kp (thn (ha.run pos pins s σ H _ I h) fun us s1 ⟨vs, H1, I1, r, q⟩ => ⟨I1.kIn, ?_⟩) he hpl
  obtain ⟨a, L, rfl, hS, hlen, hP, hok, q⟩ := q
  refine run_make mk F (hr.mono hj) hb .nil pass0 I1 r fun x dx nx ndx nex => ?_
  have S1 : Same H1 (upd (upd H1 dx (.own x)) x (.ins C dx [])) := fun c o e => by rw [upd_ne (ne_of_none e nx), upd_ne (ne_of_none e ndx)]; exact e
  exact ⟨x, dx, a, L, rfl, upd_same, hS.elim (fun e => .inl (S1.seq e)) (fun e => .inr (sameT S1 e)), hlen, hP.same S1, hok, fun l H' hs hp hme hle => ⟨rfl, q x l H' nx hp hme hle (made_same nx ndx hs)⟩⟩
theorem pe_mkP0 {X : Cx} {C : Addr} {j : Nat} {p pos : Pos} (M : PMk' X.prog X.w X.K X.mg X.base C) (hr : Room j X.A) (hj : 5 ≤ j) (hg : Gl X "Places") : PE X (.Call (.Name "Places" p) [] [] pos) (tMkP0 C) := by
  obtain ⟨f, fd, t0, mk, F, _, hb, ht⟩ := M.made
  refine ⟨fun pins s σ H Q I q => ?_⟩
  refine wpAny_Call_Name_kw (ld_glob I hg M.T.mgC ?_ (by decide))
  refine PySem.W.callWith_K0 I.kIn mk.kp (run_make (us := []) (vs := []) (dvs := [.ref t0]) mk F (hr.mono hj) hb (.cons rfl .nil) pass0 I .nil fun x dx nx ndx nex => ?_)
  refine ⟨x, dx, t0, [], rfl, upd_same, .inr (ht _), Nat.zero_le _, (fun _ z => nomatch z), (fun _ z => nomatch z), fun l H' hs hp hme _ => ⟨rfl, ?_⟩⟩
  have el : l = [] := Nf.unique hp.nf Nf.nil hme
  subst el
  exact q x H' nx hp (made_same nx ndx hs)
def spPlEq (K : PySem.W.Frag) (C : Addr) : Sp := fun vs H Q _ => ∃ x l y, vs = [.ref x, y] ∧ IsP C H x l ∧ ((∃ b m, y = .ref b ∧ IsP C H b m ∧ Q (.bl (decide (l = m))) H) ∨ (∃ T : String, TyX K H y (.type T) ∧ PySem.W.kitOne K (.type T) (.ref C) = some false ∧ Q (.bl false) H))
def spPlBool (C : Addr) : Sp := fun vs H Q _ => ∃ x l, vs = [.ref x] ∧ IsP C H x l ∧ Q (.bl (!l.isEmpty)) H
section
variable {P : Program} {w : World} {K : PySem.W.Frag} {mg : Str → Option Value} {base : Heap}
theorem tyP {C : Addr} (T : PTxt K mg C) {H : Hp} {x dx : Addr} {fs : List (Str × V)} (hx : H x = some (.ins C dx fs)) : TyX K H (.ref x) (.ref C) := .base (.ins hx T.cl T.isi.ca T.isi.cn T.isi.ct T.isi.cm)
theorem scEq : FnScope ["self", "other"] ["self", "other"] (defScope sPlEq) := ⟨rfl, rfl, rfl, by decide +kernel, rfl, by decide +kernel, by decide +kernel⟩
theorem ok_pleq {f C : Addr} {fd : FuncData} (F : Fun K "__eq__" "Places.__eq__" sPlEq f fd) (T : PTxt K mg C) : FnOk P w K mg base CX0 1 f fd ["self", "other"] (spPlEq K C) := by
  refine F.ok scEq (fun vs H Q E h => ?_) (fun cdv A outer s H vs Q E hr h => ?_)
  · obtain ⟨x, l, y, rfl, _⟩ := h
    rfl
  · obtain ⟨x, l, y, rfl, ⟨_, dx, t, fi, b, M, hx, ht, hM, rfl, _⟩, h⟩ := h
    have hu64 : (A.deeper (envOfC "Places.__eq__" (defScope sPlEq) s.heap.objs.size f cdv)).units + 64 < cLine := hr.units
    refine ⟨_, pss_one (ps_ret (pe_and (pe_callB call_isi (by rfl) T.zIsi bt_isi (pa_cons (pv 1) (pa_cons (pe_glob (v := .ref C) (by rfl) T.mgC rfl) pa_nil)))
      (pe_one (pe_cmpR (op_eqD hu64) (pe_fld (pv 0) rfl) (pe_fld (pv 1) rfl) (nomark _))))), ?_⟩
    rcases h with ⟨y, m, rfl, ⟨_, dy, t2, f2, b2, M2, hy, ht2, hM2, rfl, _⟩, q⟩ | ⟨ty, hT, hk, q⟩
    · refine ⟨_, rfl, .ref y, .ref C, _, _, true, rfl, .own C, tyP T hy, T.kPP, true, rfl, iteT ?_⟩
      refine ⟨_, rfl, x, C, dx, _, _, rfl, hx, T.cl, T.nS, pFl_s _ _ _, _, rfl, y, C, dy, _, _, rfl, hy, T.cl, T.nS, pFl_s _ _ _, .tuple ((rws M).map rowD), .tuple ((rws M2).map rowD), .tup (.inl (.inl ht)) (dp_rows hM), .tup (.inl (.inl ht2)) (dp_rows hM2), shp_tup _, shp_tup _, ?_⟩
      have e : PyData.eqv (.tuple ((rws M).map rowD)) (.tuple ((rws M2).map rowD)) = decide (rws M = rws M2) := eqv_rows _ _
      rw [e]
      exact q
    · exact ⟨_, rfl, y, .ref C, _, _, false, rfl, .own C, hT, hk, false, rfl, iteF q⟩
theorem scBo : FnScope ["self"] ["self"] (defScope sPlBool) := ⟨rfl, rfl, rfl, by decide +kernel, rfl, by decide +kernel, by decide +kernel⟩
theorem ok_plbool {f C : Addr} {fd : FuncData} (F : Fun K "__bool__" "Places.__bool__" sPlBool f fd) (T : PTxt K mg C) : FnOk P w K mg base CX0 1 f fd ["self"] (spPlBool C) := by
  refine F.ok scBo (fun vs H Q E h => ?_) (fun cdv A outer s H vs Q E hr h => ?_)
  · obtain ⟨x, l, rfl, _⟩ := h
    rfl
  · obtain ⟨x, l, rfl, ⟨_, dx, t, fi, b, M, hx, ht, hM, rfl, _⟩, q⟩ := h
    refine ⟨_, pss_one (ps_ret (pe_callTy (call_boolT K rfl) (by rfl) T.zBool bt_bool (pa_cons (pe_fld (pv 0) rfl) pa_nil))), ?_⟩
    refine ⟨_, rfl, x, C, dx, _, _, rfl, hx, T.cl, T.nS, pFl_s _ _ _, t, refs M, rfl, .inl (.inl ht), ?_⟩
    have e : (refs M).isEmpty = (rws M).isEmpty := by cases M <;> rfl
    rw [e]
    exact q
end
end OR

namespace OR
open PySem PySem.Spec PyProof.Rows L2
/-! ### maths of what rows have in common, and of their gaps -/
def mx (x y : Int) : Int := if y > x then y else x
def mn (x y : Int) : Int := if y < x then y else x
theorem mx_ok (x y : Int) : x ≤ mx x y ∧ y ≤ mx x y ∧ (mx x y = x ∨ mx x y = y) := by
  unfold mx
  split <;> omega
theorem mn_ok (x y : Int) : mn x y ≤ x ∧ mn x y ≤ y ∧ (mn x y = x ∨ mn x y = y) := by
  unfold mn
  split <;> omega
def com1 (r s : Row) : List Row := if mx r.1 s.1 ≤ mn r.2 s.2 then [(mx r.1 s.1, mn r.2 s.2)] else []
def com : List Row → List Row → List Row
  | [], _ => []
  | _ :: _, [] => []
  | r :: a, s :: b => com1 r s ++ (if r.2 < s.2 then com a (s :: b) else com (r :: a) b)
termination_by a b => a.length + b.length
theorem com_nil (b : List Row) : com [] b = [] := by rw [com]
theorem com_nil2 : ∀ a : List Row, com a [] = []
  | [] => by rw [com]
  | _ :: _ => by rw [com]
theorem com_cons (r s : Row) (a b : List Row) : com (r :: a) (s :: b) = com1 r s ++ (if r.2 < s.2 then com a (s :: b) else com (r :: a) b) := by rw [com]
theorem mem_one (r : Row) (z : Int) : mem [r] z ↔ (r.1 ≤ z ∧ z ≤ r.2) := by
  rw [mem_cons]
  exact ⟨fun k => k.elim id fun h => absurd h (mem_nil _), .inl⟩
theorem com1_mem (r s : Row) (z : Int) : mem (com1 r s) z ↔ ((r.1 ≤ z ∧ z ≤ r.2) ∧ (s.1 ≤ z ∧ z ≤ s.2)) := by
  have h1 := mx_ok r.1 s.1
  have h2 := mn_ok r.2 s.2
  unfold com1
  split
  · rw [mem_one]
    dsimp only
    omega
  · constructor
    · exact fun h => absurd h (mem_nil _)
    · omega
theorem com_mem (a b : List Row) (ha : Nf a) (hb : Nf b) (z : Int) : mem (com a b) z ↔ mem a z ∧ mem b z := by
  match a, b, ha, hb with
  | [], b, _, _ =>
    rw [com_nil]
    exact ⟨fun h => absurd h (mem_nil _), fun h => absurd h.1 (mem_nil _)⟩
  | r :: a, [], _, _ =>
    rw [com_nil2]
    exact ⟨fun h => absurd h (mem_nil _), fun h => absurd h.2 (mem_nil _)⟩
  | r :: a, s :: b, ha, hb =>
    rw [com_cons, mem_append, com1_mem]
    have ra : mem a z → r.2 + 1 < z := fun h => ha.behind h
    have sb : mem b z → s.2 + 1 < z := fun h => hb.behind h
    split
    · rename_i hlt
      rw [com_mem a (s :: b) ha.tail hb z, mem_cons, mem_cons]
      constructor
      · rintro (⟨h1, h2⟩ | ⟨h1, h2⟩)
        · exact ⟨.inl h1, .inl h2⟩
        · exact ⟨.inr h1, h2⟩
      · rintro ⟨h1 | h1, h2 | h2⟩
        · exact .inl ⟨h1, h2⟩
        · have := sb h2
          omega
        · exact .inr ⟨h1, .inl h2⟩
        · exact .inr ⟨h1, .inr h2⟩
    · rename_i hlt
      rw [com_mem (r :: a) b ha hb.tail z, mem_cons, mem_cons]
      constructor
      · rintro (⟨h1, h2⟩ | ⟨h1, h2⟩)
        · exact ⟨.inl h1, .inl h2⟩
        · exact ⟨h1, .inr h2⟩
      · rintro ⟨h1 | h1, h2 | h2⟩
        · exact .inl ⟨h1, h2⟩
        · exact .inr ⟨.inl h1, h2⟩
        · have := ra h1
          omega
        · exact .inr ⟨.inr h1, h2⟩
termination_by a.length + b.length
theorem com1_ok {r s : Row} (hr : okRow r = true) (hs : okRow s = true) : ∀ q ∈ com1 r s, okRow q = true := fun q hq => by
  have o1 := okRow_iff hr
  have o2 := okRow_iff hs
  have h1 := mx_ok r.1 s.1
  have h2 := mn_ok r.2 s.2
  unfold com1 at hq
  split at hq
  · rw [List.mem_singleton.mp hq]
    exact okRow_of (by omega) (by omega) (by omega)
  · cases hq
theorem com_ok (a b : List Row) (ha : ∀ r ∈ a, okRow r = true) (hb : ∀ r ∈ b, okRow r = true) : ∀ q ∈ com a b, okRow q = true := by
  match a, b, ha, hb with
  | [], b, _, _ =>
    rw [com_nil]
    exact fun _ h => nomatch h
  | r :: a, [], _, _ =>
    rw [com_nil2]
    exact fun _ h => nomatch h
  | r :: a, s :: b, ha, hb =>
    intro q hq
    rw [com_cons] at hq
    rcases List.mem_append.mp hq with k | k
    · exact com1_ok (ha r List.mem_cons_self) (hb s List.mem_cons_self) q k
    · split at k
      · exact com_ok a (s :: b) (fun q hq => ha q (List.mem_cons_of_mem _ hq)) hb q k
      · exact com_ok (r :: a) b ha (fun q hq => hb q (List.mem_cons_of_mem _ hq)) q k
termination_by a.length + b.length
theorem com1_len (r s : Row) : (com1 r s).length ≤ 1 := by
  unfold com1
  split
  · exact Nat.le_refl _
  · exact Nat.zero_le _
theorem com_len (a b : List Row) : (com a b).length ≤ a.length + b.length := by
  match a, b with
  | [], b =>
    rw [com_nil]
    exact Nat.zero_le _
  | r :: a, [] =>
    rw [com_nil2]
    exact Nat.zero_le _
  | r :: a, s :: b =>
    rw [com_cons, List.length_append]
    have h0 := com1_len r s
    split
    · have h1 := com_len a (s :: b)
      simp only [List.length_cons] at h1 ⊢
      omega
    · have h1 := com_len (r :: a) b
      simp only [List.length_cons] at h1 ⊢
      omega
termination_by a.length + b.length
def gp : Int → List Row → List Row
  | s, [] => if s ≤ lastP then [(s, lastP)] else []
  | s, r :: a => (if s < r.1 then [(s, r.1 - 1)] else []) ++ gp (r.2 + 1) a
theorem gp_mem : ∀ (a : List Row) (s : Int), Nf a → (∀ r ∈ a, s ≤ r.1) → (∀ r ∈ a, r.2 ≤ lastP) → ∀ z, mem (gp s a) z ↔ (s ≤ z ∧ z ≤ lastP ∧ ¬ mem a z)
  | [], s, _, _, _, z => by
    unfold gp
    split
    · rw [mem_one]
      exact ⟨fun h => ⟨h.1, h.2, mem_nil _⟩, fun h => ⟨h.1, h.2.1⟩⟩
    · exact ⟨fun h => absurd h (mem_nil _), fun h => by omega⟩
  | r :: a, s, n, h1, h2, z => by
    have ih := gp_mem a (r.2 + 1) n.tail (fun q hq => by have := (List.pairwise_cons.mp n.gap).1 q hq; omega) (fun q hq => h2 q (List.mem_cons_of_mem _ hq)) z
    have hr := n.head
    have hs := h1 r List.mem_cons_self
    have hl := h2 r List.mem_cons_self
    have hb : mem a z → r.2 + 1 < z := fun h => n.behind h
    unfold gp
    rw [mem_append, ih, mem_cons]
    have e : mem (if s < r.1 then [(s, r.1 - 1)] else []) z ↔ (s ≤ z ∧ z ≤ r.1 - 1) := by
      split
      · rw [mem_one]
      · exact ⟨fun h => absurd h (mem_nil _), fun h => by omega⟩
    rw [e]
    by_cases hm : mem a z
    · have := hb hm
      constructor
      · rintro (h | h)
        · omega
        · exact absurd hm h.2.2
      · rintro ⟨_, _, h⟩
        exact absurd (Or.inr hm) h
    · constructor
      · rintro (h | h)
        · exact ⟨by omega, by omega, fun k => k.elim (fun k => by omega) hm⟩
        · exact ⟨by omega, h.2.1, fun k => k.elim (fun k => by omega) hm⟩
      · rintro ⟨k1, k2, k3⟩
        by_cases hz : z ≤ r.1 - 1
        · exact .inl ⟨k1, hz⟩
        · refine .inr ⟨?_, k2, hm⟩
          have : ¬ (r.1 ≤ z ∧ z ≤ r.2) := fun k => k3 (.inl k)
          omega
theorem gp_lo : ∀ (a : List Row) (s : Int), Nf a → (∀ r ∈ a, s ≤ r.1) → ∀ q ∈ gp s a, s ≤ q.1
  | [], s, _, _, q, hq => by
    unfold gp at hq
    split at hq
    · rw [List.mem_singleton.mp hq]
      exact Int.le_refl _
    · cases hq
  | r :: a, s, n, h1, q, hq => by
    have hr := n.head
    have hs := h1 r List.mem_cons_self
    unfold gp at hq
    rcases List.mem_append.mp hq with k | k
    · split at k
      · rw [List.mem_singleton.mp k]
        exact Int.le_refl _
      · cases k
    · have := gp_lo a (r.2 + 1) n.tail (fun q hq => by have := (List.pairwise_cons.mp n.gap).1 q hq; omega) q k
      omega
theorem gp_nf : ∀ (a : List Row) (s : Int), Nf a → (∀ r ∈ a, s ≤ r.1) → Nf (gp s a)
  | [], s, _, _ => by
    unfold gp
    split
    · exact ⟨fun q hq => by rw [List.mem_singleton.mp hq]; assumption, List.pairwise_singleton _ _⟩
    · exact Nf.nil
  | r :: a, s, n, h1 => by
    have hr := n.head
    have hg : ∀ q ∈ a, r.2 + 1 ≤ q.1 := fun q hq => by have := (List.pairwise_cons.mp n.gap).1 q hq; omega
    have ih := gp_nf a (r.2 + 1) n.tail hg
    have lo := gp_lo a (r.2 + 1) n.tail hg
    unfold gp
    split
    · refine ⟨fun q hq => ?_, List.pairwise_cons.mpr ⟨fun q hq => ?_, ih.gap⟩⟩
      · rcases List.mem_cons.mp hq with k | k
        · rw [k]
          dsimp only
          omega
        · exact ih.ok q k
      · have := lo q hq
        dsimp only
        omega
    · exact ih
theorem gp_ok : ∀ (a : List Row) (s : Int), 0 ≤ s → (∀ r ∈ a, okRow r = true) → ∀ q ∈ gp s a, okRow q = true
  | [], s, h0, _, q, hq => by
    unfold gp at hq
    split at hq
    · rw [List.mem_singleton.mp hq]
      exact okRow_of h0 (by assumption) (Int.le_refl _)
    · cases hq
  | r :: a, s, h0, h1, q, hq => by
    have o := okRow_iff (h1 r List.mem_cons_self)
    unfold gp at hq
    rcases List.mem_append.mp hq with k | k
    · split at k
      · rw [List.mem_singleton.mp k]
        exact okRow_of h0 (by omega) (by omega)
      · cases k
    · exact gp_ok a (r.2 + 1) (by omega) (fun q hq => h1 q (List.mem_cons_of_mem _ hq)) q k
theorem gp_len : ∀ (a : List Row) (s : Int), (gp s a).length ≤ a.length + 1
  | [], s => by
    unfold gp
    split
    · exact Nat.le_refl _
    · exact Nat.zero_le _
  | r :: a, s => by
    have ih := gp_len a (r.2 + 1)
    unfold gp
    rw [List.length_append]
    split
    · simp only [List.length_cons, List.length_nil]
      omega
    · simp only [List.length_cons, List.length_nil]
      omega
end OR

namespace OR
open PySem PySem.Spec PyProof.Rows L2
/-! ### _common, _gaps -/
/-- an item of a list or a tuple -/
def rIxA (K : PySem.W.Frag) : R2 := fun x y H Q => ∃ p xs i v, x = .ref p ∧ y = .int i ∧ (SqL K H p xs ∨ SqT K H p xs) ∧ atI xs i = some v ∧ Q v H
theorem ix_any {X : Cx} (K : PySem.W.Frag) (hK : X.K = K) : IxR X (rIxA K) := by
  subst hK
  intro value slice pins s σ H x y v u Q I rx ry h hs
  obtain ⟨p, xs, i, z, hx, hy, hq | hq, he, q⟩ := h
  · exact ix_list value slice pins s σ H x y v u Q I rx ry ⟨p, xs, i, z, hx, hy, hq, he, q⟩ hs
  · exact ix_tup value slice pins s σ H x y v u Q I rx ry ⟨p, xs, i, z, hx, hy, hq, he, q⟩ hs
def SqA (K : PySem.W.Frag) (H : Hp) (a : Addr) (xs : List V) : Prop := SqL K H a xs ∨ SqT K H a xs
theorem SqA.same {K : PySem.W.Frag} {H H' : Hp} {a : Addr} {xs : List V} (h : SqA K H a xs) (s : Same H H') : SqA K H' a xs := h.elim (fun e => .inl (s.seq e)) fun e => .inr (sameT s e)
theorem refs_at {L : List ARow} {i : Nat} {z : ARow} (h : L[i]? = some z) : atI (refs L) (i : Int) = some (.ref z.1) := atI_nat (by unfold refs; rw [List.getElem?_map, h]; rfl)
theorem drop_at {L : List ARow} {i : Nat} {z : ARow} (h : L[i]? = some z) : (rws L).drop i = z.2 :: (rws L).drop (i + 1) := by
  have e := rws_get h
  have hl := (List.getElem?_eq_some_iff.mp e).1
  rw [List.drop_eq_getElem_cons hl]
  rw [(List.getElem?_eq_some_iff.mp e).2]
def spCommon (K : PySem.W.Frag) : Sp := fun vs H Q _ => ∃ (a b : Addr) (L M : List ARow), vs = [.ref a, .ref b] ∧ SqA K H a (refs L) ∧ SqA K H b (refs M) ∧ AtR H L ∧ AtR H M ∧ L.length + M.length ≤ 1000 ∧
  ∀ (o : Addr) (N : List ARow) (H' : Hp), H o = none → H' o = some (.lst (refs N)) → AtR H' N → rws N = com (rws L) (rws M) → Same H H' → Q (.ref o) H'
def spGaps (K : PySem.W.Frag) : Sp := fun vs H Q _ => ∃ (a : Addr) (L : List ARow), vs = [.ref a] ∧ SqT K H a (refs L) ∧ AtR H L ∧ L.length < 1000 ∧
  ∀ (o : Addr) (N : List ARow) (H' : Hp), H o = none → H' o = some (.lst (refs N)) → AtR H' N → rws N = gp 0 (rws L) → Same H H' → Q (.ref o) H'
abbrev Q4 := Addr × Row × Int × Int
def refs4 (N : List Q4) : List V := N.map fun z => .ref z.1
def rws4 (N : List Q4) : List Row := N.map fun z => z.2.1
def At4 (H : Hp) (N : List Q4) : Prop := ∀ z ∈ N, H z.1 = some (.tup [.int z.2.1.1, .int z.2.1.2, .int z.2.2.1, .int z.2.2.2])
theorem refs4_len (N : List Q4) : (refs4 N).length = N.length := by unfold refs4; rw [List.length_map]
theorem rws4_len (N : List Q4) : (rws4 N).length = N.length := by unfold rws4; rw [List.length_map]
theorem refs4_snoc (N : List Q4) (z : Q4) : refs4 (N ++ [z]) = refs4 N ++ [.ref z.1] := by unfold refs4; rw [List.map_append]; rfl
theorem rws4_snoc (N : List Q4) (z : Q4) : rws4 (N ++ [z]) = rws4 N ++ [z.2.1] := by unfold rws4; rw [List.map_append]; rfl
theorem refs4_get {N : List Q4} {i : Nat} {y : V} (h : (refs4 N)[i]? = some y) : ∃ z, N[i]? = some z ∧ z ∈ N ∧ y = .ref z.1 := by
  unfold refs4 at h
  rw [List.getElem?_map] at h
  cases e : N[i]? with
  | none => rw [e] at h; cases h
  | some z => rw [e] at h; cases h; exact ⟨z, rfl, List.mem_of_getElem? e, rfl⟩
theorem rws4_get {N : List Q4} {i : Nat} {z : Q4} (h : N[i]? = some z) : (rws4 N)[i]? = some z.2.1 := by unfold rws4; rw [List.getElem?_map, h]; rfl
def spOver (K : PySem.W.Frag) : Sp := fun vs H Q _ => ∃ (a b : Addr) (L M : List ARow), vs = [.ref a, .ref b] ∧ SqA K H a (refs L) ∧ SqA K H b (refs M) ∧ AtR H L ∧ AtR H M ∧ L.length + M.length ≤ 1000 ∧
  ∀ (o : Addr) (N : List Q4) (H' : Hp), H o = none → H' o = some (.lst (refs4 N)) → At4 H' N → rws4 N = com (rws L) (rws M) → N.length ≤ L.length + M.length → Same H H' → Q (.ref o) H'
section
variable {P : Program} {w : World} {K : PySem.W.Frag} {mg : Str → Option Value} {base : Heap}
theorem scOv : FnScope ["ones", "others", "rows", "at", "beside", "first", "last"] ["ones", "others"] (defScope sOver) := ⟨rfl, rfl, rfl, by decide +kernel, rfl, by decide +kernel, by decide +kernel⟩
theorem ok_over {f C : Addr} {fd : FuncData} (F : Fun K "overlaps" "overlaps" sOver f fd) (T : PTxt K mg C) (zMin : mg "min" = none) : FnOk P w K mg base CX0 1 f fd ["ones", "others"] (spOver K) := by
  refine F.ok scOv (fun vs H Q E h => ?_) (fun cdv A outer s H vs Q E hr h => ?_)
  · obtain ⟨a, b, L, M, rfl, _⟩ := h
    rfl
  · obtain ⟨a, b, L, M, rfl, hSa, hSb, hL, hM, hlen, q⟩ := h
    have nd := scOv.nd
    refine ⟨_, pss_cons (ps_set (i := 2) nd rfl (.inl rfl) (pe_lst pa_nil))
      (pss_cons (ps_set (i := 3) nd rfl (.inl rfl) pe_int)
      (pss_cons (ps_set (i := 4) nd rfl (.inl rfl) pe_int)
      (pss_cons (ps_while PassesOwn.never (PW.pt (pw_and (pt_cmpR op_lt (pv 3) (pe_callB call_len_seq (by rfl) T.zLen PySem.boot_len (pa_cons (pv 0) pa_nil)) (nomark _)) (pw_and1 (pt_cmpR op_lt (pv 4) (pe_callB call_len_seq (by rfl) T.zLen PySem.boot_len (pa_cons (pv 1) pa_nil)) (nomark _)))))
        (pss_cons (ps_set (i := 5) nd rfl (.inl rfl) (pe_callB (call_max2 rfl) (by rfl) T.zMax bt_max (pa_cons (pe_ix ix_tup (pe_ix (ix_any K rfl) (pv 0) (pv 3) (fun _ _ => rfl)) pe_int (fun _ _ => rfl)) (pa_cons (pe_ix ix_tup (pe_ix (ix_any K rfl) (pv 1) (pv 4) (fun _ _ => rfl)) pe_int (fun _ _ => rfl)) pa_nil))))
        (pss_cons (ps_set (i := 6) nd rfl (.inl rfl) (pe_callB (call_min2 rfl) (by rfl) zMin bt_min (pa_cons (pe_ix ix_tup (pe_ix (ix_any K rfl) (pv 0) (pv 3) (fun _ _ => rfl)) pe_int (fun _ _ => rfl)) (pa_cons (pe_ix ix_tup (pe_ix (ix_any K rfl) (pv 1) (pv 4) (fun _ _ => rfl)) pe_int (fun _ _ => rfl)) pa_nil))))
        (Evl.pss_cut (ps_if (pt_cmpR op_le (pv 5) (pv 6) (nomark _)) (pss_one (ps_expr (pe_bm PySem.F.plainAttrs_list PySem.F.slot_list_append PySem.F.type_list_append mt_append (pv 2) (pa_cons (pe_tup (pa_cons (pv 5) (pa_cons (pv 6) (pa_cons (pv 3) (pa_cons (pv 4) pa_nil))))) pa_nil)))) pss_nil)
        (pss_one (ps_if (pt_cmpR op_lt (pe_ix ix_tup (pe_ix (ix_any K rfl) (pv 0) (pv 3) (fun _ _ => rfl)) pe_int (fun _ _ => rfl)) (pe_ix ix_tup (pe_ix (ix_any K rfl) (pv 1) (pv 4) (fun _ _ => rfl)) pe_int (fun _ _ => rfl)) (nomark _))
          (pss_one (ps_aug (i := 3) nd rfl (.inl rfl) pe_int ip_add)) (pss_one (ps_aug (i := 4) nd rfl (.inl rfl) pe_int ip_add))))))))
      (pss_one (ps_ret (pv 2)))))), ?_⟩
    refine ⟨Nat.zero_le _, fun o no => ?_⟩
    have s1 := same_lay (o := .lst []) no
    refine ⟨fun m σ H' => ∃ (i j : Nat) (s5 s6 : Option V) (N : List Q4), m = (L.length - i) + (M.length - j) ∧ σ = [some (.ref a), some (.ref b), some (.ref o), some (.int (i : Int)), some (.int (j : Int)), s5, s6] ∧ i ≤ L.length ∧ j ≤ M.length ∧ H' o = some (.lst (refs4 N)) ∧ At4 H' N ∧
        rws4 N ++ com ((rws L).drop i) ((rws M).drop j) = com (rws L) (rws M) ∧ Fre o (upd H o (.lst [])) H' ∧ N.length ≤ i + j, ⟨_, 0, 0, none, none, [], rfl, rfl, Nat.zero_le _, Nat.zero_le _, upd_same, (fun _ z => nomatch z), rfl, Fre.refl _ _, Nat.zero_le _⟩, ?_⟩
    rintro m σ H' ⟨i, j, s5, s6, N, rfl, rfl, hi, hj, ho, hN, hE, fr, hNl⟩
    have sH : Same H H' := fun c u e => fr c u (s1 c u e) (ne_of_none e no)
    have fin : com ((rws L).drop i) ((rws M).drop j) = [] → Q (.ref o) H' := fun e => q o N H' no ho hN (by rw [← hE, e, List.append_nil]) (by omega) sH
    refine ⟨_, rfl, _, rfl, a, refs L, rfl, hSa.same sH, _, _, rfl, rfl, _, rfl, ite2 (fun c1 => ?_) (fun c1 => ?_)⟩
    · have hi' : i < L.length := by
        have := of_decide_eq_true c1
        rw [refs_len] at this
        omega
      refine ⟨_, rfl, _, rfl, b, refs M, rfl, hSb.same sH, _, _, rfl, rfl, _, rfl, ite2 (fun c2 => ?_) (fun c2 => ?_)⟩
      · have hj' : j < M.length := by
          have := of_decide_eq_true c2
          rw [refs_len] at this
          omega
        have hz : L[i]? = some L[i] := List.getElem?_eq_getElem hi'
        have hw : M[j]? = some M[j] := List.getElem?_eq_getElem hj'
        have hzm : L[i] ∈ L := List.getElem_mem hi'
        have hwm : M[j] ∈ M := List.getElem_mem hj'
        generalize L[i] = z at hz hzm
        generalize M[j] = y at hw hwm
        have go : ∀ H'' : Hp, Same H H'' → SqT K H'' z.1 [.int z.2.1, .int z.2.2] ∧ SqT K H'' y.1 [.int y.2.1, .int y.2.2] := fun H'' s => ⟨.inl (.inl (s _ _ (hL z hzm))), .inl (.inl (s _ _ (hM y hwm)))⟩
        have az := refs_at hz
        have ay := refs_at hw
        have g0 : ∀ (u v : Int), atI [V.int u, .int v] 0 = some (.int u) := fun _ _ => atI_nat (j := 0) rfl
        have g1 : ∀ (u v : Int), atI [V.int u, .int v] 1 = some (.int v) := fun _ _ => atI_nat (j := 1) rfl
        refine ⟨_, fun σ' H'' p => p, ?_⟩
        refine ⟨_, rfl, _, rfl, a, _, _, _, rfl, rfl, hSa.same sH, az, z.1, _, 0, _, rfl, rfl, (go _ sH).1, g0 _ _, _, rfl, _, rfl, b, _, _, _, rfl, rfl, hSb.same sH, ay, y.1, _, 0, _, rfl, rfl, (go _ sH).2, g0 _ _, ?_⟩
        have two : 4 ≤ sizeLine := by decide
        refine ⟨_, _, rfl, _, rfl, _, rfl, a, _, _, _, rfl, rfl, hSa.same sH, az, z.1, _, 1, _, rfl, rfl, (go _ sH).1, g1 _ _, _, rfl, _, rfl, b, _, _, _, rfl, rfl, hSb.same sH, ay, y.1, _, 1, _, rfl, rfl, (go _ sH).2, g1 _ _, _, _, rfl, ?_⟩
        refine ⟨fun σ' H'' => ∃ N' : List Q4, σ' = [some (.ref a), some (.ref b), some (.ref o), some (.int (i : Int)), some (.int (j : Int)), some (.int (mx z.2.1 y.2.1)), some (.int (mn z.2.2 y.2.2))] ∧ H'' o = some (.lst (refs4 N')) ∧ At4 H'' N' ∧ rws4 N' = rws4 N ++ com1 z.2 y.2 ∧ Fre o (upd H o (.lst [])) H'' ∧ N'.length ≤ i + j + 1, ?_, ?_⟩
        · refine ⟨_, rfl, _, rfl, _, _, rfl, rfl, _, rfl, ite2 (fun c => ?_) (fun c => ?_)⟩
          · have hc : mx z.2.1 y.2.1 ≤ mn z.2.2 y.2.2 := of_decide_eq_true c
            refine ⟨_, rfl, .inl ⟨rfl, _, .inl (.inl ho)⟩, _, rfl, _, rfl, _, rfl, _, rfl, two, fun T' hT => ?_⟩
            have s4 := same_lay (o := .tup [.int (mx z.2.1 y.2.1), .int (mn z.2.2 y.2.2), .int (i : Int), .int (j : Int)]) hT
            have noT : T' ≠ o := (ne_of_none ho hT).symm
            refine ⟨o, refs4 N, _, rfl, rfl, s4 _ _ ho, small1000 (by rw [refs4_len]; omega), ?_⟩
            refine ⟨N ++ [(T', (mx z.2.1 y.2.1, mn z.2.2 y.2.2), (i : Int), (j : Int))], rfl, by rw [upd_same, refs4_snoc], fun q hq => ?_, ?_, (fr.trans (fun b' u e _ => s4 b' u e)).trans Fre.put, by rw [List.length_append]; exact Nat.succ_le_succ hNl⟩
            · rcases List.mem_append.mp hq with k | k
              · rw [upd_ne (ne_of (hN q k) ho (by intro w; cases w))]
                exact s4 _ _ (hN q k)
              · rw [List.mem_singleton.mp k, upd_ne noT]
                exact upd_same
            · rw [rws4_snoc]
              unfold com1
              rw [if_pos hc]
          · have hc : ¬ mx z.2.1 y.2.1 ≤ mn z.2.2 y.2.2 := fun w => c (decide_eq_true w)
            refine ⟨N, rfl, ho, hN, ?_, fr, Nat.le_succ_of_le hNl⟩
            unfold com1
            rw [if_neg hc, List.append_nil]
        · rintro σ' H2 ⟨N', rfl, ho2, hN2, hE2, fr2, hNl2⟩
          have sH2 : Same H H2 := fun c u e => fr2 c u (s1 c u e) (ne_of_none e no)
          rw [drop_at hz, drop_at hw, com_cons] at hE
          refine ⟨_, rfl, _, rfl, a, _, _, _, rfl, rfl, hSa.same sH2, az, z.1, _, 1, _, rfl, rfl, (go _ sH2).1, g1 _ _, _, rfl, _, rfl, b, _, _, _, rfl, rfl, hSb.same sH2, ay, y.1, _, 1, _, rfl, rfl, (go _ sH2).2, g1 _ _, _, _, rfl, rfl, _, rfl, ite2 (fun c => ?_) (fun c => ?_)⟩
          · have hc : z.2.2 < y.2.2 := of_decide_eq_true c
            refine ⟨_, rfl, _, _, rfl, rfl, (L.length - (i + 1)) + (M.length - j), by omega, i + 1, j, _, _, N', rfl, rfl, hi', hj, ho2, hN2, ?_, fr2, by omega⟩
            rw [if_pos hc] at hE
            rw [hE2, drop_at hw, List.append_assoc]
            exact hE
          · have hc : ¬ z.2.2 < y.2.2 := fun w => c (decide_eq_true w)
            refine ⟨_, rfl, _, _, rfl, rfl, (L.length - i) + (M.length - (j + 1)), by omega, i, j + 1, _, _, N', rfl, rfl, hi, hj', ho2, hN2, ?_, fr2, by omega⟩
            rw [if_neg hc] at hE
            rw [hE2, drop_at hz, List.append_assoc]
            exact hE
      · refine ⟨_, rfl, fin ?_⟩
        have hj2 : (rws M).length ≤ j := by
          have : ¬ ((j : Int) < ((refs M).length : Int)) := fun w => c2 (decide_eq_true w)
          rw [refs_len] at this
          rw [rws_len]
          omega
        rw [List.drop_eq_nil_of_le hj2, com_nil2]
    · refine iteF ⟨_, rfl, fin ?_⟩
      have hi2 : (rws L).length ≤ i := by
        have : ¬ ((i : Int) < ((refs L).length : Int)) := fun w => c1 (decide_eq_true w)
        rw [refs_len] at this
        rw [rws_len]
        omega
      rw [List.drop_eq_nil_of_le hi2, com_nil]
theorem scCo : FnScope ["ones", "others", "first", "last", "_"] ["ones", "others"] (defScope sCommon) := ⟨rfl, rfl, rfl, by decide +kernel, rfl, by decide +kernel, by decide +kernel⟩
theorem ok_common {f C : Addr} {fd : FuncData} (F : Fun K "_common" "_common" sCommon f fd) (OV : Cl P w K mg base 1 "overlaps" ["ones", "others"] (spOver K)) : FnOk P w K mg base CX0 2 f fd ["ones", "others"] (spCommon K) := by
  refine F.ok scCo (fun vs H Q E h => ?_) (fun cdv A outer s H vs Q E hr h => ?_)
  · obtain ⟨a, b, L, M, rfl, _⟩ := h
    rfl
  · obtain ⟨a, b, L, M, rfl, hSa, hSb, hL, hM, hlen, q⟩ := h
    have nd := scCo.nd
    refine ⟨_, pss_one (ps_ret (pe_lc (own := [("first", 2), ("last", 3), ("_", 4)]) (g := gTup K 4 (gCons (gName 2) (gCons (gName 3) (gCons (gName 4) (gCons (gName 4) gNil))))) (tt := tYes) rfl nd (pi_list (pe_cl OV hr (by decide) (by rfl) (pa_cons (pv 0) (pa_cons (pv 1) pa_nil)))) (blkOk_by (N := ["ones", "others", "first", "last", "_"]) (sc := defScope sCommon) (by decide +kernel))
        (fun _ _ _ _ _ => pg_tup rfl (pgs_cons (pg_name (i := 2) nd rfl (.inl rfl)) (pgs_cons (pg_name (i := 3) nd rfl (.inl rfl)) (pgs_cons (pg_name (i := 4) nd rfl (.inl rfl)) (pgs_cons (pg_name (i := 4) nd rfl (.inl rfl)) pgs_nil)))))
        (fun _ _ _ _ _ => pts_nil)
        (fun _ _ _ _ _ => pe_tup (pa_cons (pv 2) (pa_cons (pv 3) pa_nil))))), ?_⟩
    refine ⟨_, rfl, _, rfl, a, b, L, M, rfl, hSa, hSb, hL, hM, hlen, fun o N H1 no ho hN eN lN s1 => ?_⟩
    refine ⟨o, rfl, ⟨_, .inl (.inl ho)⟩, fun D hD => lc_list (K := K) (a := o) (xs := refs4 N) (fun i H2 => ∃ R : List ARow, H2 D = some (.lst (refs R)) ∧ AtR H2 R ∧ rws R = (rws4 N).take i ∧ Same H1 H2 ∧ R.length ≤ i)
        ⟨[], upd_same, (fun _ z => nomatch z), rfl, same_lay hD, Nat.le_refl _⟩ (fun i H2 _ ⟨_, _, _, _, s, _⟩ => s.seq (.inl (.inl ho))) ?_ ?_⟩
    · rintro i y H2 hy ⟨R, hD2, hR, eR, s2, lR⟩
      obtain ⟨z, hz, hzN, rfl⟩ := refs4_get hy
      have hil : i < N.length := (List.getElem?_eq_some_iff.mp hz).1
      have ez := s2 _ _ (hN z hzN)
      have nRD : ∀ q ∈ R, q.1 ≠ D := fun q hq => ne_of (hR q hq) hD2 (by intro w; cases w)
      refine ⟨z.1, _, rfl, .inl (.inl ez), rfl, _, _, rfl, _, _, rfl, _, _, rfl, _, _, rfl, rfl, rfl, ?_⟩
      refine yesT ?_
      refine ⟨_, rfl, _, rfl, (by show 2 ≤ sizeLine; decide), fun T' hT => ?_⟩
      have s4 := same_lay (o := .tup [.int z.2.1.1, .int z.2.1.2]) hT
      have nTD : T' ≠ D := (ne_of_none hD2 hT).symm
      refine ⟨refs R, s4 _ _ hD2, small1000 (by rw [refs_len]; omega), R ++ [(T', z.2.1)], ?_, fun q hq => ?_, ?_, same_upd (s2.trans s4) hD, by rw [List.length_append]; exact Nat.succ_le_succ lR⟩
      · rw [upd_same, refs_snoc]
      · rcases List.mem_append.mp hq with k | k
        · rw [upd_ne (nRD q k)]
          exact s4 _ _ (hR q k)
        · rw [List.mem_singleton.mp k, upd_ne nTD]
          exact upd_same
      · rw [rws_snoc, eR, List.take_add_one, rws4_get hz]
        rfl
    · rintro H2 ⟨R, hD2, hR, eR, s2, lR⟩
      rw [refs4_len, List.take_of_length_le (by rw [rws4_len]; exact Nat.le_refl _), eN] at eR
      exact q D R H2 (Option.eq_none_iff_forall_ne_some.mpr fun u e => by have := s1 _ _ e; rw [hD] at this; cases this) hD2 hR eR (s1.trans s2)
theorem gp_cons (s : Int) (r : Row) (a : List Row) : gp s (r :: a) = (if s < r.1 then [(s, r.1 - 1)] else []) ++ gp (r.2 + 1) a := rfl
theorem gp_nil (s : Int) : gp s [] = if s ≤ lastP then [(s, lastP)] else [] := rfl
theorem scGa : FnScope ["stretches", "rows", "start", "first", "last"] ["stretches"] (defScope sGaps) := ⟨rfl, rfl, rfl, by decide +kernel, rfl, by decide +kernel, by decide +kernel⟩
theorem ok_gaps {f C : Addr} {fd : FuncData} (F : Fun K "_gaps" "_gaps" sGaps f fd) (T : PTxt K mg C) : FnOk P w K mg base CX0 1 f fd ["stretches"] (spGaps K) := by
  refine F.ok scGa (fun vs H Q E h => ?_) (fun cdv A outer s H vs Q E hr h => ?_)
  · obtain ⟨a, L, rfl, _⟩ := h
    rfl
  · obtain ⟨a, L, rfl, hS, hL, hlen, q⟩ := h
    obtain ⟨tl, hl⟩ := T.last
    have nd := scGa.nd
    refine ⟨_, pss_cons (ps_set (i := 1) nd rfl (.inl rfl) (pe_lst pa_nil))
      (pss_cons (ps_set (i := 2) nd rfl (.inl rfl) pe_int)
      (pss_cons (ps_for PassesOwn.never rfl (pi_tup (pv 0)) (pg_tup rfl (pgs_cons (pg_name (i := 3) nd rfl (.inl rfl)) (pgs_cons (pg_name (i := 4) nd rfl (.inl rfl)) pgs_nil)))
        (Evl.pss_cut (ps_if (pt_cmpR op_lt (pv 2) (pv 3) (nomark _)) (pss_one (ps_expr (pe_bm PySem.F.plainAttrs_list PySem.F.slot_list_append PySem.F.type_list_append mt_append (pv 1) (pa_cons (pe_tup (pa_cons (pv 2) (pa_cons (pe_op op_sub (pv 3) pe_int) pa_nil))) pa_nil)))) pss_nil)
        (pss_one (ps_set (i := 2) nd rfl (.inl rfl) (pe_op op_add (pv 4) pe_int)))))
      (pss_cons (ps_if (pt_cmpR op_le (pv 2) (pe_glob (v := .int lastP) (by rfl) hl ⟨tl, rfl⟩) (nomark _)) (pss_one (ps_expr (pe_bm PySem.F.plainAttrs_list PySem.F.slot_list_append PySem.F.type_list_append mt_append (pv 1) (pa_cons (pe_tup (pa_cons (pv 2) (pa_cons (pe_glob (v := .int lastP) (by rfl) hl ⟨tl, rfl⟩) pa_nil))) pa_nil)))) pss_nil)
      (pss_one (ps_ret (pv 1)))))), ?_⟩
    refine ⟨Nat.zero_le _, fun o no => ?_⟩
    have s1 := same_lay (o := .lst []) no
    have two : 2 ≤ sizeLine := by decide
    refine ⟨_, rfl, a, rfl, ⟨_, sameT s1 hS⟩, for_tup (K := K) (a := a) (xs := refs L) (fun i σ H' => ∃ (st : Int) (f l : Option V) (N : List ARow), σ = [some (.ref a), some (.ref o), some (.int st), f, l] ∧ H' o = some (.lst (refs N)) ∧ AtR H' N ∧ rws N ++ gp st ((rws L).drop i) = gp 0 (rws L) ∧ Fre o (upd H o (.lst [])) H' ∧ N.length ≤ i)
      ⟨0, none, none, [], rfl, upd_same, (fun _ z => nomatch z), rfl, Fre.refl _ _, Nat.le_refl _⟩ (fun i σ H' _ ⟨_, _, _, _, _, _, _, _, fr, _⟩ => sameT (fun c u e => fr c u (s1 c u e) (ne_of_none e no)) hS) ?_ ?_⟩
    · rintro i y σ H' hy ⟨st, f, l, N, rfl, ho, hN, hE, fr, hNl⟩
      obtain ⟨z, hz, hzL, rfl⟩ := refs_get hy
      have hil : i < L.length := (List.getElem?_eq_some_iff.mp hz).1
      have sH : Same H H' := fun c u e => fr c u (s1 c u e) (ne_of_none e no)
      have ez := sH _ _ (hL z hzL)
      rw [drop_at hz, gp_cons] at hE
      refine ⟨z.1, _, rfl, .inl (.inl ez), rfl, _, _, rfl, _, _, rfl, rfl, ?_⟩
      refine ⟨fun σ' H'' => ∃ N' : List ARow, σ' = [some (.ref a), some (.ref o), some (.int st), some (.int z.2.1), some (.int z.2.2)] ∧ H'' o = some (.lst (refs N')) ∧ AtR H'' N' ∧ rws N' = rws N ++ (if st < z.2.1 then [(st, z.2.1 - 1)] else []) ∧ Fre o (upd H o (.lst [])) H'' ∧ N'.length ≤ i + 1, ?_, ?_⟩
      · refine ⟨_, rfl, _, rfl, _, _, rfl, rfl, _, rfl, ite2 (fun c => ?_) (fun c => ?_)⟩
        · have hc : st < z.2.1 := of_decide_eq_true c
          refine ⟨_, rfl, .inl ⟨rfl, _, .inl (.inl ho)⟩, _, rfl, _, rfl, _, _, rfl, rfl, two, fun T' hT => ?_⟩
          have s4 := same_lay (o := .tup [.int st, .int (z.2.1 - 1)]) hT
          have noT : T' ≠ o := (ne_of_none ho hT).symm
          refine ⟨o, refs N, _, rfl, rfl, s4 _ _ ho, small1000 (by rw [refs_len]; omega), ?_⟩
          refine ⟨N ++ [(T', (st, z.2.1 - 1))], rfl, by rw [upd_same, refs_snoc], fun q hq => ?_, ?_, (fr.trans (fun b' u e _ => s4 b' u e)).trans Fre.put, by rw [List.length_append]; exact Nat.succ_le_succ hNl⟩
          · rcases List.mem_append.mp hq with k | k
            · rw [upd_ne (ne_of (hN q k) ho (by intro w; cases w))]
              exact s4 _ _ (hN q k)
            · rw [List.mem_singleton.mp k, upd_ne noT]
              exact upd_same
          · rw [rws_snoc, if_pos hc]
        · have hc : ¬ st < z.2.1 := fun w => c (decide_eq_true w)
          refine ⟨N, rfl, ho, hN, ?_, fr, Nat.le_succ_of_le hNl⟩
          rw [if_neg hc, List.append_nil]
      · rintro σ' H2 ⟨N', rfl, ho2, hN2, hE2, fr2, hNl2⟩
        refine ⟨_, rfl, _, _, rfl, rfl, z.2.2 + 1, _, _, N', rfl, ho2, hN2, ?_, fr2, hNl2⟩
        rw [hE2, List.append_assoc]
        exact hE
    · rintro σ H' ⟨st, f, l, N, rfl, ho, hN, hE, fr, hNl⟩
      rw [refs_len] at hE hNl
      rw [List.drop_eq_nil_of_le (by rw [rws_len]; exact Nat.le_refl _), gp_nil] at hE
      have sH : Same H H' := fun c u e => fr c u (s1 c u e) (ne_of_none e no)
      refine ⟨_, rfl, _, _, rfl, rfl, _, rfl, ite2 (fun c => ?_) (fun c => ?_)⟩
      · have hc : st ≤ lastP := of_decide_eq_true c
        refine ⟨_, rfl, .inl ⟨rfl, _, .inl (.inl ho)⟩, _, rfl, two, fun T' hT => ?_⟩
        have s4 := same_lay (o := .tup [.int st, .int lastP]) hT
        have noT : T' ≠ o := (ne_of_none ho hT).symm
        refine ⟨o, refs N, _, rfl, rfl, s4 _ _ ho, small1000 (by rw [refs_len]; omega), _, rfl, ?_⟩
        refine q o (N ++ [(T', (st, lastP))]) _ no (by rw [upd_same, refs_snoc]) (fun q hq => ?_) (by rw [rws_snoc, ← hE, if_pos hc]) fun c u e => by rw [upd_ne (ne_of_none e no)]; exact s4 _ _ (sH _ _ e)
        rcases List.mem_append.mp hq with k | k
        · rw [upd_ne (ne_of (hN q k) ho (by intro w; cases w))]
          exact s4 _ _ (hN q k)
        · rw [List.mem_singleton.mp k, upd_ne noT]
          exact upd_same
      · have hc : ¬ st ≤ lastP := fun w => c (decide_eq_true w)
        rw [if_neg hc, List.append_nil] at hE
        exact ⟨_, rfl, q o N H' no ho hN hE sH⟩
end
end OR

namespace OR
open PySem PySem.Spec PyProof.Rows L2
/-! ### Places joined and cut -/
structure IsQ (C : Addr) (H : Hp) (x : Addr) (l : List Row) : Prop where
  is : IsP C H x l
  ok : ∀ r ∈ l, okRow r = true
theorem IsQ.same {C : Addr} {H H' : Hp} {x : Addr} {l : List Row} (h : IsQ C H x l) (s : Same H H') : IsQ C H' x l := ⟨h.is.same s, h.ok⟩
theorem okq {l n : List Row} {C : Addr} {H : Hp} {x : Addr} (h : IsP C H x n) (me : ∀ z, mem n z ↔ mem l z) (ok : ∀ r ∈ l, okRow r = true) : IsQ C H x n := ⟨h, ok_of_mem h.nf me ok⟩
theorem mem_bd {l : List Row} (ok : ∀ r ∈ l, okRow r = true) {z : Int} (h : mem l z) : 0 ≤ z ∧ z ≤ lastP := by
  obtain ⟨r, hr, h1, h2⟩ := h
  have := okRow_iff (ok r hr)
  omega
abbrev Set2 := (Int → Prop) → (Int → Prop) → Int → Prop
def fOr : Set2 := fun p q z => p z ∨ q z
def fAnd : Set2 := fun p q z => p z ∧ q z
def fSub : Set2 := fun p q z => p z ∧ ¬ q z
def fXor : Set2 := fun p q z => (p z ∧ ¬ q z) ∨ (q z ∧ ¬ p z)
def bOr : Nat → Nat → Nat := fun a b => a + b
def bSub : Nat → Nat → Nat := fun a b => a + b + 1
def bXor : Nat → Nat → Nat := fun a b => 2 * (a + b + 1)
/-- an operator of two sets of places -/
def spBin (C : Addr) (F : Set2) (bd : Nat → Nat → Nat) : Sp := fun vs H Q _ => ∃ x y l m, vs = [.ref x, .ref y] ∧ IsQ C H x l ∧ IsQ C H y m ∧ bd l.length m.length ≤ 1000 ∧
  ∀ (z : Addr) (n : List Row) (H' : Hp), H z = none → IsQ C H' z n → (∀ t, mem n t ↔ F (mem l) (mem m) t) → n.length ≤ bd l.length m.length → Same H H' → Q (.ref z) H'
def spWithin (C : Addr) : Sp := fun vs H Q _ => ∃ x y l m, vs = [.ref x, .ref y] ∧ IsQ C H x l ∧ IsQ C H y m ∧ l.length + m.length < 1000 ∧ ∀ (b : Bool) (H' : Hp), (b = true ↔ ∀ t, mem l t → mem m t) → Same H H' → Q (.bl b) H'
section
variable {P : Program} {w : World} {K : PySem.W.Frag} {mg : Str → Option Value} {base : Heap}
theorem sc2 {st : Stmt} (h1 : (defScope st).kind = .function) (h2 : (defScope st).isCoroutine = false) (h3 : (defScope st).isGenerator = false) (h4 : ∀ x ∈ (["self", "other"] : List Str), (defScope st).names.lookup x = some .local ∨ (defScope st).names.lookup x = some .cell) (h5 : ∀ y ∈ (defScope st).names, y.2 ≠ .free) : FnScope ["self", "other"] ["self", "other"] (defScope st) := ⟨h1, h2, h3, by decide +kernel, rfl, h4, h5⟩
theorem scOr : FnScope ["self", "other"] ["self", "other"] (defScope sPlOr) := sc2 rfl rfl rfl (by decide +kernel) (by decide +kernel)
theorem scAnd : FnScope ["self", "other"] ["self", "other"] (defScope sPlAnd) := sc2 rfl rfl rfl (by decide +kernel) (by decide +kernel)
theorem scSub : FnScope ["self", "other"] ["self", "other"] (defScope sPlSub) := sc2 rfl rfl rfl (by decide +kernel) (by decide +kernel)
theorem scXor : FnScope ["self", "other"] ["self", "other"] (defScope sPlXor) := sc2 rfl rfl rfl (by decide +kernel) (by decide +kernel)
theorem scWi : FnScope ["self", "other"] ["self", "other"] (defScope sPlWithin) := sc2 rfl rfl rfl (by decide +kernel) (by decide +kernel)
theorem rws_app (L M : List ARow) : rws (L ++ M) = rws L ++ rws M := by
  unfold rws
  rw [List.map_append]
theorem refs_app (L M : List ARow) : refs (L ++ M) = refs L ++ refs M := by
  unfold refs
  rw [List.map_append]
theorem ok_or {f C : Addr} {fd : FuncData} (F : Fun K "__or__" "Places.__or__" sPlOr f fd) (M : PMk' P w K mg base C) : FnOk P w K mg base CX0 6 f fd ["self", "other"] (spBin C fOr bOr) := by
  have T := M.T
  refine F.ok scOr (fun vs H Q E h => ?_) (fun cdv A outer s H vs Q E hr h => ?_)
  · obtain ⟨x, y, l, m, rfl, _⟩ := h
    rfl
  · obtain ⟨x, y, l, m, rfl, hx, hy, hb, q⟩ := h
    obtain ⟨⟨nf1, dx, t1, f1, b1, L, hx1, ht1, hL, rfl, _⟩, okl⟩ := id hx
    obtain ⟨⟨nf2, dy, t2, f2, b2, N, hy1, ht2, hN, rfl, _⟩, okm⟩ := id hy
    refine ⟨_, pss_one (ps_ret (pe_mkP K rfl M hr (by decide) (by rfl) (pa_cons (pe_op op_catA (pe_fld (pv 0) rfl) (pe_fld (pv 1) rfl)) pa_nil))), ?_⟩
    unfold bOr at hb q
    rw [rws_len, rws_len] at hb q
    have okb : ∀ r ∈ rws (L ++ N), okRow r = true := fun r hr => by
      rw [rws_app] at hr
      exact (List.mem_append.mp hr).elim (okl r) (okm r)
    have fin : ∀ (z : Addr) (n : List Row) (H1 H' : Hp), Same H H1 → H1 z = none → IsP C H' z n → (∀ t, mem n t ↔ mem (rws (L ++ N)) t) → n.length ≤ (L ++ N).length → Same H1 H' → Q (.ref z) H' := fun z n H1 H' s1 nz hz me le s2 =>
      q z n H' (s1.free nz) (okq hz me okb) (fun t => by rw [me t, rws_app, mem_append]; exact Iff.rfl) (by rw [List.length_append] at le; exact le) (s1.trans s2)
    refine ⟨_, rfl, x, C, dx, _, _, rfl, hx1, T.cl, T.nS, pFl_s _ _ _, _, rfl, y, C, dy, _, _, rfl, hy1, T.cl, T.nS, pFl_s _ _ _, t1, t2, refs L, refs N, rfl, rfl, .inl (.inl ht1), .inl (.inl ht2), ?_, fun e => ?_, fun e e2 => ?_, fun e e2 p np => ?_⟩
    · rw [refs_len, refs_len]
      exact small_l hb
    · have e1 : L = [] := List.map_eq_nil_iff.mp e
      refine ⟨t2, N, rfl, .inr (.inl (.inl ht2)), by omega, hN.pairs, okm, fun z n H' nz hz me le s => fin z n H H' (Same.refl _) nz hz (by rw [e1]; exact me) (by rw [e1]; exact le) s⟩
    · have e1 : N = [] := List.map_eq_nil_iff.mp e2
      refine ⟨t1, L, rfl, .inr (.inl (.inl ht1)), by omega, hL.pairs, okl, fun z n H' nz hz me le s => fin z n H H' (Same.refl _) nz hz (by rw [e1, List.append_nil]; exact me) (by rw [e1, List.append_nil]; exact le) s⟩
    · have s1 := same_lay (o := .tup (refs L ++ refs N)) np
      refine ⟨p, L ++ N, rfl, .inr (.inl (.inl ?_)), by rw [List.length_append]; exact hb, fun g hg => (List.mem_append.mp hg).elim (fun k => (hL.same s1).pairs g k) (fun k => (hN.same s1).pairs g k), okb, fun z n H' nz hz me le s => fin z n _ H' s1 nz hz me le s⟩
      rw [refs_app]
      exact upd_same
theorem ok_and {f C : Addr} {fd : FuncData} (F : Fun K "__and__" "Places.__and__" sPlAnd f fd) (M : PMk' P w K mg base C) (CO : Cl P w K mg base 2 "_common" ["ones", "others"] (spCommon K)) : FnOk P w K mg base CX0 6 f fd ["self", "other"] (spBin C fAnd bOr) := by
  have T := M.T
  refine F.ok scAnd (fun vs H Q E h => ?_) (fun cdv A outer s H vs Q E hr h => ?_)
  · obtain ⟨x, y, l, m, rfl, _⟩ := h
    rfl
  · obtain ⟨x, y, l, m, rfl, hx, hy, hb, q⟩ := h
    obtain ⟨⟨nf1, dx, t1, f1, b1, L, hx1, ht1, hL, rfl, _⟩, okl⟩ := id hx
    obtain ⟨⟨nf2, dy, t2, f2, b2, N, hy1, ht2, hN, rfl, _⟩, okm⟩ := id hy
    refine ⟨_, pss_one (ps_ret (pe_mkP K rfl M hr (by decide) (by rfl) (pa_cons (pe_cl CO hr (by decide) (by rfl) (pa_cons (pe_fld (pv 0) rfl) (pa_cons (pe_fld (pv 1) rfl) pa_nil))) pa_nil))), ?_⟩
    unfold bOr at hb q
    rw [rws_len, rws_len] at hb q
    refine ⟨_, rfl, x, C, dx, _, _, rfl, hx1, T.cl, T.nS, pFl_s _ _ _, _, rfl, y, C, dy, _, _, rfl, hy1, T.cl, T.nS, pFl_s _ _ _, t1, t2, L, N, rfl, .inr (.inl (.inl ht1)), .inr (.inl (.inl ht2)), hL, hN, hb, fun o G H1 no ho hG eG s1 => ?_⟩
    have lenG : G.length ≤ L.length + N.length := by
      have := com_len (rws L) (rws N)
      rw [← eG, rws_len, rws_len, rws_len] at this
      exact this
    have okG : ∀ r ∈ rws G, okRow r = true := by rw [eG]; exact com_ok _ _ okl okm
    refine ⟨o, G, rfl, .inl (.inl (.inl ho)), by omega, hG.pairs, okG, fun z n H' nz hz me le s2 => ?_⟩
    refine q z n H' (s1.free nz) (okq hz me okG) (fun t => ?_) (by omega) (s1.trans s2)
    rw [me t, eG, com_mem _ _ nf1 nf2]
    exact Iff.rfl
theorem ok_sub {f C : Addr} {fd : FuncData} (F : Fun K "__sub__" "Places.__sub__" sPlSub f fd) (M : PMk' P w K mg base C) (CO : Cl P w K mg base 2 "_common" ["ones", "others"] (spCommon K)) (GA : Cl P w K mg base 1 "_gaps" ["stretches"] (spGaps K)) : FnOk P w K mg base CX0 6 f fd ["self", "other"] (spBin C fSub bSub) := by
  have T := M.T
  refine F.ok scSub (fun vs H Q E h => ?_) (fun cdv A outer s H vs Q E hr h => ?_)
  · obtain ⟨x, y, l, m, rfl, _⟩ := h
    rfl
  · obtain ⟨x, y, l, m, rfl, hx, hy, hb, q⟩ := h
    obtain ⟨⟨nf1, dx, t1, f1, b1, L, hx1, ht1, hL, rfl, _⟩, okl⟩ := id hx
    obtain ⟨⟨nf2, dy, t2, f2, b2, N, hy1, ht2, hN, rfl, _⟩, okm⟩ := id hy
    refine ⟨_, pss_one (ps_ret (pe_mkP K rfl M hr (by decide) (by rfl) (pa_cons (pe_cl CO hr (by decide) (by rfl) (pa_cons (pe_fld (pv 0) rfl) (pa_cons (pe_cl GA hr (by decide) (by rfl) (pa_cons (pe_fld (pv 1) rfl) pa_nil)) pa_nil))) pa_nil))), ?_⟩
    unfold bSub at hb q
    rw [rws_len, rws_len] at hb q
    have lo : ∀ r ∈ rws N, (0 : Int) ≤ r.1 := fun r hr => (okRow_iff (okm r hr)).1
    have hi : ∀ r ∈ rws N, r.2 ≤ lastP := fun r hr => (okRow_iff (okm r hr)).2.2
    refine ⟨_, rfl, x, C, dx, _, _, rfl, hx1, T.cl, T.nS, pFl_s _ _ _, _, rfl, y, C, dy, _, _, rfl, hy1, T.cl, T.nS, pFl_s _ _ _, t2, N, rfl, .inl (.inl ht2), hN, by omega, fun u U H1 nu hu hU eU s1 => ?_⟩
    have lenU : U.length ≤ N.length + 1 := by
      have := gp_len (rws N) 0
      rw [← eU, rws_len, rws_len] at this
      exact this
    have okU : ∀ r ∈ rws U, okRow r = true := by rw [eU]; exact gp_ok _ _ (Int.le_refl _) okm
    have nfU : Nf (rws U) := by rw [eU]; exact gp_nf _ _ nf2 lo
    refine ⟨t1, u, L, U, rfl, .inr (.inl (.inl (s1 _ _ ht1))), .inl (.inl (.inl hu)), hL.same s1, hU, by omega, fun o G H2 no ho hG eG s2 => ?_⟩
    have lenG : G.length ≤ L.length + N.length + 1 := by
      have := com_len (rws L) (rws U)
      rw [← eG, rws_len, rws_len, rws_len] at this
      omega
    have okG : ∀ r ∈ rws G, okRow r = true := by rw [eG]; exact com_ok _ _ okl okU
    refine ⟨o, G, rfl, .inl (.inl (.inl ho)), by omega, hG.pairs, okG, fun z n H' nz hz me le s3 => ?_⟩
    refine q z n H' ((s1.trans s2).free nz) (okq hz me okG) (fun t => ?_) (by omega) ((s1.trans s2).trans s3)
    rw [me t, eG, com_mem _ _ nf1 nfU, eU, gp_mem _ _ nf2 lo hi]
    constructor
    · exact fun h => ⟨h.1, h.2.2.2⟩
    · intro h
      have := mem_bd okl h.1
      exact ⟨h.1, this.1, this.2, h.2⟩
theorem ok_xor {f C : Addr} {fd : FuncData} (F : Fun K "__xor__" "Places.__xor__" sPlXor f fd) (sf : PySem.W.selfFirst K C = true) (OO : Md P w K mg base 6 C (PySem.dunder (Operator.info .BitOr).2) (spBin C fOr bOr)) (OS : Md P w K mg base 6 C (PySem.dunder (Operator.info .Sub).2) (spBin C fSub bSub)) : FnOk P w K mg base CX0 7 f fd ["self", "other"] (spBin C fXor bXor) := by
  refine F.ok scXor (fun vs H Q E h => ?_) (fun cdv A outer s H vs Q E hr h => ?_)
  · obtain ⟨x, y, l, m, rfl, _⟩ := h
    rfl
  · obtain ⟨x, y, l, m, rfl, hx, hy, hb, q⟩ := h
    refine ⟨_, pss_one (ps_ret (pe_op (op_binS OO sf hr) (pe_op (op_binS OS sf hr) (pv 0) (pv 1)) (pe_op (op_binS OS sf hr) (pv 1) (pv 0)))), ?_⟩
    unfold bXor at hb q
    obtain ⟨⟨_, dx, t1, f1, b1, L, hx1, _⟩, okl⟩ := id hx
    obtain ⟨⟨_, dy, t2, f2, b2, N, hy1, _⟩, okm⟩ := id hy
    refine ⟨_, rfl, _, rfl, x, y, dx, dy, _, _, rfl, rfl, hx1, hy1, x, y, l, m, rfl, hx, hy, (by unfold bSub; omega), fun z n H1 nz hz me le s1 => ?_⟩
    refine ⟨_, rfl, _, rfl, y, x, dy, dx, _, _, rfl, rfl, s1 _ _ hy1, s1 _ _ hx1, y, x, m, l, rfl, hy.same s1, hx.same s1, (by unfold bSub; omega), fun z2 n2 H2 nz2 hz2 me2 le2 s2 => ?_⟩
    have hz' := hz.same s2
    obtain ⟨⟨_, dz, _, _, _, _, hz1, _⟩, _⟩ := id hz'
    obtain ⟨⟨_, dz2, _, _, _, _, hz21, _⟩, _⟩ := id hz2
    unfold bSub at le le2
    refine ⟨z, z2, dz, dz2, _, _, rfl, rfl, hz1, hz21, z, z2, n, n2, rfl, hz', hz2, (by unfold bOr; omega), fun z3 n3 H3 nz3 hz3 me3 le3 s3 => ?_⟩
    unfold bOr at le3
    refine q z3 n3 H3 ((s1.trans s2).free nz3) hz3 (fun t => ?_) (by omega) ((s1.trans s2).trans s3)
    rw [me3 t]
    unfold fOr
    rw [me t, me2 t]
    exact Iff.rfl
theorem isEmpty_mem {n : List Row} (nf : Nf n) : n.isEmpty = true ↔ ∀ t, ¬ mem n t := by
  cases n with
  | nil => exact ⟨fun _ t => mem_nil t, fun _ => rfl⟩
  | cons r n =>
    constructor
    · intro h
      cases h
    · intro h
      exact absurd (mem_cons.mpr (.inl ⟨Int.le_refl _, nf.head⟩)) (h r.1)
theorem bt_boolO : bootBuiltins ("bool" : Str) = some (.type "bool") := bt_bool
theorem ok_within {f C : Addr} {fd : FuncData} (F : Fun K "within" "Places.within" sPlWithin f fd) (T : PTxt K mg C) (sf : PySem.W.selfFirst K C = true) (OS : Md P w K mg base 6 C (PySem.dunder (Operator.info .Sub).2) (spBin C fSub bSub)) (BO : Md P w K mg base 1 C "__bool__" (spPlBool C)) : FnOk P w K mg base CX0 7 f fd ["self", "other"] (spWithin C) := by
  refine F.ok scWi (fun vs H Q E h => ?_) (fun cdv A outer s H vs Q E hr h => ?_)
  · obtain ⟨x, y, l, m, rfl, _⟩ := h
    rfl
  · obtain ⟨x, y, l, m, rfl, hx, hy, hb, q⟩ := h
    refine ⟨_, pss_one (ps_ret (pe_not (pe_callTy (call_boolO BO (hr.mono (by decide))) (by rfl) T.zBool bt_bool (pa_cons (pe_op (op_binS OS sf hr) (pv 0) (pv 1)) pa_nil)))), ?_⟩
    obtain ⟨⟨_, dx, t1, f1, b1, L, hx1, _⟩, okl⟩ := id hx
    obtain ⟨⟨_, dy, t2, f2, b2, N, hy1, _⟩, okm⟩ := id hy
    refine ⟨_, rfl, _, rfl, x, y, dx, dy, _, _, rfl, rfl, hx1, hy1, x, y, l, m, rfl, hx, hy, (by unfold bSub; omega), fun z n H1 nz hz me le s1 => ?_⟩
    obtain ⟨⟨_, dz, _, _, _, _, hz1, _⟩, _⟩ := id hz
    refine ⟨z, dz, _, rfl, hz1, z, n, rfl, hz.is, _, rfl, _, rfl, q _ H1 ?_ s1⟩
    rw [Bool.not_not, isEmpty_mem hz.is.nf]
    constructor
    · intro h t ht
      exact Classical.byContradiction fun k => h t ((me t).mpr ⟨ht, k⟩)
    · intro h t ht
      have := (me t).mp ht
      exact this.2 (h t this.1)
end
end OR

namespace OR
open PySem PySem.Spec PyProof PyProof.Rows L2
/-! ### a set of the integers of a list -/
abbrev eob (w : World) : Obj := { cls := .type "set", dict := none, data := .set #[] 0 (.fresh 0 0 (!w.params.followText "set-order")) }
section
variable {P : Program} {w : World} {A : Around} {E : Value → Shared → Prop} {s : Shared}
/-- what the filling leaves -/
def Filled (w : World) (s : Shared) (ns : List Int) (s2 : Shared) : Prop := ∃ (h' : Heap) (tk c : Nat), s2 = { s with heap := h', toks := tk } ∧ SetR w h' s.heap.objs.size (fun j => decide (j ∈ ns)) c ∧ c ≤ ns.length ∧ ∀ b o, s.heap.get? b = some o → h'.get? b = some o
theorem int_at {items : Array Value} {ns : List Int} (hit : IntsAre items.toList ns) (i : Nat) (v : Value) (hv : items[i]? = some v) : ∃ k t, ns[i]? = some k ∧ v = .int k t := by
  obtain ⟨t, e⟩ := IntsAre.int_at hit i v (by rw [Array.getElem?_toList]; exact hv)
  have hl := IntsAre.length hit
  have hi : i < ns.length := by
    rw [← hl, Array.length_toList]
    exact (Array.getElem?_eq_some_iff.mp hv).1
  refine ⟨ns[i], t, List.getElem?_eq_getElem hi, ?_⟩
  rw [e, List.getD_eq_getElem?_getD, List.getElem?_eq_getElem hi]
  rfl
set_option maxHeartbeats 3200000 in
theorem set_ints {l : Addr} {items : Array Value} (ns : List Int) {Q : Value → Shared → Prop} (hd : A.handled = none) (hl : s.heap.IsList l items) (hit : IntsAre items.toList ns) (few : ns.length + 1 < scanBound)
    (q : ∀ s2, Filled w s ns s2 → Q (.ref s.heap.objs.size) s2) : wpAny (model P w) A (call (.type "set") [.ref l]) Q E s := by
  have lens : items.size = ns.length := (Array.length_toList).symm.trans (IntsAre.length hit)
  obtain ⟨c0, tl0, mro0⟩ := F.called_set.mro
  have made0 := F.called_set.made
  have sub0 := F.called_set.sub
  have nt0 := F.called_set.notType
  have cc0 := F.called_set.canCreate
  have tc0 := F.typeCall_set_1 (.ref l)
  refine wpAny_call (codeAny_of_tree ?_)
  show wpAny _ _ (callAny (.type "set") _) _ _ _
  refine wpAny_pure ⟨Code.quiet_builtin _ (by decide +kernel), codeAny_builtin F.entry_type_call ?_⟩
  rw [Around.under_plain (weight_type_call_type "set" [.ref l] []) rfl]
  repeat (any_goals (first | assumption | wp_step))
  refine codeAny_mono (code_set_led1 (.ref l) (E := E) (Q₁ := fun ob z => ob = .ref s.heap.objs.size ∧ z = { s with heap := s.heap.push (eob w) }) ⟨rfl, rfl⟩) fun r z hz => ?_
  rcases r with e | fl
  · exact hz
  cases fl with
  | ret ob =>
    obtain ⟨rfl, rfl⟩ := hz
    have top0 : (s.heap.push (eob w)).get? s.heap.objs.size = some (eob w) := Heap.get?_push_size _ rfl
    have ty0 : Shared.TypeIs { s with heap := s.heap.push (eob w) } (.ref s.heap.objs.size) "set" := ⟨_, top0, rfl⟩
    have look0 := F.called_set.init.lookup
    have bind0 := F.called_set.init.bind (.ref s.heap.objs.size)
    repeat (any_goals (first | assumption | wp_step))
    refine codeAny_mono (codeAny_call_builtin (R := wants (fun r z => r = .none ∧ Filled w s ns z) E) F.called_set.init.plain F.entry_set_init (check_set_init_1 ty0 ?_)) fun r2 z2 hz2 => ?_
    · obtain ⟨⟨oc, od, odt, osl⟩, hol, hcl, nl, hdl⟩ := hl
      simp only at hcl hdl
      subst hcl hdl
      have hol1 : (s.heap.push (eob w)).get? l = some { cls := .type "list", dict := od, data := .seq items nl, slots := osl } := Heap.get?_push_of_some _ hol
      have lst1 : (s.heap.push (eob w)).IsList l items := ⟨_, hol1, rfl, nl, rfl⟩
      have ns1 := F.sub_list_set
      have nf1 := F.sub_list_frozenset
      have nd1 : (Value.type "list" == Value.type "dict") = false := by decide
      unfold Builtin.«set.__init__» noKeywords Builtin.Frozenset.updateFrom
      generalize hPI : pyIter = PI
      wp_walk
      subst hPI
      refine wpAny_pyIter_list lst1 (wpAny_bind (wpAny_runValue ?_))
      have size1 : (s.heap.push (eob w)).objs.size = s.heap.objs.size + 1 := Heap.size_push ..
      have below : l < s.heap.objs.size := Heap.lt_size hol
      have lI : l ≠ (s.heap.push (eob w)).objs.size := fun e => absurd below (by rw [e, size1]; exact Nat.not_lt.mpr (Nat.le_succ _))
      have away : s.heap.objs.size ∉ [(s.heap.push (eob w)).objs.size, l] := by
        rw [size1]
        intro m
        rcases List.mem_cons.mp m with e | m
        · exact Nat.succ_ne_self _ e.symm
        · exact absurd below (by rw [← List.mem_singleton.mp m]; exact Nat.lt_irrefl _)
      have hd3 : A.in1.in1.in1.handled = none := by simp [hd]
      have start : ((s.heap.push (eob w)).push { cls := .type "list_iterator", data := .fields #[.ref l, .int 0 0] }).get? s.heap.objs.size = some (eob w) := Heap.get?_push_of_some _ top0
      refine set_update_ints ((Walks.list hd3 _ l lI items).toS) s.heap.objs.size away ns lens few (int_at hit) (items.size - 0) 0 _ (by omega) (Nat.zero_le _) ⟨⟨_, Heap.get?_push_size _ rfl, rfl, rfl⟩, lst1.push _⟩
        ⟨0, Nat.le_refl 0, setR_new_at start⟩ ?_
      intro z c mvd lec setz
      obtain ⟨hz, gz, dz, tz, oz⟩ := z
      have g1 : gz = s.gens := mvd.gens
      have g2 : dz = s.drawn := mvd.drawn
      have g3 : oz = s.os := mvd.os
      subst g1 g2 g3
      show wpAny _ _ _ _ _ _
      refine wpAny_pure ?_
      show wpAny _ _ (ret Value.none) _ _ _
      rw [lens] at lec
      refine wpAny_pure ⟨rfl, hz, tz, c, rfl, setz, lec, fun b o e => mvd.heap b o ?_ (Heap.get?_push_of_some _ (Heap.get?_push_of_some _ e))⟩
      have lb : b < s.heap.objs.size := Heap.lt_size e
      rw [size1]
      intro m
      rcases List.mem_cons.mp m with e | m
      · exact absurd lb (by rw [e]; exact Nat.lt_irrefl _)
      · exact absurd lb (by rw [List.mem_singleton.mp m]; exact Nat.not_lt.mpr (Nat.le_succ _))
    · rcases r2 with e | fl2
      · exact hz2
      cases fl2 with
      | ret r =>
        obtain ⟨rfl, fz⟩ := hz2
        obtain ⟨h', tk, c, rfl, R, lc, kp⟩ := id fz
        repeat (any_goals (first | assumption | wp_step))
        exact q _ fz
      | _ => exact hz2.elim
  | _ => exact hz.elim
end
/-- set(xs), xs a list of integers -/
def rSetI (K : PySem.W.Frag) (w : World) : List V → Hp → VK → Prop := fun xs H Q => ∃ (l : Addr) (ns : List Int), xs = [V.ref l] ∧ SqL K H l (ns.map V.int) ∧ ns.length < 1000 ∧
  ∀ a c, H a = none → c ≤ ns.length → Q (.ref a) (upd H a (SetO w a (fun j => decide (j ∈ ns)) c))
theorem call_setI {X : Cx} (K : PySem.W.Frag) (w : World) (hK : X.K = K) (hw : X.w = w) (hc : X.calm = true) : CallR X (.type "set") (rSetI K w) := by
  subst hK hw
  intro pins s σ H xs us Q I r h
  obtain ⟨l, ns, rfl, hl, hf, q⟩ := h
  rw [Vals.ref1 r]
  obtain ⟨its, rv, pl, hz⟩ := I.list hl
  have hn : H s.heap.objs.size = none := I.hok.fresh (Nat.le_refl _)
  refine set_ints (P := X.prog) (w := X.w) ns (I.ok.hd hc) pl.isList (by simpa using intsAre_of rv) (by show ns.length + 1 < scanBound; unfold scanBound; omega) fun s2 ⟨h', tk, c, e, R, lc, k⟩ => ?_
  subst e
  exact ⟨.ref s.heap.objs.size, upd H s.heap.objs.size (SetO X.w s.heap.objs.size (fun j => decide (j ∈ ns)) c), I.laid (t' := tk) k (Nat.le_refl _) (setO_new R), rfl, q _ c hn lc⟩
end OR

namespace OR
open PySem PySem.Spec PyProof.Rows L2
/-! ### terms for sets of places -/
theorem Frm.tp {H H' : Hp} {p a : Addr} {n : Nat} {xs : List V} (f : Frm p H H') (P : Pen H p n) (h : H a = some (.tup xs)) : H' a = some (.tup xs) := by
  obtain ⟨kvs, hp⟩ := P.dict
  exact f _ _ h (ne_of h hp (by intro z; cases z))
theorem IsP.frm {C : Addr} {H H' : Hp} {x p : Addr} {n : Nat} {l : List Row} (h : IsP C H x l) (fr : Frm p H H') (P : Pen H p n) : IsP C H' x l := by
  obtain ⟨nf, dx, t, f, b, M, h1, h2, h3, h4, h5, h6, h7⟩ := h
  have h3' := h3.frm fr P
  obtain ⟨kvs, hp⟩ := P.dict
  have go : ∀ (a : Addr) (o : HO), H a = some o → o ≠ .dK kvs → H' a = some o := fun a o e no => fr a o e (ne_of e hp no)
  exact ⟨nf, dx, t, f, b, M, go _ _ h1 (by intro z; cases z), go _ _ h2 (by intro z; cases z), h3', h4, go _ _ h5 (by intro z; cases z), go _ _ h6 (by intro z; cases z), h7⟩
theorem IsQ.frm {C : Addr} {H H' : Hp} {x p : Addr} {n : Nat} {l : List Row} (h : IsQ C H x l) (fr : Frm p H H') (P : Pen H p n) : IsQ C H' x l := ⟨h.is.frm fr P, h.ok⟩
theorem nf_self {K : PySem.W.Frag} {C : Addr} : PySem.W.notFirst K C (.ref C) = true := by simp [PySem.W.notFirst]
theorem nobl (b : Bool) : (!decide (V.bl b = V.bl b)) = false := by simp
theorem eqT (l : List Row) : PyData.eqv (.tuple (l.map rowD)) (.tuple (l.map rowD)) = true := (eqv_rows l l).trans (decide_eq_true rfl)
theorem pt_imp {X : Cx} {e : Expr} {t t' : TT} (h : PT X e t) (i : ∀ σ H Q, t' σ H Q → t σ H Q) : PT X e t' := ⟨fun pins s σ H Q I q => h.run pins s σ H Q I (i σ H Q q)⟩
/-- a term for a set of places: D its places, b the most stretches, R what the names hold -/
def tSet (C : Addr) (R : L2.St → Hp → Prop) (D : Int → Prop) (b : Nat) : TE := fun σ H Q => R σ H ∧ ∀ (z : Addr) (n : List Row) (H' : Hp), IsQ C H' z n → (∀ t, mem n t ↔ D t) → n.length ≤ b → Same H H' → R σ H' → Q (.ref z) H'
def Mono (R : L2.St → Hp → Prop) : Prop := ∀ σ H H', R σ H → Same H H' → R σ H'
theorem IsQ.ins {C : Addr} {H : Hp} {x : Addr} {l : List Row} (h : IsQ C H x l) : ∃ dx t f b, H x = some (.ins C dx (pFl t f b)) := by
  obtain ⟨_, dx, t, f, b, M, h1, _⟩ := h.is
  exact ⟨dx, t, f, b, h1⟩
theorem ne_f {k : Bool} {D1 D2 : Int → Prop} (hk : k = true ↔ ¬ ∀ t, D1 t ↔ D2 t) (h : ∀ t, D1 t ↔ D2 t) : k = false := by
  cases k
  · rfl
  · exact absurd h (hk.mp rfl)
theorem eq_y {k : Bool} {D1 D2 : Int → Prop} (hk : k = true ↔ ∀ t, D1 t ↔ D2 t) (h : ∀ t, D1 t ↔ D2 t) : k = true := hk.mpr h
theorem iff_rows {n m : List Row} {D1 D2 : Int → Prop} (hn : Nf n) (hm : Nf m) (e1 : ∀ t, mem n t ↔ D1 t) (e2 : ∀ t, mem m t ↔ D2 t) : n = m ↔ ∀ t, D1 t ↔ D2 t :=
  ⟨fun e t => by rw [← e1 t, ← e2 t, e], fun h => Nf.unique hn hm fun t => by rw [e1 t, e2 t, h t]⟩
section
variable {X : Cx} {C : Addr} {R : L2.St → Hp → Prop} {D1 D2 : Int → Prop} {b1 b2 : Nat}
theorem pe_sb {op : Operator} {n B : Nat} {F : Set2} {bd : Nat → Nat → Nat} {a b : Expr} {pos : Pos} (m : Md X.prog X.w X.K X.mg X.base n C (PySem.dunder op.info.2) (spBin C F bd)) (sf : PySem.W.selfFirst X.K C = true) (hr : Room n X.A) (mono : Mono R)
    (hbd : ∀ u v, u ≤ b1 → v ≤ b2 → bd u v ≤ B) (hB : B ≤ 1000) (ha : PE X a (tSet C R D1 b1)) (hb : PE X b (tSet C R D2 b2)) : PE X (.BinOp a op b pos) (tSet C R (F D1 D2) B) := by
  refine pe_imp (pe_op (op_binS m sf hr) ha hb) fun σ H Q ⟨r, q⟩ => ?_
  refine ⟨r, fun z n1 H1 hz me1 le1 s1 r1 => ⟨r1, fun z2 n2 H2 hz2 me2 le2 s2 r2 => ?_⟩⟩
  have hzs := hz.same s2
  obtain ⟨dx, t, f, b, e1⟩ := hzs.ins
  obtain ⟨dy, t', f', b', e2⟩ := hz2.ins
  refine ⟨z, z2, dx, dy, _, _, rfl, rfl, e1, e2, z, z2, n1, n2, rfl, hzs, hz2, Nat.le_trans (hbd _ _ le1 le2) hB, fun z3 n3 H3 _ hz3 me3 le3 s3 => ?_⟩
  have ed1 : mem n1 = D1 := funext fun t => propext (me1 t)
  have ed2 : mem n2 = D2 := funext fun t => propext (me2 t)
  exact q z3 n3 H3 hz3 (fun t => by rw [me3 t, ed1, ed2]) (Nat.le_trans le3 (hbd _ _ le1 le2)) ((s1.trans s2).trans s3) (mono _ _ _ r2 s3)
theorem pt_sne {k : Nat} {a b : Expr} {pos : Pos} (K : PySem.W.Frag) (hK : X.K = K) (T : PTxt K X.mg C) (EQ : Md X.prog X.w X.K X.mg X.base k C "__eq__" (spPlEq K C)) (ne : PySem.W.findIn X.K (.ref C) "__ne__" = some (some (.builtin "object.__ne__"))) (hr : Room (k + 1) X.A)
    (hm : behindInMarks .NotEq b = false) (ha : PE X a (tSet C R D1 b1)) (hb : PE X b (tSet C R D2 b2)) :
    PT X (.Compare a [.NotEq] [b] pos) (fun σ H Q => R σ H ∧ ∀ (k : Bool) (H' : Hp), (k = true ↔ ¬ ∀ t, D1 t ↔ D2 t) → Same H H' → R σ H' → Q k H') := by
  subst hK
  refine pt_imp (pt_cmpR (op_neO X.K rfl EQ ne T.isi.cm hr) ha hb hm) fun σ H Q ⟨r, q⟩ => ?_
  refine ⟨r, fun z n1 H1 hz me1 le1 s1 r1 => ⟨r1, fun z2 n2 H2 hz2 me2 le2 s2 r2 => ?_⟩⟩
  have hzs := hz.same s2
  obtain ⟨dx, t, f, b, e1⟩ := hzs.ins
  obtain ⟨dy, t', f', b', e2⟩ := hz2.ins
  refine ⟨z, dx, _, rfl, e1, ⟨.ref C, tyP T e2, nf_self⟩, z, n1, .ref z2, rfl, hzs.is, .inl ⟨z2, n2, rfl, hz2.is, _, rfl, _, rfl, q _ H2 ?_ (s1.trans s2) r2⟩⟩
  rw [← iff_rows hz.is.nf hz2.is.nf me1 me2, Bool.not_eq_true', decide_eq_false_iff_not]
theorem pe_seq {k : Nat} {a b : Expr} {pos : Pos} (K : PySem.W.Frag) (hK : X.K = K) (T : PTxt K X.mg C) (EQ : Md X.prog X.w X.K X.mg X.base k C "__eq__" (spPlEq K C)) (hr : Room k X.A)
    (hm : behindInMarks .Eq b = false) (ha : PE X a (tSet C R D1 b1)) (hb : PE X b (tSet C R D2 b2)) :
    PE X (.Compare a [.Eq] [b] pos) (fun σ H Q => R σ H ∧ ∀ (k : Bool) (H' : Hp), (k = true ↔ ∀ t, D1 t ↔ D2 t) → Same H H' → R σ H' → Q (.bl k) H') := by
  subst hK
  refine pe_imp (pe_cmpR (op_eqO X.K rfl EQ hr) ha hb hm) fun σ H Q ⟨r, q⟩ => ?_
  refine ⟨r, fun z n1 H1 hz me1 le1 s1 r1 => ⟨r1, fun z2 n2 H2 hz2 me2 le2 s2 r2 => ?_⟩⟩
  have hzs := hz.same s2
  obtain ⟨dx, t, f, b, e1⟩ := hzs.ins
  obtain ⟨dy, t', f', b', e2⟩ := hz2.ins
  refine ⟨z, dx, _, rfl, e1, ⟨.ref C, tyP T e2, nf_self⟩, z, n1, .ref z2, rfl, hzs.is, .inl ⟨z2, n2, rfl, hz2.is, q _ H2 ?_ (s1.trans s2) r2⟩⟩
  rw [← iff_rows hz.is.nf hz2.is.nf me1 me2, decide_eq_true_eq]
end
/-! ### three sets keep the rules -/
def R3 (C : Addr) (x y z : Addr) (l m n : List Row) : L2.St → Hp → Prop := fun σ H => σ = [some (.ref x), some (.ref y), some (.ref z)] ∧ IsQ C H x l ∧ IsQ C H y m ∧ IsQ C H z n
theorem R3.mono {C x y z : Addr} {l m n : List Row} : Mono (R3 C x y z l m n) := fun σ H H' ⟨e, a, b, c⟩ s => ⟨e, a.same s, b.same s, c.same s⟩
def spRules (C : Addr) : Sp := fun vs H Q _ => ∃ (x y z : Addr) (l m n : List Row), vs = [.ref x, .ref y, .ref z] ∧ IsQ C H x l ∧ IsQ C H y m ∧ IsQ C H z n ∧ l.length ≤ 20 ∧ m.length ≤ 20 ∧ n.length ≤ 20 ∧ ∀ H', Same H H' → Q (.bl true) H'
section
variable {P : Program} {w : World} {K : PySem.W.Frag} {mg : Str → Option Value} {base : Heap}
theorem scRu : FnScope ["_law_one", "_law_two", "_law_three"] ["_law_one", "_law_two", "_law_three"] (defScope sRules) := ⟨rfl, rfl, rfl, by decide +kernel, rfl, by decide +kernel, by decide +kernel⟩
theorem ok_rules {f C : Addr} {fd : FuncData} (F : Fun K "_law_rules_hold" "_law_rules_hold" sRules f fd) (T : PTxt K mg C) (sf : PySem.W.selfFirst K C = true) (ne : PySem.W.findIn K (.ref C) "__ne__" = some (some (.builtin "object.__ne__")))
    (EQ : Md P w K mg base 1 C "__eq__" (spPlEq K C)) (OO : Md P w K mg base 6 C (PySem.dunder (Operator.info .BitOr).2) (spBin C fOr bOr)) (OA : Md P w K mg base 6 C (PySem.dunder (Operator.info .BitAnd).2) (spBin C fAnd bOr))
    (OS : Md P w K mg base 6 C (PySem.dunder (Operator.info .Sub).2) (spBin C fSub bSub)) (OX : Md P w K mg base 7 C (PySem.dunder (Operator.info .BitXor).2) (spBin C fXor bXor)) : FnOk P w K mg base CX0 8 f fd ["_law_one", "_law_two", "_law_three"] (spRules C) := by
  refine F.ok scRu (fun vs H Q E h => ?_) (fun cdv A outer s H vs Q E hr h => ?_)
  · obtain ⟨x, y, z, l, m, n, rfl, _⟩ := h
    rfl
  · obtain ⟨x, y, z, l, m, n, rfl, hx, hy, hz, ll, lm, ln, q⟩ := h
    have nd := scRu.nd
    have mono : Mono (R3 C x y z l m n) := R3.mono
    have hr6 : Room 6 _ := hr.mono (by decide)
    have hr7 : Room 7 _ := hr.mono (by decide)
    have hr1 : Room 1 _ := hr.mono (by decide)
    have hr2 : Room 2 _ := hr.mono (by decide)
    have bo : ∀ {p r : Nat} u v, u ≤ p → v ≤ r → bOr u v ≤ p + r := fun u v h1 h2 => by show u + v ≤ _; omega
    have bs : ∀ {p r : Nat} u v, u ≤ p → v ≤ r → bSub u v ≤ p + r + 1 := fun u v h1 h2 => by show u + v + 1 ≤ _; omega
    have bx : ∀ {p r : Nat} u v, u ≤ p → v ≤ r → bXor u v ≤ 2 * (p + r + 1) := fun u v h1 h2 => by show 2 * (u + v + 1) ≤ _; omega
    have v0 : ∀ σ H Q, tSet C (R3 C x y z l m n) (mem l) 20 σ H Q → tVar 0 σ H Q := fun σ H Q ⟨r, q⟩ => ⟨_, by rw [r.1]; rfl, q x l H r.2.1 (fun _ => Iff.rfl) ll (Same.refl _) r⟩
    have v1 : ∀ σ H Q, tSet C (R3 C x y z l m n) (mem m) 20 σ H Q → tVar 1 σ H Q := fun σ H Q ⟨r, q⟩ => ⟨_, by rw [r.1]; rfl, q y m H r.2.2.1 (fun _ => Iff.rfl) lm (Same.refl _) r⟩
    have v2 : ∀ σ H Q, tSet C (R3 C x y z l m n) (mem n) 20 σ H Q → tVar 2 σ H Q := fun σ H Q ⟨r, q⟩ => ⟨_, by rw [r.1]; rfl, q z n H r.2.2.2 (fun _ => Iff.rfl) ln (Same.refl _) r⟩
    refine ⟨_, pss_cons (ps_if (PW.pt (pw_or (pt_sne K rfl T EQ ne hr2 (nomark _) (pe_sb OX sf hr7 mono bx (by decide) (pe_imp (pv 0) v0) (pe_imp (pv 1) v1)) (pe_sb OS sf hr6 mono bs (by decide) (pe_sb OO sf hr6 mono bo (by decide) (pe_imp (pv 0) v0) (pe_imp (pv 1) v1)) (pe_sb OA sf hr6 mono bo (by decide) (pe_imp (pv 0) v0) (pe_imp (pv 1) v1))))
          (pw_or1 (pt_sne K rfl T EQ ne hr2 (nomark _) (pe_sb OO sf hr6 mono bo (by decide) (pe_sb OS sf hr6 mono bs (by decide) (pe_imp (pv 0) v0) (pe_imp (pv 1) v1)) (pe_sb OA sf hr6 mono bo (by decide) (pe_imp (pv 0) v0) (pe_imp (pv 1) v1))) (pe_imp (pv 0) v0))))) (pss_one (ps_ret pe_bl)) pss_nil)
      (pss_cons (ps_if (PW.pt (pw_or (pt_sne K rfl T EQ ne hr2 (nomark _) (pe_sb OA sf hr6 mono bo (by decide) (pe_imp (pv 0) v0) (pe_sb OO sf hr6 mono bo (by decide) (pe_imp (pv 1) v1) (pe_imp (pv 2) v2))) (pe_sb OO sf hr6 mono bo (by decide) (pe_sb OA sf hr6 mono bo (by decide) (pe_imp (pv 0) v0) (pe_imp (pv 1) v1)) (pe_sb OA sf hr6 mono bo (by decide) (pe_imp (pv 0) v0) (pe_imp (pv 2) v2))))
          (pw_or1 (pt_sne K rfl T EQ ne hr2 (nomark _) (pe_sb OO sf hr6 mono bo (by decide) (pe_imp (pv 0) v0) (pe_sb OA sf hr6 mono bo (by decide) (pe_imp (pv 1) v1) (pe_imp (pv 2) v2))) (pe_sb OA sf hr6 mono bo (by decide) (pe_sb OO sf hr6 mono bo (by decide) (pe_imp (pv 0) v0) (pe_imp (pv 1) v1)) (pe_sb OO sf hr6 mono bo (by decide) (pe_imp (pv 0) v0) (pe_imp (pv 2) v2))))))) (pss_one (ps_ret pe_bl)) pss_nil)
      (pss_one (ps_ret (pe_and (pe_seq K rfl T EQ hr1 (nomark _) (pe_sb OS sf hr6 mono bs (by decide) (pe_imp (pv 0) v0) (pe_sb OO sf hr6 mono bo (by decide) (pe_imp (pv 1) v1) (pe_imp (pv 2) v2))) (pe_sb OA sf hr6 mono bo (by decide) (pe_sb OS sf hr6 mono bs (by decide) (pe_imp (pv 0) v0) (pe_imp (pv 1) v1)) (pe_sb OS sf hr6 mono bs (by decide) (pe_imp (pv 0) v0) (pe_imp (pv 2) v2))))
          (pe_one (pe_seq K rfl T EQ hr1 (nomark _) (pe_sb OX sf hr7 mono bx (by decide) (pe_sb OX sf hr7 mono bx (by decide) (pe_imp (pv 0) v0) (pe_imp (pv 1) v1)) (pe_imp (pv 2) v2)) (pe_sb OX sf hr7 mono bx (by decide) (pe_imp (pv 0) v0) (pe_sb OX sf hr7 mono bx (by decide) (pe_imp (pv 1) v1) (pe_imp (pv 2) v2))))))))), ?_⟩
    have em : ∀ t, (mem l t ∨ ¬ mem l t) ∧ (mem m t ∨ ¬ mem m t) ∧ (mem n t ∨ ¬ mem n t) := fun t => ⟨Classical.em _, Classical.em _, Classical.em _⟩
    refine ⟨⟨rfl, hx, hy, hz⟩, fun k1 H1 e1 s1 r1 => ?_⟩
    rw [ne_f e1 fun t => by obtain ⟨a | a, b | b, c | c⟩ := em t <;> simp [fOr, fAnd, fSub, fXor, a, b, c]]
    refine iteF ⟨r1, fun k2 H2 e2 s2 r2 => ?_⟩
    rw [ne_f e2 fun t => by obtain ⟨a | a, b | b, c | c⟩ := em t <;> simp [fOr, fAnd, fSub, fXor, a, b, c]]
    refine iteF ⟨r2, fun k3 H3 e3 s3 r3 => ?_⟩
    rw [ne_f e3 fun t => by obtain ⟨a | a, b | b, c | c⟩ := em t <;> simp [fOr, fAnd, fSub, fXor, a, b, c]]
    refine iteF ⟨r3, fun k4 H4 e4 s4 r4 => ?_⟩
    rw [ne_f e4 fun t => by obtain ⟨a | a, b | b, c | c⟩ := em t <;> simp [fOr, fAnd, fSub, fXor, a, b, c]]
    refine iteF ⟨r4, fun k5 H5 e5 s5 r5 => ⟨k5, rfl, ?_⟩⟩
    rw [eq_y e5 fun t => by obtain ⟨a | a, b | b, c | c⟩ := em t <;> simp [fOr, fAnd, fSub, fXor, a, b, c]]
    refine iteT ⟨r5, fun k6 H6 e6 s6 r6 => ?_⟩
    rw [eq_y e6 fun t => by obtain ⟨a | a, b | b, c | c⟩ := em t <;> simp [fOr, fAnd, fSub, fXor, a, b, c]]
    exact q _ (((((s1.trans s2).trans s3).trans s4).trans s5).trans s6)
end
end OR

namespace OR
open PySem PySem.Spec PyProof.Rows L2
/-! ### pieces between ends -/
def hasB (l : List Row) (z : Int) : Bool := l.any fun r => decide (r.1 ≤ z) && decide (z ≤ r.2)
theorem hasB_iff (l : List Row) (z : Int) : hasB l z = true ↔ mem l z := by
  unfold hasB
  rw [List.any_eq_true]
  constructor
  · rintro ⟨r, hr, h⟩
    rw [Bool.and_eq_true, decide_eq_true_eq, decide_eq_true_eq] at h
    exact ⟨r, hr, h.1, h.2⟩
  · rintro ⟨r, hr, h1, h2⟩
    exact ⟨r, hr, by rw [Bool.and_eq_true, decide_eq_true_eq, decide_eq_true_eq]; exact ⟨h1, h2⟩⟩
theorem hasB_snoc (l : List Row) (r : Row) (z : Int) : hasB (l ++ [r]) z = (hasB l z || (decide (r.1 ≤ z) && decide (z ≤ r.2))) := by
  unfold hasB
  rw [List.any_append, List.any_cons, List.any_nil, Bool.or_false]
def gd (ns : List Int) (i : Nat) : Int := ns.getD i 0
theorem gd_at {ns : List Int} {i : Nat} (h : i < ns.length) : ns[i]? = some (gd ns i) := by
  unfold gd
  rw [List.getD_eq_getElem?_getD, List.getElem?_eq_getElem h]
  rfl
def pk (f : Int → Bool) (ns : List Int) : Nat → List Row
  | 0 => []
  | k + 1 => pk f ns k ++ (if f (gd ns k) = true then [(gd ns k, gd ns (k + 1) - 1)] else [])
theorem pk_of {f : Int → Bool} {ns : List Int} {q : Row} : ∀ {k : Nat}, q ∈ pk f ns k → ∃ j, j < k ∧ f (gd ns j) = true ∧ q = (gd ns j, gd ns (j + 1) - 1)
  | 0, h => nomatch h
  | k + 1, h => by
    unfold pk at h
    rcases List.mem_append.mp h with h | h
    · obtain ⟨j, a, b, c⟩ := pk_of h
      exact ⟨j, Nat.lt_succ_of_lt a, b, c⟩
    · by_cases c : f (gd ns k) = true
      · rw [if_pos c, List.mem_singleton] at h
        exact ⟨k, Nat.lt_succ_self k, c, h⟩
      · rw [if_neg c] at h
        exact nomatch h
theorem pk_in {f : Int → Bool} {ns : List Int} {j : Nat} (hf : f (gd ns j) = true) : ∀ {k : Nat}, j < k → (gd ns j, gd ns (j + 1) - 1) ∈ pk f ns k
  | 0, h => absurd h (Nat.not_lt_zero _)
  | k + 1, h => by
    unfold pk
    rcases Nat.lt_succ_iff_lt_or_eq.mp h with h | h
    · exact List.mem_append_left _ (pk_in hf h)
    · subst h
      rw [if_pos hf]
      exact List.mem_append_right _ (List.mem_singleton.mpr rfl)
theorem pk_len (f : Int → Bool) (ns : List Int) : ∀ k, (pk f ns k).length ≤ k
  | 0 => Nat.le_refl _
  | k + 1 => by
    unfold pk
    have := pk_len f ns k
    rw [List.length_append]
    split
    · rw [List.length_singleton]
      omega
    · rw [List.length_nil]
      omega
theorem asc {ns : List Int} (h : ns.Pairwise (· < ·)) {i j : Nat} (hij : i < j) (hj : j < ns.length) : gd ns i < gd ns j := by
  have hi : i < ns.length := by omega
  have a := List.pairwise_iff_getElem.mp h i j hi hj hij
  have e1 := gd_at hi
  have e2 := gd_at hj
  rw [List.getElem?_eq_getElem hi] at e1
  rw [List.getElem?_eq_getElem hj] at e2
  rw [← Option.some.inj e1, ← Option.some.inj e2]
  exact a
theorem ascL {ns : List Int} (h : ns.Pairwise (· < ·)) {i j : Nat} (hij : i ≤ j) (hj : j < ns.length) : gd ns i ≤ gd ns j := by
  rcases Nat.lt_or_eq_of_le hij with k | k
  · exact Int.le_of_lt (asc h k hj)
  · rw [k]
    exact Int.le_refl _
theorem find_piece {ns : List Int} {z : Int} (lo : gd ns 0 ≤ z) : ∀ k, z < gd ns k → ∃ j, j + 1 ≤ k ∧ gd ns j ≤ z ∧ z < gd ns (j + 1)
  | 0, h => by omega
  | k + 1, h => by
    by_cases c : z < gd ns k
    · obtain ⟨j, a, b⟩ := find_piece lo k c
      exact ⟨j, by omega, b⟩
    · exact ⟨k, Nat.le_refl _, by omega, h⟩
theorem no_between {ns : List Int} (h : ns.Pairwise (· < ·)) {e z : Int} (he : e ∈ ns) {j : Nat} (hj : j + 1 < ns.length) (h1 : gd ns j ≤ z) (h2 : z < gd ns (j + 1)) : e ≤ z ↔ e ≤ gd ns j := by
  obtain ⟨i, hi, rfl⟩ := List.getElem_of_mem he
  have ei : ns[i] = gd ns i := Option.some.inj (by rw [← List.getElem?_eq_getElem hi, gd_at hi])
  rw [ei]
  constructor
  · intro k
    by_cases c : i ≤ j
    · exact ascL h c (by omega)
    · have := ascL h (show j + 1 ≤ i by omega) hi
      omega
  · intro k
    omega
theorem hasB_const {ns : List Int} (h : ns.Pairwise (· < ·)) {l : List Row} (hl : ∀ r ∈ l, r.1 ∈ ns ∧ r.2 + 1 ∈ ns) {z : Int} {j : Nat} (hj : j + 1 < ns.length) (h1 : gd ns j ≤ z) (h2 : z < gd ns (j + 1)) : hasB l z = hasB l (gd ns j) := by
  rw [Bool.eq_iff_iff, hasB_iff, hasB_iff]
  have go : ∀ r ∈ l, (r.1 ≤ z ∧ z ≤ r.2) ↔ (r.1 ≤ gd ns j ∧ gd ns j ≤ r.2) := fun r hr => by
    have a := no_between h (hl r hr).1 hj h1 h2
    have b := no_between h (hl r hr).2 hj h1 h2
    omega
  exact ⟨fun ⟨r, hr, k⟩ => ⟨r, hr, (go r hr).mp k⟩, fun ⟨r, hr, k⟩ => ⟨r, hr, (go r hr).mpr k⟩⟩
/-- the pieces at which f is true, of all places from 0 to the last one -/
theorem pk_all {f : Int → Bool} {ns : List Int} (h : ns.Pairwise (· < ·)) (h0 : (0 : Int) ∈ ns) (hL : lastP + 1 ∈ ns) (hb : ∀ e ∈ ns, 0 ≤ e ∧ e ≤ lastP + 1) (hf : ∀ (z : Int) (j : Nat), j + 1 < ns.length → gd ns j ≤ z → z < gd ns (j + 1) → f z = f (gd ns j)) :
    (∀ z, mem (pk f ns (ns.length - 1)) z ↔ (0 ≤ z ∧ z ≤ lastP ∧ f z = true)) ∧ ∀ q ∈ pk f ns (ns.length - 1), okRow q = true := by
  have hpos : 0 < ns.length := List.length_pos_of_mem h0
  have at_in : ∀ i, i < ns.length → gd ns i ∈ ns := fun i hi => List.mem_of_getElem? (gd_at hi)
  refine ⟨fun z => ⟨?_, ?_⟩, ?_⟩
  · rintro ⟨q, hq, k1, k2⟩
    obtain ⟨j, hj, hfj, rfl⟩ := pk_of hq
    have b1 := hb _ (at_in j (by omega))
    have b2 := hb _ (at_in (j + 1) (by omega))
    dsimp only at k1 k2
    exact ⟨by omega, by omega, by rw [hf z j (by omega) k1 (by omega)]; exact hfj⟩
  · rintro ⟨k1, k2, k3⟩
    have lo : gd ns 0 ≤ z := by
      obtain ⟨i, hi, e⟩ := List.getElem_of_mem h0
      have ei : gd ns i = 0 := by rw [← e]; exact (Option.some.inj (by rw [← List.getElem?_eq_getElem hi, gd_at hi])).symm
      have := ascL h (Nat.zero_le i) hi
      omega
    have hi2 : z < gd ns (ns.length - 1) := by
      obtain ⟨i, hi, e⟩ := List.getElem_of_mem hL
      have ei : gd ns i = lastP + 1 := by rw [← e]; exact (Option.some.inj (by rw [← List.getElem?_eq_getElem hi, gd_at hi])).symm
      have := ascL h (show i ≤ ns.length - 1 by omega) (by omega)
      omega
    obtain ⟨j, hj, a, b⟩ := find_piece lo _ hi2
    have hfj : f (gd ns j) = true := by rw [← hf z j (by omega) a b]; exact k3
    exact ⟨_, pk_in hfj (show j < ns.length - 1 by omega), a, by dsimp only; omega⟩
  · intro q hq
    obtain ⟨j, hj, hfj, rfl⟩ := pk_of hq
    have b1 := hb _ (at_in j (by omega))
    have b2 := hb _ (at_in (j + 1) (by omega))
    have a : gd ns j < gd ns (j + 1) := asc h (Nat.lt_succ_self j) (show j + 1 < ns.length by omega)
    exact okRow_of (by omega) (by omega) (by omega)
end OR

namespace OR
open PySem PySem.Spec PyProof.Rows L2
/-! ### _law_has, _law_mixed -/
theorem eqL0 (l : List Row) : PyData.eqv (.list (l.map rowD)) (.list []) = l.isEmpty := by cases l <;> rfl
def spHas (K : PySem.W.Frag) : Sp := fun vs H Q _ => ∃ (a : Addr) (x : Int) (L : List ARow), vs = [.ref a, .int x] ∧ SqL K H a (refs L) ∧ AtR H L ∧ L.length ≤ 100 ∧ ∀ H', Same H H' → Q (.bl (hasB (rws L) x)) H'
section
variable {P : Program} {w : World} {K : PySem.W.Frag} {mg : Str → Option Value} {base : Heap}
theorem scHa : FnScope ["_law_rows", "_law_x", "_law_row"] ["_law_rows", "_law_x"] (defScope sHas) := ⟨rfl, rfl, rfl, by decide +kernel, rfl, by decide +kernel, by decide +kernel⟩
theorem ok_has {f : Addr} {fd : FuncData} (F : Fun K "_law_has" "_law_has" sHas f fd) : FnOk P w K mg base CX0 1 f fd ["_law_rows", "_law_x"] (spHas K) := by
  refine F.ok scHa (fun vs H Q E h => ?_) (fun cdv A outer s H vs Q E hr h => ?_)
  · obtain ⟨a, x, L, rfl, _⟩ := h
    rfl
  · obtain ⟨a, x, L, rfl, hS, hL, hlen, q⟩ := h
    have nd := scHa.nd
    have hu64 : (A.deeper (envOfC "_law_has" (defScope sHas) s.heap.objs.size f cdv)).units + 64 < cLine := hr.units
    refine ⟨_, pss_one (ps_ret (pe_cmpR (op_neD hu64) (pe_lc (own := [("_law_row", 2)]) (g := gName 2) rfl nd (pi_list (pv 0)) (blkOk_by (N := ["_law_rows", "_law_x", "_law_row"]) (sc := defScope sHas) (by decide +kernel))
        (fun _ _ _ _ _ => pg_name (i := 2) nd rfl (.inl rfl)) (fun _ _ _ _ _ => pts_one (pt_chain op_le op_le (pe_ix (ix_any K rfl) (pv 2) pe_int (fun _ _ => rfl)) (pv 1) (pe_ix (ix_any K rfl) (pv 2) pe_int (fun _ _ => rfl)))) (fun _ _ _ _ _ => pv 2)) (pe_lst pa_nil) (nomark _))), ?_⟩
    refine ⟨_, rfl, a, rfl, ⟨_, hS⟩, fun D hD => lc_list (K := K) (a := a) (xs := refs L) (fun i H2 => ∃ N : List ARow, H2 D = some (.lst (refs N)) ∧ AtR H2 N ∧ (rws N).isEmpty = !(hasB ((rws L).take i) x) ∧ Same H H2 ∧ N.length ≤ i)
        ⟨[], upd_same, (fun _ z => nomatch z), rfl, same_lay hD, Nat.le_refl _⟩ (fun i H2 _ ⟨_, _, _, _, s, _⟩ => s.seq hS) ?_ ?_⟩
    · rintro i y H2 hy ⟨N, hD2, hN, eN, s2, lN⟩
      obtain ⟨z, hz, hzL, rfl⟩ := refs_get hy
      have hil : i < L.length := (List.getElem?_eq_some_iff.mp hz).1
      have ez := s2 _ _ (hL z hzL)
      have e1 : (rws L).take (i + 1) = (rws L).take i ++ [z.2] := by rw [List.take_add_one, rws_get hz]; rfl
      have nND : ∀ q ∈ N, q.1 ≠ D := fun q hq => ne_of (hN q hq) hD2 (by intro w; cases w)
      have g0 : ∀ (u v : Int), atI [V.int u, .int v] 0 = some (.int u) := fun _ _ => atI_nat (j := 0) rfl
      have g1 : ∀ (u v : Int), atI [V.int u, .int v] 1 = some (.int v) := fun _ _ => atI_nat (j := 1) rfl
      have tz : ∀ {H'' : Hp}, H'' z.1 = some (.tup [.int z.2.1, .int z.2.2]) → SqL K H'' z.1 [.int z.2.1, .int z.2.2] ∨ SqT K H'' z.1 [.int z.2.1, .int z.2.2] := fun h => .inr (.inl (.inl h))
      have no : (decide (z.2.1 ≤ x) && decide (x ≤ z.2.2)) = false → ∃ N' : List ARow, H2 D = some (.lst (refs N')) ∧ AtR H2 N' ∧ (rws N').isEmpty = !(hasB ((rws L).take (i + 1)) x) ∧ Same H H2 ∧ N'.length ≤ i + 1 := fun c => ⟨N, hD2, hN, by rw [e1, hasB_snoc, c, Bool.or_false]; exact eN, s2, Nat.le_succ_of_le lN⟩
      refine ⟨rfl, _, rfl, z.1, _, 0, _, rfl, rfl, tz ez, g0 _ _, _, rfl, _, _, rfl, rfl, _, rfl, ite2 (fun c1 => ?_) (fun c1 => ?_)⟩
      · refine ⟨_, rfl, z.1, _, 1, _, rfl, rfl, tz ez, g1 _ _, _, _, rfl, rfl, _, rfl, ?_⟩
        cases c2 : decide (x ≤ z.2.2) with
        | false => exact iteF (no (by rw [c2, Bool.and_false]))
        | true =>
          refine iteT ⟨_, rfl, refs N, hD2, small1000 (by rw [refs_len]; omega), N ++ [z], ?_, fun q hq => ?_, ?_, same_upd s2 hD, by rw [List.length_append]; exact Nat.succ_le_succ lN⟩
          · rw [upd_same, refs_snoc]
          · have nzD : z.1 ≠ D := ne_of ez hD2 (by intro w; cases w)
            rcases List.mem_append.mp hq with j | j
            · rw [upd_ne (nND q j)]
              exact hN q j
            · rw [List.mem_singleton.mp j, upd_ne nzD]
              exact ez
          · rw [rws_snoc, e1, hasB_snoc, c2, Bool.and_true, show decide (z.2.1 ≤ x) = true from c1, Bool.or_true]
            cases rws N <;> rfl
      · refine ⟨_, rfl, iteF (no ?_)⟩
        have c1' : decide (z.2.1 ≤ x) = false := Bool.eq_false_iff.mpr c1
        rw [c1']
        rfl
    · rintro H2 ⟨N, hD2, hN, eN, s2, lN⟩
      rw [refs_len, List.take_of_length_le (by rw [rws_len]; exact Nat.le_refl _)] at eN
      refine ⟨Nat.zero_le _, fun e ne => ?_⟩
      have Se := same_lay (o := .lst []) ne
      refine ⟨.list ((rws N).map rowD), .list [], .lst (.inl (.inl (Se _ _ hD2))) (dp_rows (hN.same Se)), .lst (.inl (.inl upd_same)) .nil, shp_lst _, rfl, ?_⟩
      rw [eqL0, eN, Bool.not_not]
      exact q _ (s2.trans Se)
end
end OR

namespace OR
open PySem PySem.Spec PyProof.Rows L2
def keptV (kk : Bool → Bool → Bool) : List V := [.bl (kk false false), .bl (kk false true), .bl (kk true false), .bl (kk true true)]
theorem kept_at (kk : Bool → Bool → Bool) (h1 h2 : Bool) : atI (keptV kk) (2 * (if h1 = true then 1 else 0) + (if h2 = true then 1 else 0)) = some (.bl (kk h1 h2)) := by
  cases h1 <;> cases h2
  · exact atI_nat (j := 0) rfl
  · exact atI_nat (j := 1) rfl
  · exact atI_nat (j := 2) rfl
  · exact atI_nat (j := 3) rfl
def spMixed (K : PySem.W.Frag) : Sp := fun vs H Q _ => ∃ (a b c : Addr) (L M : List ARow) (kk : Bool → Bool → Bool), vs = [.ref a, .ref b, .ref c] ∧ H a = some (.lst (refs L)) ∧ H b = some (.lst (refs M)) ∧ H c = some (.lst (keptV kk)) ∧ AtR H L ∧ AtR H M ∧ (∀ r ∈ rws L, okRow r = true) ∧ (∀ r ∈ rws M, okRow r = true) ∧ L.length + M.length ≤ 30 ∧
  ∀ (t : Addr) (N : List ARow) (H' : Hp), Same H H' → H' t = some (.tup (refs N)) → AtR H' N → Nf (rws N) → (∀ z, mem (rws N) z ↔ (0 ≤ z ∧ z ≤ lastP ∧ kk (hasB (rws L) z) (hasB (rws M) z) = true)) → N.length < 64 → Q (.ref t) H'
section
variable {P : Program} {w : World} {K : PySem.W.Frag} {mg : Str → Option Value} {base : Heap}
theorem scMi : FnScope ["_law_one", "_law_other", "_law_kept", "_law_edges", "_law_found", "_law_first", "_law_last", "_law_k"] ["_law_one", "_law_other", "_law_kept"] (defScope sMixed) := ⟨rfl, rfl, rfl, by decide +kernel, rfl, by decide +kernel, by decide +kernel⟩
theorem ok_mixed {f C : Addr} {fd : FuncData} (F : Fun K "_law_mixed" "_law_mixed" sMixed f fd) (B : Bd mg) (T : PTxt K mg C) (HA : Cl P w K mg base 1 "_law_has" ["_law_rows", "_law_x"] (spHas K)) (MG : Cl P w K mg base 1 "_law_merged" ["_law_rows"] (spMerged K)) :
    FnOk P w K mg base CX0 2 f fd ["_law_one", "_law_other", "_law_kept"] (spMixed K) := by
  refine F.ok scMi (fun vs H Q E h => ?_) (fun cdv A outer s H vs Q E hr h => ?_)
  · obtain ⟨a, b, c, L, M, kk, rfl, _⟩ := h
    rfl
  · obtain ⟨a, b, c, L, M, kk, rfl, ha, hb, hc, hL, hM, okL, okM, hlen, q⟩ := h
    have nd := scMi.nd
    have hpow : CPow 10 30 := ⟨by decide, by decide, by decide⟩
    refine ⟨_, pss_cons (ps_par (i := 3) (j := 4) rfl nd rfl rfl (by decide) rfl rfl (pa_cons (pe_lst (pa_cons pe_int (pa_cons (pe_op op_add (pe_op op_pow pe_int pe_int) pe_int) pa_nil))) (pa_cons (pe_lst pa_nil) pa_nil)) rfl)
      (pss_cons (ps_for PassesOwn.never rfl (pi_list (pe_op op_cat (pv 0) (pv 1))) (pg_tup rfl (pgs_cons (pg_name (i := 5) nd rfl (.inl rfl)) (pgs_cons (pg_name (i := 6) nd rfl (.inl rfl)) pgs_nil)))
        (pss_one (ps_set (i := 3) nd rfl (.inl rfl) (pe_op op_cat (pv 3) (pe_lst (pa_cons (pv 5) (pa_cons (pe_op op_add (pv 6) pe_int) pa_nil)))))))
      (pss_cons (ps_set (i := 3) nd rfl (.inl rfl) (pe_callB (cr_sortedSet rfl) (by rfl) B.sorted bt_sorted (pa_cons (pe_callTy (call_setI K w rfl rfl rfl) (by rfl) B.set bt_set (pa_cons (pv 3) pa_nil)) pa_nil)))
      (pss_cons (ps_for PassesOwn.never rfl (pi_range1 (by rfl) B.range (pa_cons (pe_op op_sub (pe_callB call_len_seq (by rfl) B.len PySem.boot_len (pa_cons (pv 3) pa_nil)) pe_int) pa_nil)) (pg_name (i := 7) nd rfl (.inl rfl))
        (pss_one (ps_if (pt_val (pe_ix ix_list (pv 2) (pe_op op_add (pe_op op_mul pe_int (pe_callTy call_int1 (by rfl) B.int bt_int (pa_cons (pe_cl HA hr (by decide) (by rfl) (pa_cons (pv 0) (pa_cons (pe_ix ix_list (pv 3) (pv 7) (fun _ _ => rfl)) pa_nil))) pa_nil)))
              (pe_callTy call_int1 (by rfl) B.int bt_int (pa_cons (pe_cl HA hr (by decide) (by rfl) (pa_cons (pv 1) (pa_cons (pe_ix ix_list (pv 3) (pv 7) (fun _ _ => rfl)) pa_nil))) pa_nil))) (fun _ _ => rfl)))
          (pss_one (ps_expr (pe_bm PySem.F.plainAttrs_list PySem.F.slot_list_append PySem.F.type_list_append mt_append (pv 4) (pa_cons (pe_tup (pa_cons (pe_ix ix_list (pv 3) (pv 7) (fun _ _ => rfl)) (pa_cons (pe_op op_sub (pe_ix ix_list (pv 3) (pe_op op_add (pv 7) pe_int) (fun _ _ => rfl)) pe_int) pa_nil))) pa_nil)))) pss_nil)))
      (pss_one (ps_ret (pe_callTy call_tuple_of (by rfl) T.zTup bt_tup (pa_cons (pe_cl MG hr (by decide) (by rfl) (pa_cons (pv 4) pa_nil)) pa_nil))))))), ?_⟩
    have e30 : (10 : Int) ^ (30 : Int).toNat + 1 = lastP + 1 := by decide
    refine ⟨_, _, rfl, rfl, hpow, _, _, rfl, rfl, by show 2 ≤ sizeLine; decide, fun e0 ne0 => ⟨Nat.zero_le _, fun fo nfo => ⟨_, _, rfl, ?_⟩⟩⟩
    have S0 := same_lay (o := .lst [.int 0, .int ((10 : Int) ^ (30 : Int).toNat + 1)]) ne0
    have he0 : (upd H e0 (.lst [.int 0, .int ((10 : Int) ^ (30 : Int).toNat + 1)])) e0 = some (.lst [.int 0, .int ((10 : Int) ^ (30 : Int).toNat + 1)]) := upd_same
    have S1 := S0.trans (same_lay (o := .lst []) nfo)
    have nf0 : H fo = none := Option.eq_none_iff_forall_ne_some.mpr fun u eu => by rw [S0 _ _ eu] at nfo; cases nfo
    have he1 := same_lay (o := .lst []) nfo _ _ he0
    have hf1 : (upd (upd H e0 (.lst [.int 0, .int ((10 : Int) ^ (30 : Int).toNat + 1)])) fo (.lst [])) fo = some (.lst []) := upd_same
    generalize upd (upd H e0 (.lst [.int 0, .int ((10 : Int) ^ (30 : Int).toNat + 1)])) fo (.lst []) = H1 at *
    clear S0 he0 nfo
    have lrl : (refs L).length + (refs M).length ≤ sizeLine := by
      rw [refs_len, refs_len]
      exact small_l (by omega)
    refine ⟨_, rfl, _, rfl, a, b, _, _, rfl, rfl, S1 _ _ ha, S1 _ _ hb, lrl, fun p np => ?_⟩
    have Sp := same_lay (o := .lst (refs L ++ refs M)) np
    have hp2 : (upd H1 p (.lst (refs L ++ refs M))) p = some (.lst (refs (L ++ M))) := by rw [upd_same, refs_app]
    have S2 := S1.trans Sp
    have he2 := Sp _ _ he1
    have hf2 := Sp _ _ hf1
    have hall : ∀ H', Same (upd H1 p (.lst (refs L ++ refs M))) H' → AtR H' (L ++ M) := fun H' S g hg => (List.mem_append.mp hg).elim (fun k => S _ _ (S2 _ _ (hL g k))) fun k => S _ _ (S2 _ _ (hM g k))
    have okA : ∀ r ∈ rws (L ++ M), okRow r = true := fun r hr => by
      rw [rws_app] at hr
      exact (List.mem_append.mp hr).elim (okL r) (okM r)
    refine ⟨p, rfl, ⟨_, .inl (.inl upd_same)⟩, ?_⟩
    generalize upd H1 p (.lst (refs L ++ refs M)) = H2 at *
    have el : (L ++ M).length ≤ 30 := by rw [List.length_append]; exact hlen
    refine for_list (K := K) (a := p) (xs := refs (L ++ M)) (fun i σ H' => ∃ e es f l, σ = [some (.ref a), some (.ref b), some (.ref c), some (.ref e), some (.ref fo), f, l, none] ∧ H' e = some (.lst (es.map V.int)) ∧ (∀ z ∈ es, 0 ≤ z ∧ z ≤ lastP + 1) ∧ (0 : Int) ∈ es ∧ lastP + 1 ∈ es ∧ (∀ r ∈ (rws (L ++ M)).take i, r.1 ∈ es ∧ r.2 + 1 ∈ es) ∧ es.length = 2 + 2 * i ∧ Same H2 H')
      ⟨e0, [0, lastP + 1], none, none, rfl, he2, ?_, ?_, ?_, ?_, rfl, Same.refl _⟩ (fun i σ H' _ ⟨_, _, _, _, _, _, _, _, _, _, _, s⟩ => .inl (.inl (s _ _ hp2))) ?_ ?_
    · intro z hz
      have l0 : 0 ≤ lastP := by decide
      simp only [List.mem_cons, List.not_mem_nil, or_false] at hz
      rcases hz with rfl | rfl <;> omega
    · exact List.mem_cons_self
    · exact List.mem_cons_of_mem _ List.mem_cons_self
    · intro r hr
      rw [List.take_zero] at hr
      exact nomatch hr
    · rintro i y σ H' hy ⟨e, es, f, l, rfl, he, hes, h0, hl, hin, len, s⟩
      obtain ⟨z, hz, hzL, rfl⟩ := refs_get hy
      have hil : i < (L ++ M).length := (List.getElem?_eq_some_iff.mp hz).1
      have ez := hall H' s z hzL
      have oz := okRow_iff (okA z.2 (List.mem_map.mpr ⟨z, hzL, rfl⟩))
      refine ⟨z.1, _, rfl, .inl (.inl ez), rfl, _, _, rfl, _, _, rfl, rfl, ?_⟩
      refine ⟨_, rfl, _, rfl, _, rfl, _, _, rfl, rfl, by show 2 ≤ sizeLine; decide, fun u nu => ?_⟩
      have Su := same_lay (o := .lst [.int z.2.1, .int (z.2.2 + 1)]) nu
      refine ⟨e, u, _, _, rfl, rfl, Su _ _ he, upd_same, ?_, fun v nv => ?_⟩
      · show (es.map V.int).length + 2 ≤ sizeLine
        rw [List.length_map]
        exact small_l (by omega)
      have Sv := Su.trans (same_lay (o := .lst (es.map V.int ++ [.int z.2.1, .int (z.2.2 + 1)])) nv)
      refine ⟨v, es ++ [z.2.1, z.2.2 + 1], _, _, rfl, ?_, ?_, List.mem_append_left _ h0, List.mem_append_left _ hl, ?_, ?_, s.trans Sv⟩
      · rw [upd_same, List.map_append]
        rfl
      · intro g hg
        rcases List.mem_append.mp hg with k | k
        · exact hes g k
        · simp only [List.mem_cons, List.not_mem_nil, or_false] at k
          rcases k with rfl | rfl <;> omega
      · intro r hr
        rw [List.take_add_one, rws_get hz] at hr
        rcases List.mem_append.mp hr with k | k
        · exact ⟨List.mem_append_left _ (hin r k).1, List.mem_append_left _ (hin r k).2⟩
        · rw [List.mem_singleton.mp k]
          exact ⟨List.mem_append_right _ List.mem_cons_self, List.mem_append_right _ (List.mem_cons_of_mem _ List.mem_cons_self)⟩
      · rw [List.length_append, len]
        show 2 + 2 * i + 2 = _
        omega
    rintro σ H3 ⟨e, es, f, l, rfl, he, hes, h0, hl, hin, len, S3⟩
    rw [refs_len] at hin len
    rw [List.take_of_length_le (by rw [rws_len]; exact Nat.le_refl _)] at hin
    refine ⟨_, rfl, e, es, rfl, .inl (.inl he), by omega, fun u cc nu hcc => ⟨u, _, cc, rfl, upd_same, by omega, fun ns o hs hm hln no => ?_⟩⟩
    have S4 := (same_lay (o := SetO w u (fun j => decide (j ∈ es)) cc) nu).trans (same_lay (o := .lst (ns.map V.int)) no)
    have ho4 : (upd (upd H3 u (SetO w u (fun j => decide (j ∈ es)) cc)) o (.lst (ns.map V.int))) o = some (.lst (ns.map V.int)) := upd_same
    have hm' : ∀ z, z ∈ ns ↔ z ∈ es := fun z => (hm z).trans decide_eq_true_iff
    generalize upd (upd H3 u (SetO w u (fun j => decide (j ∈ es)) cc)) o (.lst (ns.map V.int)) = H4 at *
    have SS := (S2.trans S3).trans S4
    have hf4 := S4 _ _ (S3 _ _ hf2)
    have hpos : 0 < ns.length := List.length_pos_of_mem ((hm' 0).mpr h0)
    let fn : Int → Bool := fun z => kk (hasB (rws L) z) (hasB (rws M) z)
    have hinL : ∀ r ∈ rws L, r.1 ∈ ns ∧ r.2 + 1 ∈ ns := fun r hr => by
      have := hin r (by rw [rws_app]; exact List.mem_append_left _ hr)
      exact ⟨(hm' _).mpr this.1, (hm' _).mpr this.2⟩
    have hinM : ∀ r ∈ rws M, r.1 ∈ ns ∧ r.2 + 1 ∈ ns := fun r hr => by
      have := hin r (by rw [rws_app]; exact List.mem_append_right _ hr)
      exact ⟨(hm' _).mpr this.1, (hm' _).mpr this.2⟩
    obtain ⟨pmem, pok⟩ := pk_all (f := fn) hs ((hm' 0).mpr h0) ((hm' _).mpr hl) (fun z hz => hes z ((hm' z).mp hz)) fun z j hj h1 h2 => by
      show kk (hasB (rws L) z) (hasB (rws M) z) = kk (hasB (rws L) (gd ns j)) (hasB (rws M) (gd ns j))
      rw [hasB_const hs hinL hj h1 h2, hasB_const hs hinM hj h1 h2]
    have hns : ns.length ≤ 63 := by omega
    clear hin hes h0 hl hcc nu hm no he hinL hinM
    generalize hJ : ((ns.map V.int).length : Int) - 1 = J
    have hJ' : J = (ns.length : Int) - 1 := by rw [← hJ, List.length_map]
    have nsat : ∀ i, i < ns.length → atI (ns.map V.int) (i : Int) = some (.int (gd ns i)) := fun i hi => atI_nat (by rw [List.getElem?_map, gd_at hi]; rfl)
    refine ⟨_, rfl, o, _, rfl, .inl (.inl (.inl ho4)), _, _, rfl, rfl, J, congrArg (fun z => [V.int z]) hJ, by omega, by omega, for_range (n := J.toNat) (fun i σ H' => ∃ sk N, σ = [some (.ref a), some (.ref b), some (.ref c), some (.ref o), some (.ref fo), f, l, sk] ∧ H' fo = some (.lst (refs N)) ∧ AtR H' N ∧ rws N = pk fn ns i ∧ Fre fo H4 H')
      ⟨none, [], rfl, hf4, (fun _ z => nomatch z), rfl, Fre.refl _ _⟩ ?_ ?_⟩
    · rintro i σ H5 hi ⟨sk, N, rfl, hfo, hN, eN, fr⟩
      have hi2 : i + 1 < ns.length := by omega
      have S5 : Same H H5 := fun g u eu => fr g u (SS _ _ eu) (ne_of_none eu nf0)
      have ho5 : H5 o = some (.lst (ns.map V.int)) := fr _ _ ho4 (fun eo => by
        rw [eo, hf4] at ho4
        injection ho4 with e2
        injection e2 with e2
        have e3 := congrArg List.length e2
        rw [List.length_map, List.length_nil] at e3
        omega)
      have at0 : atI (ns.map V.int) (0 + (i : Int)) = some (.int (gd ns i)) := by rw [Int.zero_add]; exact nsat i (by omega)
      have at1 : atI (ns.map V.int) (0 + (i : Int) + 1) = some (.int (gd ns (i + 1))) := by rw [Int.zero_add]; exact nsat (i + 1) hi2
      refine ⟨_, rfl, _, rfl, _, rfl, _, rfl, o, _, _, _, rfl, rfl, .inl (.inl ho5), at0, a, gd ns i, L, rfl, .inl (.inl (S5 _ _ ha)), hL.same S5, by omega, fun H6 S6 => .inr ⟨_, rfl, ?_⟩⟩
      have hmul : CMul 2 (if hasB (rws L) (gd ns i) = true then 1 else 0) := .inl ⟨by decide, by decide⟩
      refine ⟨_, _, rfl, rfl, hmul, _, rfl, _, rfl, _, rfl, o, _, _, _, rfl, rfl, .inl (.inl (S6 _ _ ho5)), at0, b, gd ns i, M, rfl, .inl (.inl (S6 _ _ (S5 _ _ hb))), (hM.same S5).same S6, by omega, fun H7 S7 => .inr ⟨_, rfl, ?_⟩⟩
      have S67 := S6.trans S7
      refine ⟨_, _, rfl, rfl, c, keptV kk, _, _, rfl, rfl, .inl (.inl (S67 _ _ (S5 _ _ hc))), kept_at kk _ _, _, rfl, ?_⟩
      have hfo7 := S67 _ _ hfo
      have hN7 := hN.same S67
      have ho7 := S67 _ _ ho5
      have fr7 : Fre fo H4 H7 := fun g u eu ne => S67 _ _ (fr g u eu ne)
      have lenN : N.length ≤ 63 := by
        have := pk_len fn ns i
        rw [← eN, rws_len] at this
        omega
      cases hk : kk (hasB (rws L) (gd ns i)) (hasB (rws M) (gd ns i)) with
      | false =>
        have hk' : ¬ fn (gd ns i) = true := by
          show ¬ kk (hasB (rws L) (gd ns i)) (hasB (rws M) (gd ns i)) = true
          rw [hk]
          exact Bool.false_ne_true
        refine iteF ⟨_, N, rfl, hfo7, hN7, ?_, fr7⟩
        rw [eN]
        show _ = pk fn ns i ++ _
        rw [if_neg hk', List.append_nil]
      | true =>
        have hk' : fn (gd ns i) = true := hk
        refine iteT ?_
        refine ⟨_, rfl, .inl ⟨rfl, _, .inl (.inl hfo7)⟩, _, rfl, _, rfl, o, _, _, _, rfl, rfl, .inl (.inl ho7), at0, _, rfl, _, rfl, _, _, rfl, rfl, o, _, _, _, rfl, rfl, .inl (.inl ho7), at1, _, _, rfl, rfl, by show 2 ≤ sizeLine; decide, fun T' hT => ?_⟩
        have s4 := same_lay (o := .tup [.int (gd ns i), .int (gd ns (i + 1) - 1)]) hT
        have noT : T' ≠ fo := (ne_of_none hfo7 hT).symm
        refine ⟨fo, refs N, _, rfl, rfl, s4 _ _ hfo7, small1000 (by rw [refs_len]; omega), ?_⟩
        refine ⟨_, N ++ [(T', (gd ns i, gd ns (i + 1) - 1))], rfl, by rw [upd_same, refs_snoc], fun g hg => ?_, ?_, (fr7.trans (fun b' u e' _ => s4 b' u e')).trans Fre.put⟩
        · rcases List.mem_append.mp hg with k | k
          · rw [upd_ne (ne_of (hN7 g k) hfo7 (by intro w; cases w))]
            exact s4 _ _ (hN7 g k)
          · rw [List.mem_singleton.mp k, upd_ne noT]
            exact upd_same
        · rw [rws_snoc, eN]
          show _ = pk fn ns i ++ _
          rw [if_pos hk']
    · rintro σ H5 ⟨sk, N, rfl, hfo, hN, eN, fr⟩
      have S5 : Same H H5 := fun g u eu => fr g u (SS _ _ eu) (ne_of_none eu nf0)
      have eJ : J.toNat = ns.length - 1 := by omega
      rw [eJ] at eN
      have okN : ∀ r ∈ rws N, okRow r = true := by rw [eN]; exact pok
      have lenN : N.length < 64 := by
        have := pk_len fn ns (ns.length - 1)
        rw [← eN, rws_len] at this
        omega
      refine ⟨_, rfl, fo, N, rfl, .inl (.inl hfo), hN, okN, lenN, fun o2 M2 H7 S7 no2 ho2 hM2 hnf hme lenM _ => ⟨o2, refs M2, rfl, .inl ⟨.inl (.inl ho2), fun t nt => ?_⟩⟩⟩
      have St := same_lay (o := .tup (refs M2)) nt
      exact q t M2 _ ((S5.trans S7).trans St) upd_same (hM2.same St) hnf (fun z => by rw [hme z, eN, pmem z]) lenM
end
end OR

namespace OR
open PySem PySem.Spec PyProof.Rows L2
/-! ### _law_second -/
def spSecond (K : PySem.W.Frag) : Sp := fun vs H Q _ => ∃ (p a : Addr) (L : List ARow) (n : Nat), vs = [.ref p, .ref a] ∧ H a = some (.lst (refs L)) ∧ AtR H L ∧ (∀ r ∈ rws L, okRow r = true) ∧ Nf (rws L) ∧ L.length ≤ 20 ∧ Pen H p n ∧ n ≤ 600000 ∧
  ∀ (o : Addr) (N : List ARow) (H' : Hp), Pen H' p (n + 2000) → Frm p H H' → H' o = some (.lst (refs N)) → AtR H' N → (∀ r ∈ rws N, okRow r = true) → Nf (rws N) → N.length ≤ L.length + 2 → Q (.ref o) H'
section
variable {P : Program} {w : World} {K : PySem.W.Frag} {mg : Str → Option Value} {base : Heap}
theorem scSe : FnScope ["_law_pen_here", "_law_rows", "_law_found", "_law_first", "_law_last", "_law_half", "_law_some"] ["_law_pen_here", "_law_rows"] (defScope sSecond) := ⟨rfl, rfl, rfl, by decide +kernel, rfl, by decide +kernel, by decide +kernel⟩
theorem ok_second {f : Addr} {fd : FuncData} (F : Fun K "_law_second" "_law_second" sSecond f fd) (B : Bd mg) (D : Cl P w K mg base 1 "_law_draw" ["_law_pen_here", "_law_many"] spDraw) (C : Cl P w K mg base 2 "_law_pick" ["_law_pen_here", "_law_items"] (spPick K))
    (MG : Cl P w K mg base 1 "_law_merged" ["_law_rows"] (spMerged K)) (DR : Cl P w K mg base 3 "_law_drawn" ["_law_pen_here", "_law_most"] spDrawn) : FnOk P w K mg base CX0 4 f fd ["_law_pen_here", "_law_rows"] (spSecond K) := by
  refine F.ok scSe (fun vs H Q E h => ?_) (fun cdv A outer s H vs Q E hr h => ?_)
  · obtain ⟨p, a, L, n, rfl, _⟩ := h
    rfl
  · obtain ⟨p, a, L, n, rfl, ha, hL, okL, nfL, hlen, hP, hn, q⟩ := h
    have nd := scSe.nd
    have hpow : CPow 10 30 := ⟨by decide, by decide, by decide⟩
    obtain ⟨c0, hc0, hcn⟩ := hP.cells
    refine ⟨_, pss_cons (ps_set (i := 2) nd rfl (.inl rfl) (pe_lst pa_nil))
      (pss_cons (ps_for PassesOwn.never rfl (pi_list (pv 1)) (pg_tup rfl (pgs_cons (pg_name (i := 3) nd rfl (.inl rfl)) (pgs_cons (pg_name (i := 4) nd rfl (.inl rfl)) pgs_nil)))
        (pss_cons (ps_set (i := 5) nd rfl (.inl rfl) (pe_op op_add (pv 3) (pe_op op_fdivW (pe_op op_sub (pv 4) (pv 3)) pe_int)))
        (pss_cons (ps_set (i := 6) nd rfl (.inl rfl) (pe_lst (pa_cons (pe_tup (pa_cons (pv 3) (pa_cons (pv 4) pa_nil)))
            (pa_cons (pe_tup (pa_cons (pe_callB (call_max2 rfl) (by rfl) B.max bt_max (pa_cons pe_int (pa_cons (pe_callTy call_int1 (by rfl) B.int bt_int (pa_cons (pe_op op_sub (pv 3) pe_int) pa_nil)) pa_nil))) (pa_cons (pv 3) pa_nil)))
            (pa_cons (pe_tup (pa_cons (pv 4) (pa_cons (pe_callB (call_min2 rfl) (by rfl) B.min bt_min (pa_cons (pe_op op_pow pe_int pe_int) (pa_cons (pe_callTy call_int1 (by rfl) B.int bt_int (pa_cons (pe_op op_add (pv 4) pe_int) pa_nil)) pa_nil))) pa_nil)))
            (pa_cons (pe_tup (pa_cons (pv 5) (pa_cons (pv 4) pa_nil))) pa_nil))))))
        (pss_one (ps_if (pt_cmpR op_gt (pe_cl D hr (by decide) (by rfl) (pa_cons (pv 0) (pa_cons pe_int pa_nil))) pe_int (nomark _))
          (pss_one (ps_expr (pe_bm PySem.F.plainAttrs_list PySem.F.slot_list_append PySem.F.type_list_append mt_append (pv 2) (pa_cons (pe_cl C hr (by decide) (by rfl) (pa_cons (pv 0) (pa_cons (pe_op op_cat (pv 6)
            (pe_lst (pa_cons (pe_tup (pa_cons (pv 3) (pa_cons (pv 3) pa_nil))) (pa_cons (pe_tup (pa_cons (pv 4) (pa_cons (pv 4) pa_nil))) pa_nil)))) pa_nil))) pa_nil)))) pss_nil)))))
      (pss_one (ps_ret (pe_ifExp (pt_cmpR op_gt (pe_cl D hr (by decide) (by rfl) (pa_cons (pv 0) (pa_cons pe_int pa_nil))) pe_int (nomark _))
        (pe_cl MG hr (by decide) (by rfl) (pa_cons (pe_op op_cat (pv 2) (pe_cl DR hr (by decide) (by rfl) (pa_cons (pv 0) (pa_cons pe_int pa_nil)))) pa_nil))
        (pe_callTy call_list_of (by rfl) B.list bt_list (pa_cons (pv 1) pa_nil)))))), ?_⟩
    refine ⟨Nat.zero_le _, fun o no => ?_⟩
    have s1 := same_lay (o := .lst []) no
    have nco : c0 ≠ o := fun e => hcn (by rw [e]; exact no)
    have two : 2 ≤ sizeLine := by decide
    have four : 4 ≤ sizeLine := by decide
    have eL : lastP = 10 ^ 30 := rfl
    have e30 : (10 : Int) ^ (30 : Int).toNat = lastP := by decide
    refine ⟨_, rfl, a, rfl, ⟨_, .inl (.inl (s1 _ _ ha))⟩, for_list (K := K) (a := a) (xs := refs L) (fun i σ H' => ∃ f l hf sm, ∃ G : List ARow, σ = [some (.ref p), some (.ref a), some (.ref o), f, l, hf, sm] ∧ H' o = some (.lst (refs G)) ∧ AtR H' G ∧ (∀ r ∈ rws G, okRow r = true) ∧ G.length ≤ i ∧ Pen H' p (n + 10 * i) ∧ Frm p H H')
        ⟨none, none, none, none, [], rfl, upd_same, (fun _ z => nomatch z), (fun _ z => nomatch z), Nat.le_refl _, hP.new no, Frm.new no⟩ (fun i σ H' _ ⟨_, _, _, _, _, _, _, _, _, _, _, fr⟩ => .inl (.inl (fr.lst hP ha))) ?_ ?_⟩
    · rintro i y σ H1 hy ⟨f, l, hf, sm, G, rfl, ho, hG, okG, lG, hPn, hFr⟩
      obtain ⟨z, hz, hzL, rfl⟩ := refs_get hy
      have hil : i < L.length := (List.getElem?_eq_some_iff.mp hz).1
      have ez := (hL.frm hFr hP) z hzL
      have okz := okRow_iff (okL z.2 (mem_rws.mpr ⟨z.1, hzL⟩))
      refine ⟨z.1, _, rfl, .inl (.inl ez), rfl, _, _, rfl, _, _, rfl, rfl, ?_⟩
      refine ⟨_, rfl, _, rfl, _, rfl, _, _, rfl, rfl, _, _, rfl, rfl, div200 (by decide) (by decide) _, _, _, rfl, rfl, ?_⟩
      have hd : 0 ≤ (z.2.2 - z.2.1) / 2 ∧ (z.2.2 - z.2.1) / 2 ≤ z.2.2 - z.2.1 := by omega
      refine ⟨_, rfl, _, rfl, two, fun t1 h1 => ?_⟩
      have u1 := same_lay (o := .tup [.int z.2.1, .int z.2.2]) h1
      have a1 : (upd H1 t1 (.tup [.int z.2.1, .int z.2.2])) t1 = some (.tup [.int z.2.1, .int z.2.2]) := upd_same
      generalize upd H1 t1 (.tup [.int z.2.1, .int z.2.2]) = H2 at *
      refine ⟨_, rfl, _, _, rfl, rfl, .inl ⟨_, rfl, _, _, rfl, _, rfl, two, fun t2 h2 => ?_⟩⟩
      have u2 := same_lay (o := .tup [.int (mx 0 (z.2.1 - 3)), .int z.2.1]) h2
      have a2 : (upd H2 t2 (.tup [.int (mx 0 (z.2.1 - 3)), .int z.2.1])) t2 = some (.tup [.int (mx 0 (z.2.1 - 3)), .int z.2.1]) := upd_same
      refine ⟨_, rfl, _, _, rfl, rfl, hpow, _, rfl, _, _, rfl, rfl, .inl ⟨_, rfl, _, _, rfl, two, fun t3 h3 => ?_⟩⟩
      have u3 := same_lay (o := .tup [.int z.2.2, .int (mn ((10 : Int) ^ (30 : Int).toNat) (z.2.2 + 2))]) h3
      have a3 := upd_same (H := upd H2 t2 (.tup [.int (mx 0 (z.2.1 - 3)), .int z.2.1])) (a := t3) (o := .tup [.int z.2.2, .int (mn ((10 : Int) ^ (30 : Int).toNat) (z.2.2 + 2))])
      refine ⟨_, rfl, _, rfl, two, fun t4 h4 => ⟨four, fun sl hsl => ?_⟩⟩
      have u4 := same_lay (o := .tup [.int (z.2.1 + (z.2.2 - z.2.1) / 2), .int z.2.2]) h4
      have u5 := same_lay (o := .lst [.ref t1, .ref t2, .ref t3, .ref t4]) hsl
      have U := (((u1.trans u2).trans u3).trans u4).trans u5
      have b1 := u5 _ _ (u4 _ _ (u3 _ _ (u2 _ _ a1)))
      have b2 := u5 _ _ (u4 _ _ (u3 _ _ a2))
      have b3 := u5 _ _ (u4 _ _ a3)
      have b4 := u5 _ _ (upd_same (H := upd (upd H2 t2 (.tup [.int (mx 0 (z.2.1 - 3)), .int z.2.1])) t3 (.tup [.int z.2.2, .int (mn ((10 : Int) ^ (30 : Int).toNat) (z.2.2 + 2))])) (a := t4) (o := .tup [.int (z.2.1 + (z.2.2 - z.2.1) / 2), .int z.2.2]))
      have b5 := upd_same (H := upd (upd (upd H2 t2 (.tup [.int (mx 0 (z.2.1 - 3)), .int z.2.1])) t3 (.tup [.int z.2.2, .int (mn ((10 : Int) ^ (30 : Int).toNat) (z.2.2 + 2))])) t4 (.tup [.int (z.2.1 + (z.2.2 - z.2.1) / 2), .int z.2.2])) (a := sl) (o := .lst [.ref t1, .ref t2, .ref t3, .ref t4])
      have ho3 := U _ _ ho
      have hG3 := hG.same U
      have P3 := hPn.same' U
      have F3 := hFr.trans (frmS (p := p) U)
      clear u1 u2 u3 u4 u5 h1 h2 h3 h4 hsl a1 a2 a3 ez
      refine ⟨_, rfl, p, 3, _, rfl, by decide, by decide, P3, by omega, fun r H4 _ _ P4 F4 => ⟨_, _, rfl, rfl, _, rfl, ite2 (fun _ => ?_) (fun _ => ?_)⟩⟩
      · have ho4 := F4.lst P3 ho3
        refine ⟨_, rfl, .inl ⟨rfl, _, .inl (.inl ho4)⟩, _, rfl, _, rfl, _, rfl, _, rfl, two, fun t5 h5 => ?_⟩
        refine ⟨_, rfl, _, rfl, two, fun t6 h6 => ⟨two, fun m2 hm2 => ?_⟩⟩
        have v1 := same_lay (o := .tup [.int z.2.1, .int z.2.1]) h5
        have v2 := same_lay (o := .tup [.int z.2.2, .int z.2.2]) h6
        have v3 := same_lay (o := .lst [.ref t5, .ref t6]) hm2
        have b6 := F4.lst P3 b5
        refine ⟨sl, m2, _, _, rfl, rfl, v3 _ _ (v2 _ _ (v1 _ _ b6)), upd_same, by show 4 + 2 ≤ sizeLine; decide, fun cl hcl => ?_⟩
        have v4 := same_lay (o := .lst ([.ref t1, .ref t2, .ref t3, .ref t4] ++ [.ref t5, .ref t6])) hcl
        have V := ((v1.trans v2).trans v3).trans v4
        have hSL : AtR (upd (upd (upd (upd H4 t5 (.tup [.int z.2.1, .int z.2.1])) t6 (.tup [.int z.2.2, .int z.2.2])) m2 (.lst [.ref t5, .ref t6])) cl (.lst ([.ref t1, .ref t2, .ref t3, .ref t4] ++ [.ref t5, .ref t6])))
            [(t1, (z.2.1, z.2.2)), (t2, (mx 0 (z.2.1 - 3), z.2.1)), (t3, (z.2.2, mn ((10 : Int) ^ (30 : Int).toNat) (z.2.2 + 2))), (t4, (z.2.1 + (z.2.2 - z.2.1) / 2, z.2.2)), (t5, (z.2.1, z.2.1)), (t6, (z.2.2, z.2.2))] := fun g hg => by
          simp only [List.mem_cons, List.not_mem_nil, or_false] at hg
          rcases hg with rfl | rfl | rfl | rfl | rfl | rfl
          · exact V _ _ (F4.tp P3 b1)
          · exact V _ _ (F4.tp P3 b2)
          · exact V _ _ (F4.tp P3 b3)
          · exact V _ _ (F4.tp P3 b4)
          · exact v4 _ _ (v3 _ _ (v2 _ _ upd_same))
          · exact v4 _ _ (v3 _ _ upd_same)
        have okS : ∀ g ∈ [(t1, (z.2.1, z.2.2)), (t2, (mx 0 (z.2.1 - 3), z.2.1)), (t3, (z.2.2, mn ((10 : Int) ^ (30 : Int).toNat) (z.2.2 + 2))), (t4, (z.2.1 + (z.2.2 - z.2.1) / 2, z.2.2)), (t5, (z.2.1, z.2.1)), (t6, (z.2.2, z.2.2))], okRow g.2 = true := fun g hg => by
          have hx := mx_ok 0 (z.2.1 - 3)
          have hn := mn_ok ((10 : Int) ^ (30 : Int).toNat) (z.2.2 + 2)
          rw [e30] at hn
          simp only [List.mem_cons, List.not_mem_nil, or_false] at hg
          rcases hg with rfl | rfl | rfl | rfl | rfl | rfl <;> refine okRow_of ?_ ?_ ?_ <;> (try rw [e30]) <;> omega
        have P5 := P4.same' V
        have ho5 := V _ _ ho4
        have hcl5 : (upd (upd (upd (upd H4 t5 (.tup [.int z.2.1, .int z.2.1])) t6 (.tup [.int z.2.2, .int z.2.2])) m2 (.lst [.ref t5, .ref t6])) cl (.lst ([.ref t1, .ref t2, .ref t3, .ref t4] ++ [.ref t5, .ref t6]))) cl = some (.lst ([.ref t1, .ref t2, .ref t3, .ref t4] ++ [.ref t5, .ref t6])) := upd_same
        have hG5 := ((hG3.frm F4 P3).same V)
        have F5 := (F3.trans F4).trans (frmS (p := p) V)
        generalize upd (upd (upd (upd H4 t5 (.tup [.int z.2.1, .int z.2.1])) t6 (.tup [.int z.2.2, .int z.2.2])) m2 (.lst [.ref t5, .ref t6])) cl (.lst ([.ref t1, .ref t2, .ref t3, .ref t4] ++ [.ref t5, .ref t6])) = H5 at *
        refine ⟨p, cl, _, _, rfl, .inl (.inl hcl5), by show 0 < 6; decide, by show 6 ≤ 1000; decide, P5, by omega, fun v H6 hv P6 F6 => ?_⟩
        obtain ⟨g, hg, rfl⟩ : ∃ g ∈ [(t1, (z.2.1, z.2.2)), (t2, (mx 0 (z.2.1 - 3), z.2.1)), (t3, (z.2.2, mn ((10 : Int) ^ (30 : Int).toNat) (z.2.2 + 2))), (t4, (z.2.1 + (z.2.2 - z.2.1) / 2, z.2.2)), (t5, (z.2.1, z.2.1)), (t6, (z.2.2, z.2.2))], v = .ref g.1 := by
          obtain ⟨g, hg, e⟩ := List.mem_map.mp (show v ∈ refs [(t1, (z.2.1, z.2.2)), (t2, (mx 0 (z.2.1 - 3), z.2.1)), (t3, (z.2.2, mn ((10 : Int) ^ (30 : Int).toNat) (z.2.2 + 2))), (t4, (z.2.1 + (z.2.2 - z.2.1) / 2, z.2.2)), (t5, (z.2.1, z.2.1)), (t6, (z.2.2, z.2.2))] from hv)
          exact ⟨g, hg, e.symm⟩
        have hg6 := (hSL.frm F6 P5) g hg
        have ho6 := F6.lst P5 ho5
        have hG6 := hG5.frm F6 P5
        have F06 := F5.trans F6
        refine ⟨o, refs G, _, rfl, rfl, ho6, small1000 (by rw [refs_len]; omega), ?_⟩
        refine ⟨_, _, _, _, G ++ [g], rfl, by rw [upd_same, refs_snoc], fun g' hg' => ?_, fun r hr => ?_, by rw [List.length_append]; exact Nat.succ_le_succ lG, ?_, ?_⟩
        · rcases List.mem_append.mp hg' with k | k
          · rw [upd_ne (ne_of (hG6 g' k) ho6 (by intro z; cases z))]
            exact hG6 g' k
          · rw [List.mem_singleton.mp k, upd_ne (ne_of hg6 ho6 (by intro z; cases z))]
            exact hg6
        · rw [rws_snoc] at hr
          rcases List.mem_append.mp hr with k | k
          · exact okG r k
          · rw [List.mem_singleton.mp k]
            exact okS g hg
        · exact (P6.put (F06.ce c0 hc0) ho6 nco).mono (by omega)
        · refine ⟨fun b o' e nb => ?_, fun c hc => ?_⟩
          · rw [upd_ne (ne_of_none e no)]
            exact F06 _ _ e nb
          · obtain ⟨k, l', e⟩ := F06.ce c hc
            exact ⟨k, l', by rw [upd_ne (ne_of e ho6 (by intro z; cases z))]; exact e⟩
      · exact ⟨_, _, _, _, G, rfl, F4.lst P3 ho3, hG3.frm F4 P3, okG, Nat.le_succ_of_le lG, P4.mono (by omega), F3.trans F4⟩
    · rintro σ H1 ⟨f, l, hf, sm, G, rfl, ho, hG, okG, lG, hPn, hFr⟩
      rw [refs_len] at lG hPn
      refine ⟨_, rfl, p, 4, _, rfl, by decide, by decide, hPn, by omega, fun r H2 _ _ P2 F2 => ⟨_, _, rfl, rfl, _, rfl, ite2 (fun _ => ?_) (fun _ => ?_)⟩⟩
      · have ho2 := F2.lst hPn ho
        refine ⟨_, rfl, _, rfl, p, 2, _, rfl, by decide, P2, by omega, fun b M H3 nb hb hM okM lenM P3 F3 => ?_⟩
        have ho3 := F3.lst P2 ho2
        have hG3 := (hG.frm F2 hPn).frm F3 P2
        have ll : (refs G).length + (refs M).length ≤ sizeLine := by
          rw [refs_len, refs_len]
          exact small_l (by omega)
        refine ⟨o, b, _, _, rfl, rfl, ho3, hb, ll, fun c hc => ?_⟩
        have Sc := same_lay (o := .lst (refs G ++ refs M)) hc
        have hcc : (upd H3 c (.lst (refs G ++ refs M))) c = some (.lst (refs (G ++ M))) := by rw [upd_same, refs_app]
        refine ⟨c, G ++ M, rfl, .inl (.inl hcc), fun g hg => (List.mem_append.mp hg).elim (fun k => Sc _ _ (hG3 g k)) (fun k => Sc _ _ (hM g k)), fun r hr => ?_, by rw [List.length_append]; omega, fun o2 N H4 S4 _ ho4 hN hnf hme lenN lenN2 => ?_⟩
        · rw [rws_app] at hr
          exact (List.mem_append.mp hr).elim (okG r) (okM r)
        have okN : ∀ r ∈ rws N, okRow r = true := ok_of_mem hnf hme fun r hr => by
          rw [rws_app] at hr
          exact (List.mem_append.mp hr).elim (okG r) (okM r)
        rw [List.length_append] at lenN2
        exact q o2 N H4 ((P3.same' (Sc.trans S4)).mono (by omega)) (((hFr.trans F2).trans F3).trans (frmS (Sc.trans S4))) ho4 hN okN hnf (by omega)
      · refine ⟨_, rfl, a, refs L, rfl, .inl (.inl (.inl ((hFr.trans F2).lst hP ha))), fun ll hll => ?_⟩
        have Sl := same_lay (o := .lst (refs L)) hll
        exact q ll L _ ((P2.same' Sl).mono (by omega)) ((hFr.trans F2).trans (frmS Sl)) upd_same ((hL.frm (hFr.trans F2) hP).same Sl) okL nfL (by omega)
end
end OR

namespace OR
open PySem PySem.Spec PyProof.Rows L2
/-- a method, called by its name -/
structure Mt (P : Program) (w : World) (K : PySem.W.Frag) (mg : Str → Option Value) (base : Heap) (k : Nat) (C : Addr) (m : Str) (ps : List Str) (sp : Sp) : Prop where
  ex : ∃ (f : Addr) (fd : FuncData), Meth K C m f ∧ FnOk P w K mg base CX0 k f fd ps sp ∧ Binds K fd ps []
theorem pe_mt {X : Cx} {k j : Nat} {C : Addr} {m : Str} {ps : List Str} {sp : Sp} {o e : Expr} {es : List Expr} {ta : TE} {t : TA} {apos pos : Pos} {pl : Sem Bool} (M : Mt X.prog X.w X.K X.mg X.base k C m ps sp) (c : Cls X.K C) (hr : Room j X.A) (hk : k ≤ j) (he : PE X o ta) (ha : PA X (e :: es) t)
    (hst : starEach (e :: es) X.env = (false, eval e X.env) :: starEach es X.env := by rfl) (hpl : (backTo pos (starEach es X.env)).any (·.1) = false := by rfl)
    (ht : eval (.Call (.Attribute o m apos) (e :: es) [] pos) X.env = (do
      let ov ← eval o X.env
      standAt apos.atName
      let (f, first) ← holding [ov] (getMethod ov m pl)
      callWith pos f first (backTo pos (starEach (e :: es) X.env)) (backToKw pos (keywordEach [] X.env))) := by rfl) : PE X (.Call (.Attribute o m apos) (e :: es) [] pos) (tMeth C m sp [] E0 ta t) := by
  obtain ⟨f, fd, hm, F, hb⟩ := M.ex
  exact pe_meth he c hm F (hr.mono hk) hb .nil pass0 ha hst hpl ht
theorem mt_of {P : Program} {w : World} {K : PySem.W.Frag} {mg : Str → Option Value} {base : Heap} {C : Addr} {m m' qual : Str} {st : Stmt} {k : Nat} {ps : List Str} {sp : Sp} (a : MtAt K C m m' qual st)
    (hb : ∀ (kV doc pm : Value) (an : Option Addr) (cdv ct : Value) (us : List Value), us.length = ps.length → bindArgs (PySem.W.fnOf m qual (defArgs st) (defBody st) (defScope st) .none kV doc pm an cdv ct) ⟨us, []⟩ = pure (ps.zip us))
    (ok : ∀ f fd, Fun K m qual st f fd → FnOk P w K mg base CX0 k f fd ps sp) : Mt P w K mg base k C m' ps sp := by
  obtain ⟨f, fd, F, e, i, n⟩ := a.ex
  exact ⟨f, fd, ⟨e, i, F.kp⟩, ok f fd F, F.binds hb⟩
theorem pe_mt0 {X : Cx} {k j : Nat} {C : Addr} {m : Str} {ps : List Str} {sp : Sp} {o : Expr} {ta : TE} {apos pos : Pos} {pl : Sem Bool} (M : Mt X.prog X.w X.K X.mg X.base k C m ps sp) (c : Cls X.K C) (hr : Room j X.A) (hk : k ≤ j) (he : PE X o ta)
    (ht : eval (.Call (.Attribute o m apos) [] [] pos) X.env = (do
      let ov ← eval o X.env
      standAt apos.atName
      let (f, first) ← holding [ov] (getMethod ov m pl)
      callWith pos f first (backTo pos (starEach [] X.env)) (backToKw pos (keywordEach [] X.env))) := by rfl) : PE X (.Call (.Attribute o m apos) [] [] pos) (tMeth C m sp [] E0 ta tNil) := by
  obtain ⟨f, fd, hm, F, hb⟩ := M.ex
  exact pe_meth0 he c hm F (hr.mono hk) hb .nil pass0 ht
theorem AtR.put {H : Hp} {o : Addr} {xs : List V} {u : HO} {L : List ARow} (h : AtR H L) (ho : H o = some (.lst xs)) : AtR (upd H o u) L := fun q hq => by
  rw [upd_ne (ne_of (h q hq) ho (by intro z; cases z))]
  exact h q hq
theorem IsP.put {C : Addr} {H : Hp} {x o : Addr} {xs : List V} {u : HO} {l : List Row} (h : IsP C H x l) (ho : H o = some (.lst xs)) : IsP C (upd H o u) x l := by
  obtain ⟨nf, dx, t, f, b, M, h1, h2, h3, h4, h5, h6, h7⟩ := h
  have go : ∀ (a : Addr) (v : HO), H a = some v → v ≠ .lst xs → (upd H o u) a = some v := fun a v e no => by rw [upd_ne (ne_of e ho no)]; exact e
  exact ⟨nf, dx, t, f, b, M, go _ _ h1 (by intro z; cases z), go _ _ h2 (by intro z; cases z), h3.put ho, h4, go _ _ h5 (by intro z; cases z), go _ _ h6 (by intro z; cases z), h7⟩
theorem eqL (l : List Row) : PyData.eqv (.list (l.map rowD)) (.list (l.map rowD)) = true := (eqv_rows l l).trans (decide_eq_true rfl)
theorem eqT0 : ∀ l : List Row, PyData.eqv (.tuple (l.map rowD)) (.tuple []) = l.isEmpty
  | [] => rfl
  | _ :: _ => rfl

/-! ### readings of operators of sets of places -/
theorem IsQ.st {C : Addr} {H : Hp} {x : Addr} {l : List Row} (h : IsQ C H x l) : ∃ dx t f b R, H x = some (.ins C dx (pFl t f b)) ∧ H t = some (.tup (refs R)) ∧ AtR H R ∧ rws R = l := by
  obtain ⟨_, dx, t, f, b, R, h1, h2, h3, h4, _⟩ := h.is
  exact ⟨dx, t, f, b, R, h1, h2, h3, h4⟩
theorem bin_q {C : Addr} {F : Set2} {bd : Nat → Nat → Nat} {H : Hp} {x y : Addr} {l m : List Row} {Q : VK} (hx : IsQ C H x l) (hy : IsQ C H y m) (hb : bd l.length m.length ≤ 1000)
    (k : ∀ (z : Addr) (n : List Row) (H' : Hp), IsQ C H' z n → (∀ t, mem n t ↔ F (mem l) (mem m) t) → Same H H' → Q (.ref z) H') : rBinS C (spBin C F bd) (.ref x) (.ref y) H Q := by
  obtain ⟨dx, _, _, _, _, e1, _⟩ := hx.st
  obtain ⟨dy, _, _, _, _, e2, _⟩ := hy.st
  exact ⟨x, y, dx, dy, _, _, rfl, rfl, e1, e2, x, y, l, m, rfl, hx, hy, hb, fun z n H' _ hz me _ s => k z n H' hz me s⟩
theorem ne_q {K : PySem.W.Frag} {mg : Str → Option Value} {C : Addr} (T : PTxt K mg C) {H : Hp} {x y : Addr} {l m : List Row} {Q : VK} (hx : IsP C H x l) (hy : IsP C H y m) (k : Q (.bl (!decide (l = m))) H) : rNeO K C (spPlEq K C) (.ref x) (.ref y) H Q := by
  obtain ⟨_, dx, _, _, _, _, e1, _⟩ := id hx
  obtain ⟨_, dy, _, _, _, _, e2, _⟩ := id hy
  exact ⟨x, dx, _, rfl, e1, ⟨.ref C, tyP T e2, nf_self⟩, x, l, .ref y, rfl, hx, .inl ⟨y, m, rfl, hy, _, rfl, k⟩⟩
theorem eq_q {K : PySem.W.Frag} {mg : Str → Option Value} {C : Addr} (T : PTxt K mg C) {H : Hp} {x y : Addr} {l m : List Row} {Q : VK} (hx : IsP C H x l) (hy : IsP C H y m) (k : Q (.bl (decide (l = m))) H) : rEqO K C (spPlEq K C) (.ref x) (.ref y) H Q := by
  obtain ⟨_, dx, _, _, _, _, e1, _⟩ := id hx
  obtain ⟨_, dy, _, _, _, _, e2, _⟩ := id hy
  exact ⟨x, dx, _, rfl, e1, ⟨.ref C, tyP T e2, nf_self⟩, x, l, .ref y, rfl, hx, .inl ⟨y, m, rfl, hy, k⟩⟩
theorem fld_q {K : PySem.W.Frag} {mg : Str → Option Value} {C : Addr} (T : PTxt K mg C) {H : Hp} {x : Addr} {l : List Row} {Q : VK} (hx : IsP C H x l) (k : ∀ (t : Addr) (R : List ARow), H t = some (.tup (refs R)) → AtR H R → rws R = l → Q (.ref t) H) :
    ∃ (a C' dx : Addr) (fs : List (Str × V)) (v : V), V.ref x = .ref a ∧ H a = some (.ins C' dx fs) ∧ Cls K C' ∧ NoAttr K C' ("stretches" : Str) ∧ fs.lookup ("stretches" : Str) = some v ∧ Q v H := by
  obtain ⟨_, dx, t, f, b, R, e1, e2, e3, e4, _⟩ := id hx
  exact ⟨x, C, dx, _, _, rfl, e1, T.cl, T.nS, pFl_s _ _ _, k t R e2 e3 e4⟩
/-- tuples of stretches -/
def DueAt (H : Hp) (ds : List (Addr × List ARow)) : Prop := ∀ q ∈ ds, H q.1 = some (.tup (refs q.2)) ∧ AtR H q.2
def dRef (ds : List (Addr × List ARow)) : List V := ds.map fun q => .ref q.1
def dD (ds : List (Addr × List ARow)) : List PyData := ds.map fun q => .tuple ((rws q.2).map rowD)
theorem DueAt.same {H H' : Hp} {ds : List (Addr × List ARow)} (h : DueAt H ds) (s : Same H H') : DueAt H' ds := fun q hq => ⟨s _ _ (h q hq).1, (h q hq).2.same s⟩
theorem DueAt.put {H : Hp} {d : Addr} {xs : List V} {u : HO} {ds : List (Addr × List ARow)} (h : DueAt H ds) (hd : H d = some (.lst xs)) : DueAt (upd H d u) ds := fun q hq => ⟨by rw [upd_ne (ne_of (h q hq).1 hd (by intro z; cases z))]; exact (h q hq).1, (h q hq).2.put hd⟩
theorem dp_due {K : PySem.W.Frag} {H : Hp} : ∀ {ds : List (Addr × List ARow)}, DueAt H ds → DpAll K H (dRef ds) (dD ds)
  | [], _ => .nil
  | q :: ds, h => .cons (.tup (.inl (.inl (h q List.mem_cons_self).1)) (dp_rows (h q List.mem_cons_self).2)) (dp_due fun g hg => h g (List.mem_cons_of_mem _ hg))
theorem lay_due : ∀ ds : List (Addr × List ARow), PyData.canLayAll0 (dD ds) = true
  | [] => rfl
  | q :: ds => by
    show (PyData.canLay0 (.tuple ((rws q.2).map rowD)) && PyData.canLayAll0 (dD ds)) = true
    rw [lay_due ds, show PyData.canLay0 (.tuple ((rws q.2).map rowD)) = true from lay_rows _]
    rfl
theorem dep_due : ∀ ds : List (Addr × List ARow), PyData.depthAll (dD ds) ≤ 2
  | [] => Nat.zero_le _
  | q :: ds => by
    show max (PyData.depthAll ((rws q.2).map rowD) + 1) (PyData.depthAll (dD ds)) ≤ 2
    have := dep_due ds
    have := dep_rows (rws q.2)
    omega
theorem shp_due (ds : List (Addr × List ARow)) : SeqAt.shaped (.list (dD ds)) = true := by
  unfold SeqAt.shaped
  rw [show PyData.canLay0 (.list (dD ds)) = true from lay_due ds, Bool.true_and]
  refine decide_eq_true ?_
  show PyData.depthAll (dD ds) + 1 ≤ 64
  have := dep_due ds
  omega
theorem eqv_due : ∀ {ds es : List (Addr × List ARow)}, ds.map (fun q => rws q.2) = es.map (fun q => rws q.2) → PyData.eqvAll (dD ds) (dD es) = true
  | [], [], _ => rfl
  | [], _ :: _, h => nomatch h
  | _ :: _, [], h => nomatch h
  | q :: ds, g :: es, h => by
    injection h with h1 h2
    show (PyData.eqv (.tuple ((rws q.2).map rowD)) (.tuple ((rws g.2).map rowD)) && PyData.eqvAll (dD ds) (dD es)) = true
    have h1' : rws q.2 = rws g.2 := h1
    rw [eqv_due h2, h1', eqT]
    rfl
end OR

namespace OR
open PySem PySem.Spec PyProof.Rows L2
/-! ### the law -/
def spLaw (K : PySem.W.Frag) : Sp := fun vs H Q _ => ∃ (a : Addr) (ns : List Int), vs = [.ref a] ∧ SqL K H a (ns.map V.int) ∧ ns.length ≤ 63 ∧ ∀ H', Q (.bl true) H'
def kOr : Bool → Bool → Bool := fun a b => a || b
def kAnd : Bool → Bool → Bool := fun a b => a && b
def kSub : Bool → Bool → Bool := fun a b => a && !b
def kXor : Bool → Bool → Bool := fun a b => (a && !b) || (b && !a)
theorem due_is {l m n N : List Row} {F : Set2} {kk : Bool → Bool → Bool} (okl : ∀ r ∈ l, okRow r = true) (okm : ∀ r ∈ m, okRow r = true) (hn : Nf n) (hN : Nf N) (en : ∀ z, mem n z ↔ F (mem l) (mem m) z) (eN : ∀ z, mem N z ↔ (0 ≤ z ∧ z ≤ lastP ∧ kk (hasB l z) (hasB m z) = true))
    (hF : ∀ z, F (mem l) (mem m) z ↔ kk (hasB l z) (hasB m z) = true) (hk : kk false false = false) : n = N := Nf.unique hn hN fun z => by
  rw [en z, eN z, hF z]
  refine ⟨fun h => ?_, fun h => h.2.2⟩
  have bd : 0 ≤ z ∧ z ≤ lastP := by
    cases h1 : hasB l z with
    | true => exact mem_bd okl ((hasB_iff l z).mp h1)
    | false =>
      cases h2 : hasB m z with
      | true => exact mem_bd okm ((hasB_iff m z).mp h2)
      | false =>
        rw [h1, h2, hk] at h
        cases h
  exact ⟨bd.1, bd.2, h⟩
theorem hOr (l m : List Row) (z : Int) : fOr (mem l) (mem m) z ↔ kOr (hasB l z) (hasB m z) = true := by
  unfold fOr kOr
  rw [Bool.or_eq_true, hasB_iff, hasB_iff]
theorem hAnd (l m : List Row) (z : Int) : fAnd (mem l) (mem m) z ↔ kAnd (hasB l z) (hasB m z) = true := by
  unfold fAnd kAnd
  rw [Bool.and_eq_true, hasB_iff, hasB_iff]
theorem hSub (l m : List Row) (z : Int) : fSub (mem l) (mem m) z ↔ kSub (hasB l z) (hasB m z) = true := by
  unfold fSub kSub
  rw [Bool.and_eq_true, Bool.not_eq_true', ← Bool.not_eq_true, hasB_iff, hasB_iff]
theorem hXor (l m : List Row) (z : Int) : fXor (mem l) (mem m) z ↔ kXor (hasB l z) (hasB m z) = true := by
  unfold fXor kXor
  rw [Bool.or_eq_true, Bool.and_eq_true, Bool.and_eq_true, Bool.not_eq_true', Bool.not_eq_true', ← Bool.not_eq_true, ← Bool.not_eq_true, hasB_iff, hasB_iff]
section
variable {P : Program} {w : World} {K : PySem.W.Frag} {mg : Str → Option Value} {base : Heap}
theorem scLaw : FnScope ["_law_script", "_law_pen_here", "_law_turn", "_law_first", "_law_second_here", "_law_third", "_law_one", "_law_two", "_law_three", "_law_told", "_law_due"] ["_law_script"] (defScope sLaw) := ⟨rfl, rfl, rfl, by decide +kernel, rfl, by decide +kernel, by decide +kernel⟩
theorem ok_law {f C : Addr} {fd : FuncData} (F : Fun K "law" "law" sLaw f fd) (B : Bd mg) (M : PMk' P w K mg base C) (ne : PySem.W.findIn K (.ref C) "__ne__" = some (some (.builtin "object.__ne__"))) (sf : PySem.W.selfFirst K C = true)
    (EQ : Md P w K mg base 1 C "__eq__" (spPlEq K C)) (BO : Md P w K mg base 1 C "__bool__" (spPlBool C)) (OO : Md P w K mg base 6 C (PySem.dunder (Operator.info .BitOr).2) (spBin C fOr bOr)) (OA : Md P w K mg base 6 C (PySem.dunder (Operator.info .BitAnd).2) (spBin C fAnd bOr))
    (OS : Md P w K mg base 6 C (PySem.dunder (Operator.info .Sub).2) (spBin C fSub bSub)) (OX : Md P w K mg base 7 C (PySem.dunder (Operator.info .BitXor).2) (spBin C fXor bXor)) (WI : Mt P w K mg base 7 C "within" ["self", "other"] (spWithin C))
    (N : Cl P w K mg base 1 "_law_pen" ["_law_script"] (spPen K)) (DR : Cl P w K mg base 3 "_law_drawn" ["_law_pen_here", "_law_most"] spDrawn) (MG : Cl P w K mg base 1 "_law_merged" ["_law_rows"] (spMerged K))
    (SE : Cl P w K mg base 4 "_law_second" ["_law_pen_here", "_law_rows"] (spSecond K)) (MX : Cl P w K mg base 2 "_law_mixed" ["_law_one", "_law_other", "_law_kept"] (spMixed K)) (RU : Cl P w K mg base 8 "_law_rules_hold" ["_law_one", "_law_two", "_law_three"] (spRules C)) :
    FnOk P w K mg base CX0 9 f fd ["_law_script"] (spLaw K) := by
  have T := M.T
  refine F.ok scLaw (fun vs H Q E h => ?_) (fun cdv A outer s H vs Q E hr h => ?_)
  · obtain ⟨a, ns, rfl, _⟩ := h
    rfl
  · obtain ⟨sc, ns, rfl, hS, hlen, q⟩ := h
    have nd := scLaw.nd
    have hu64 : (A.deeper (envOfC "law" (defScope sLaw) s.heap.objs.size f cdv)).units + 64 < cLine := hr.units
    have hr6 : Room 6 _ := hr.mono (by decide)
    have hr7 : Room 7 _ := hr.mono (by decide)
    have hr1 : Room 1 _ := hr.mono (by decide)
    have hr2 : Room 2 _ := hr.mono (by decide)
    have hr3 : Room 3 _ := hr.mono (by decide)
    refine ⟨_, pss_cons (ps_set (i := 1) nd rfl (.inl rfl) (pe_cl N hr (by decide) (by rfl) (pa_cons (pv 0) pa_nil)))
      (pss_cons (ps_for PassesOwn.never rfl (pi_range1 (by rfl) B.range (pa_cons (pe_op op_add pe_int (pe_callB (call_min2 rfl) (by rfl) B.min bt_min (pa_cons pe_int (pa_cons (pe_callB call_len_seq (by rfl) B.len PySem.boot_len (pa_cons (pv 0) pa_nil)) pa_nil)))) pa_nil)) (pg_name (i := 2) nd rfl (.inl rfl))
        (pss_cons (ps_set (i := 3) nd rfl (.inl rfl) (pe_cl MG hr (by decide) (by rfl) (pa_cons (pe_cl DR hr (by decide) (by rfl) (pa_cons (pv 1) (pa_cons pe_int pa_nil))) pa_nil)))
        (pss_cons (ps_par (i := 4) (j := 5) rfl nd rfl rfl (by decide) rfl rfl (pa_cons (pe_cl SE hr (by decide) (by rfl) (pa_cons (pv 1) (pa_cons (pv 3) pa_nil))) (pa_cons (pe_cl SE hr (by decide) (by rfl) (pa_cons (pv 1) (pa_cons (pv 3) pa_nil))) pa_nil)) rfl)
        (pss_cons (ps_par3 (i := 6) (j := 7) (l := 8) rfl nd rfl rfl rfl (by decide) (by decide) (by decide) rfl rfl rfl (pa_cons (pe_mkP K rfl M hr (by decide) (by rfl) (pa_cons (pv 3) pa_nil)) (pa_cons (pe_mkP K rfl M hr (by decide) (by rfl) (pa_cons (pv 4) pa_nil)) (pa_cons (pe_mkP K rfl M hr (by decide) (by rfl) (pa_cons (pv 5) pa_nil)) pa_nil))) rfl)
        (pss_cons (ps_set (i := 9) nd rfl (.inl rfl) (pe_lst (pa_cons (pe_fld (pe_op (op_binS OO sf hr6) (pv 6) (pv 7)) rfl) (pa_cons (pe_fld (pe_op (op_binS OA sf hr6) (pv 6) (pv 7)) rfl)
            (pa_cons (pe_fld (pe_op (op_binS OS sf hr6) (pv 6) (pv 7)) rfl) (pa_cons (pe_fld (pe_op (op_binS OX sf hr7) (pv 6) (pv 7)) rfl) pa_nil))))))
        (pss_cons (ps_set (i := 10) nd rfl (.inl rfl) (pe_lst (pa_cons (pe_cl MX hr (by decide) (by rfl) (pa_cons (pv 3) (pa_cons (pv 4) (pa_cons (pe_lst (pa_cons pe_bl (pa_cons pe_bl (pa_cons pe_bl (pa_cons pe_bl pa_nil))))) pa_nil)))) pa_nil)))
        (pss_cons (ps_expr (pe_bm PySem.F.plainAttrs_list PySem.F.slot_list_append PySem.F.type_list_append mt_append (pv 10) (pa_cons (pe_cl MX hr (by decide) (by rfl) (pa_cons (pv 3) (pa_cons (pv 4) (pa_cons (pe_lst (pa_cons pe_bl (pa_cons pe_bl (pa_cons pe_bl (pa_cons pe_bl pa_nil))))) pa_nil)))) pa_nil)))
        (pss_cons (ps_expr (pe_bm PySem.F.plainAttrs_list PySem.F.slot_list_append PySem.F.type_list_append mt_append (pv 10) (pa_cons (pe_cl MX hr (by decide) (by rfl) (pa_cons (pv 3) (pa_cons (pv 4) (pa_cons (pe_lst (pa_cons pe_bl (pa_cons pe_bl (pa_cons pe_bl (pa_cons pe_bl pa_nil))))) pa_nil)))) pa_nil)))
        (pss_cons (ps_expr (pe_bm PySem.F.plainAttrs_list PySem.F.slot_list_append PySem.F.type_list_append mt_append (pv 10) (pa_cons (pe_cl MX hr (by decide) (by rfl) (pa_cons (pv 3) (pa_cons (pv 4) (pa_cons (pe_lst (pa_cons pe_bl (pa_cons pe_bl (pa_cons pe_bl (pa_cons pe_bl pa_nil))))) pa_nil)))) pa_nil)))
        (pss_cons (ps_if (PW.pt (pw_or (pt_cmpR (op_neD hu64) (pv 9) (pv 10) (nomark _)) (pw_or (pt_cmpR op_ne (pe_mt WI T.cl hr (by decide) (pv 6) (pa_cons (pv 7) pa_nil)) (pe_cmpR (op_eqD hu64) (pe_ix ix_list (pv 10) pe_int (fun _ _ => rfl)) (pe_tup pa_nil) (nomark _)) (nomark _))
            (pw_or1 (pt_cmpR op_ne (pe_cmpR (op_eqO K rfl EQ hr1) (pv 6) (pv 7) (nomark _)) (pe_cmpR (op_eqD hu64) (pe_ix ix_list (pv 10) pe_int (fun _ _ => rfl)) (pe_tup pa_nil) (nomark _)) (nomark _)))))) (pss_one (ps_ret pe_bl)) pss_nil)
        (pss_cons (ps_if (PW.pt (pw_or (pt_cmpR op_ne (pe_callTy (call_boolO BO hr3) (by rfl) T.zBool bt_bool (pa_cons (pe_op (op_binS OA sf hr6) (pv 6) (pv 7)) pa_nil)) (pe_cmpR (op_neD hu64) (pe_ix ix_list (pv 10) pe_int (fun _ _ => rfl)) (pe_tup pa_nil) (nomark _)) (nomark _))
            (pw_or (pt_cmpR (op_neO K rfl EQ ne T.isi.cm hr2) (pe_op (op_binS OO sf hr6) (pv 6) (pv 6)) (pv 6) (nomark _))
              (pw_or (pt_truthR (pe_op (op_binS OS sf hr6) (pv 6) (pv 6)) (tru_own BO hr1) (by intro _; rfl))
                (pw_or1 (pt_cmpR (op_neO K rfl EQ ne T.isi.cm hr2) (pe_op (op_binS OX sf hr7) (pv 6) (pv 6)) (pe_mkP0 M hr (by decide) (by rfl)) (nomark _))))))) (pss_one (ps_ret pe_bl)) pss_nil)
        (pss_cons (ps_if (pt_cmpR (op_neD hu64) (pe_fld (pe_op (op_binS OS sf hr6) (pv 7) (pv 6)) rfl) (pe_cl MX hr (by decide) (by rfl) (pa_cons (pv 4) (pa_cons (pv 3) (pa_cons (pe_lst (pa_cons pe_bl (pa_cons pe_bl (pa_cons pe_bl (pa_cons pe_bl pa_nil))))) pa_nil)))) (nomark _)) (pss_one (ps_ret pe_bl)) pss_nil)
        (pss_cons (ps_if (PW.pt (pw_or (pt_not (pt_val (pe_cl RU hr (by decide) (by rfl) (pa_cons (pv 6) (pa_cons (pv 7) (pa_cons (pv 8) pa_nil)))))) (pw_or1 (pt_not (pt_val (pe_cl RU hr (by decide) (by rfl) (pa_cons (pv 8) (pa_cons (pv 6) (pa_cons (pv 7) pa_nil))))))))) (pss_one (ps_ret pe_bl)) pss_nil)
        (pss_one (ps_if (PW.pt (pw_or (pt_cmpR (op_neD hu64) (pe_fld (pv 6) rfl) (pe_callTy call_tuple_of (by rfl) T.zTup bt_tup (pa_cons (pv 3) pa_nil)) (nomark _)) (pw_or1 (pt_cmpR (op_neD hu64) (pe_fld (pv 7) rfl) (pe_callTy call_tuple_of (by rfl) T.zTup bt_tup (pa_cons (pv 4) pa_nil)) (nomark _))))) (pss_one (ps_ret pe_bl)) pss_nil)))))))))))))))
      (pss_one (ps_ret pe_bl))), ?_⟩
    have kW : ∀ t f b : Addr, (pFl t f b).lookup ("within" : Str) = none := fun _ _ _ => pFl_no _ _ _ (by decide +kernel) (by decide +kernel) (by decide +kernel)
    refine ⟨_, rfl, sc, ns, rfl, hS, hlen, fun p H1 np P0 S0 => ?_⟩
    generalize hJ : (2 : Int) + (if ((ns.map V.int).length : Int) < 3 then ((ns.map V.int).length : Int) else 3) = J
    have hJb : 0 ≤ J ∧ J ≤ 5 := by
      subst hJ
      split <;> omega
    refine ⟨_, rfl, sc, _, rfl, .inl (S0.seq hS), 3, _, rfl, _, _, rfl, rfl, J, congrArg (fun z => [V.int z]) hJ, by omega, by omega, for_range (n := J.toNat) (fun i σ H2 => ∃ s2 s3 s4 s5 s6 s7 s8 s9 s10, σ = [some (.ref sc), some (.ref p), s2, s3, s4, s5, s6, s7, s8, s9, s10] ∧ Pen H2 p (10000 * i))
      ⟨none, none, none, none, none, none, none, none, none, rfl, P0⟩ ?_ ?_⟩
    · rintro i σ H2 hi ⟨s2, s3, s4, s5, s6, s7, s8, s9, s10, rfl, P1⟩
      have hi5 : i < 5 := by omega
      -- the rows
      refine ⟨_, rfl, p, 5, 10000 * i, rfl, by decide, P1, by omega, fun a0 L0 H3 na0 ha0 hL0 okL0 lenL0 P2 F2 => ?_⟩
      refine ⟨a0, L0, rfl, .inl (.inl ha0), hL0, okL0, by omega, fun a L H4 S4 no ha hL nfL meL lenL lenL2 => ?_⟩
      have okL := ok_of_mem nfL meL okL0
      have P4 := P2.same' S4
      have lL : L.length ≤ 5 := by omega
      clear P2 F2 ha0 hL0 S4 no meL okL0 lenL0 lenL2 P1
      refine ⟨_, rfl, _, rfl, p, a, L, _, rfl, ha, hL, okL, nfL, by omega, P4, by omega, fun b M H5 P5 F5 hb hM okM nfM lenM => ?_⟩
      refine ⟨_, rfl, _, rfl, p, a, L, _, rfl, F5.lst P4 ha, hL.frm F5 P4, okL, nfL, by omega, P5, by omega, fun g G H6 P6 F6 hg hG okG nfG lenG => ⟨_, _, rfl, ?_⟩⟩
      have ha6 := F6.lst P5 (F5.lst P4 ha)
      have hb6 := F6.lst P5 hb
      have hL6 := (hL.frm F5 P4).frm F6 P5
      have hM6 := hM.frm F6 P5
      clear F5 F6 ha hb hL hM P4 P5
      -- the sets
      refine ⟨_, rfl, a, L, rfl, .inl (.inl (.inl ha6)), by omega, hL6.pairs, okL, fun x l1 H7 nx hx0 mx0 _ S7 => ?_⟩
      refine ⟨_, rfl, b, M, rfl, .inl (.inl (.inl (S7 _ _ hb6))), by omega, (hM6.same S7).pairs, okM, fun y l2 H8 ny hy0 my0 _ S8 => ?_⟩
      refine ⟨_, rfl, g, G, rfl, .inl (.inl (.inl (S8 _ _ (S7 _ _ hg)))), by omega, ((hG.same S7).same S8).pairs, okG, fun z l3 H9 nz hz0 mz0 _ S9 => ⟨_, _, _, rfl, ?_⟩⟩
      obtain rfl : l1 = rws L := Nf.unique hx0.nf nfL mx0
      obtain rfl : l2 = rws M := Nf.unique hy0.nf nfM my0
      obtain rfl : l3 = rws G := Nf.unique hz0.nf nfG mz0
      have S789 := (S7.trans S8).trans S9
      have qx : IsQ C H9 x (rws L) := ⟨(hx0.same S8).same S9, okL⟩
      have qy : IsQ C H9 y (rws M) := ⟨hy0.same S9, okM⟩
      have qz : IsQ C H9 z (rws G) := ⟨hz0, okG⟩
      have ha9 := S789 _ _ ha6
      have hb9 := S789 _ _ hb6
      have hL9 := hL6.same S789
      have hM9 := hM6.same S789
      have P9 := P6.same' S789
      clear S7 S8 S9 S789 ha6 hb6 hL6 hM6 hg hG P6 hx0 hy0 hz0 mx0 my0 mz0 nx ny nz
      have ll : (rws L).length ≤ 5 := by rw [rws_len]; exact lL
      have lm : (rws M).length ≤ 7 := by rw [rws_len]; omega
      have lg : (rws G).length ≤ 7 := by rw [rws_len]; omega
      have b1 : bOr (rws L).length (rws M).length ≤ 1000 := by show (rws L).length + (rws M).length ≤ 1000; omega
      have b2 : bSub (rws L).length (rws M).length ≤ 1000 := by show (rws L).length + (rws M).length + 1 ≤ 1000; omega
      have b3 : bXor (rws L).length (rws M).length ≤ 1000 := by show 2 * ((rws L).length + (rws M).length + 1) ≤ 1000; omega
      have b4 : bSub (rws M).length (rws L).length ≤ 1000 := by show (rws M).length + (rws L).length + 1 ≤ 1000; omega
      have b5 : bOr (rws L).length (rws L).length ≤ 1000 := by show (rws L).length + (rws L).length ≤ 1000; omega
      have b6 : bSub (rws L).length (rws L).length ≤ 1000 := by show (rws L).length + (rws L).length + 1 ≤ 1000; omega
      have b7 : bXor (rws L).length (rws L).length ≤ 1000 := by show 2 * ((rws L).length + (rws L).length + 1) ≤ 1000; omega
      -- what is told
      refine ⟨_, rfl, _, rfl, bin_q qx qy b1 fun z1 n1 K1 q1 e1 s1 => ?_⟩
      obtain ⟨w1, t1, _, _, R1, i1, h1, r1, x1⟩ := q1.st
      refine ⟨z1, C, w1, _, _, rfl, i1, T.cl, T.nS, pFl_s _ _ _, ?_⟩
      refine ⟨_, rfl, _, rfl, bin_q (qx.same s1) (qy.same s1) b1 fun z2 n2 K2 q2 e2 s2 => ?_⟩
      obtain ⟨w2, t2, _, _, R2, i2, h2, r2, x2⟩ := q2.st
      refine ⟨z2, C, w2, _, _, rfl, i2, T.cl, T.nS, pFl_s _ _ _, ?_⟩
      have s12 := s1.trans s2
      refine ⟨_, rfl, _, rfl, bin_q (qx.same s12) (qy.same s12) b2 fun z3 n3 K3 q3 e3 s3 => ?_⟩
      obtain ⟨w3, t3, _, _, R3, i3, h3, r3, x3⟩ := q3.st
      refine ⟨z3, C, w3, _, _, rfl, i3, T.cl, T.nS, pFl_s _ _ _, ?_⟩
      have s13 := s12.trans s3
      refine ⟨_, rfl, _, rfl, bin_q (qx.same s13) (qy.same s13) b3 fun z4 n4 K4 q4 e4 s4 => ?_⟩
      obtain ⟨w4, t4, _, _, R4, i4, h4, r4, x4⟩ := q4.st
      refine ⟨z4, C, w4, _, _, rfl, i4, T.cl, T.nS, pFl_s _ _ _, ⟨by show 4 ≤ sizeLine; decide, fun tl ntl => ?_⟩⟩
      have sl := same_lay (o := .lst [.ref t1, .ref t2, .ref t3, .ref t4]) ntl
      have s14 := (s13.trans s4).trans sl
      have hT : DueAt (upd K4 tl (.lst [.ref t1, .ref t2, .ref t3, .ref t4])) [(t1, R1), (t2, R2), (t3, R3), (t4, R4)] := fun d hd => by
        simp only [List.mem_cons, List.not_mem_nil, or_false] at hd
        rcases hd with rfl | rfl | rfl | rfl
        · exact ⟨sl _ _ (s4 _ _ (s3 _ _ (s2 _ _ h1))), (((r1.same s2).same s3).same s4).same sl⟩
        · exact ⟨sl _ _ (s4 _ _ (s3 _ _ h2)), ((r2.same s3).same s4).same sl⟩
        · exact ⟨sl _ _ (s4 _ _ h3), (r3.same s4).same sl⟩
        · exact ⟨sl _ _ h4, r4.same sl⟩
      have htl : (upd K4 tl (.lst [.ref t1, .ref t2, .ref t3, .ref t4])) tl = some (.lst (dRef [(t1, R1), (t2, R2), (t3, R3), (t4, R4)])) := upd_same
      have qxA := qx.same s14
      have qyA := qy.same s14
      have qzA := qz.same s14
      have haA := s14 _ _ ha9
      have hbA := s14 _ _ hb9
      have hLA := hL9.same s14
      have hMA := hM9.same s14
      have PA := P9.same' s14
      generalize upd K4 tl (.lst [.ref t1, .ref t2, .ref t3, .ref t4]) = HA at *
      clear s14 sl s13 s12 s1 s2 s3 s4 h1 h2 h3 h4 r1 r2 r3 r4 ntl qx qy qz ha9 hb9 hL9 hM9 P9
      -- what is due
      refine ⟨_, rfl, _, rfl, by show 4 ≤ sizeLine; decide, fun k1 nk1 => ?_⟩
      have v1 := same_lay (o := .lst (keptV kOr)) nk1
      refine ⟨a, b, k1, L, M, kOr, rfl, v1 _ _ haA, v1 _ _ hbA, upd_same, hLA.same v1, hMA.same v1, okL, okM, by omega, fun d1 D1 B1 w1 g1 f1 nf1 m1 l1 => ⟨by show 1 ≤ sizeLine; decide, fun du ndu => ?_⟩⟩
      have vA := v1.trans w1
      have PB1 := PA.same' vA
      obtain ⟨c0, hc0, hcn⟩ := PB1.cells
      have ncd : c0 ≠ du := fun e => hcn (by rw [e]; exact ndu)
      have nad : a ≠ du := ne_of_none (vA _ _ haA) ndu
      have nbd : b ≠ du := ne_of_none (vA _ _ hbA) ndu
      have ntd : tl ≠ du := ne_of_none (vA _ _ htl) ndu
      have sd := same_lay (o := .lst [.ref d1]) ndu
      have vB := vA.trans sd
      have hdu : (upd B1 du (.lst [.ref d1])) du = some (.lst (dRef [(d1, D1)])) := upd_same
      have hD : DueAt (upd B1 du (.lst [.ref d1])) [(d1, D1)] := fun d hd => by
        rw [List.mem_singleton.mp hd]
        exact ⟨sd _ _ g1, f1.same sd⟩
      have qxB := qxA.same vB
      have qyB := qyA.same vB
      have qzB := qzA.same vB
      have haB := vB _ _ haA
      have hbB := vB _ _ hbA
      have hLB := hLA.same vB
      have hMB := hMA.same vB
      have hTB := hT.same vB
      have htB := vB _ _ htl
      have PB := PB1.same' sd
      have hcB := (frmS (p := p) sd).ce c0 hc0
      generalize upd B1 du (.lst [.ref d1]) = HB at *
      clear vB sd vA v1 w1 g1 f1 qxA qyA qzA haA hbA hLA hMA hT htl PA PB1 hc0 hcn ndu nk1
      -- the second
      refine ⟨_, rfl, .inl ⟨rfl, _, .inl (.inl hdu)⟩, _, rfl, _, rfl, by show 4 ≤ sizeLine; decide, fun k2 nk2 => ?_⟩
      have v1 := same_lay (o := .lst (keptV kAnd)) nk2
      refine ⟨a, b, k2, L, M, kAnd, rfl, v1 _ _ haB, v1 _ _ hbB, upd_same, hLB.same v1, hMB.same v1, okL, okM, by omega, fun d2 D2 B2 w1 g1 f1 nf2 m2 l2 => ?_⟩
      have vB := v1.trans w1
      have hd2 := vB _ _ hdu
      refine ⟨du, _, _, rfl, rfl, hd2, small1000 (by show 1 ≤ 1000; decide), ?_⟩
      have hdC : (upd B2 du (.lst (dRef [(d1, D1)] ++ [.ref d2]))) du = some (.lst (dRef [(d1, D1), (d2, D2)])) := upd_same
      have hDC : DueAt (upd B2 du (.lst (dRef [(d1, D1)] ++ [.ref d2]))) [(d1, D1), (d2, D2)] := (show DueAt B2 [(d1, D1), (d2, D2)] from fun d hd => by
        rcases List.mem_cons.mp hd with rfl | hd
        · exact hD.same vB _ List.mem_cons_self
        · rw [List.mem_singleton.mp hd]
          exact ⟨g1, f1⟩).put hd2
      have qxC : IsQ C (upd B2 du (.lst (dRef [(d1, D1)] ++ [.ref d2]))) x (rws L) := ⟨(qxB.is.same vB).put hd2, okL⟩
      have qyC : IsQ C (upd B2 du (.lst (dRef [(d1, D1)] ++ [.ref d2]))) y (rws M) := ⟨(qyB.is.same vB).put hd2, okM⟩
      have qzC : IsQ C (upd B2 du (.lst (dRef [(d1, D1)] ++ [.ref d2]))) z (rws G) := ⟨(qzB.is.same vB).put hd2, okG⟩
      have haC : (upd B2 du (.lst (dRef [(d1, D1)] ++ [.ref d2]))) a = some (.lst (refs L)) := by rw [upd_ne nad]; exact vB _ _ haB
      have hbC : (upd B2 du (.lst (dRef [(d1, D1)] ++ [.ref d2]))) b = some (.lst (refs M)) := by rw [upd_ne nbd]; exact vB _ _ hbB
      have hLC : AtR (upd B2 du (.lst (dRef [(d1, D1)] ++ [.ref d2]))) L := (hLB.same vB).put hd2
      have hMC : AtR (upd B2 du (.lst (dRef [(d1, D1)] ++ [.ref d2]))) M := (hMB.same vB).put hd2
      have hTC : DueAt (upd B2 du (.lst (dRef [(d1, D1)] ++ [.ref d2]))) _ := (hTB.same vB).put hd2
      have htC : (upd B2 du (.lst (dRef [(d1, D1)] ++ [.ref d2]))) tl = some (.lst (dRef [(t1, R1), (t2, R2), (t3, R3), (t4, R4)])) := by rw [upd_ne ntd]; exact vB _ _ htB
      have hcC0 := (frmS (p := p) vB).ce c0 hcB
      have PC := (PB.same' vB).put (o := .lst (dRef [(d1, D1)] ++ [.ref d2])) hcC0 hd2 ncd
      have hcC : cellsAt (upd B2 du (.lst (dRef [(d1, D1)] ++ [.ref d2]))) p c0 := by
        obtain ⟨k, l', e⟩ := hcC0
        exact ⟨k, l', by rw [upd_ne (ne_of e hd2 (by intro z; cases z))]; exact e⟩
      generalize upd B2 du (.lst (dRef [(d1, D1)] ++ [.ref d2])) = HC at *
      clear vB v1 w1 g1 f1 qxB qyB qzB haB hbB hLB hMB hTB htB PB hd2 hdu hD hcB hcC0 nk2
      -- the third
      refine ⟨_, rfl, .inl ⟨rfl, _, .inl (.inl hdC)⟩, _, rfl, _, rfl, by show 4 ≤ sizeLine; decide, fun k3 nk3 => ?_⟩
      have v1 := same_lay (o := .lst (keptV kSub)) nk3
      refine ⟨a, b, k3, L, M, kSub, rfl, v1 _ _ haC, v1 _ _ hbC, upd_same, hLC.same v1, hMC.same v1, okL, okM, by omega, fun d3 D3 B3 w1 g1 f1 nf3 m3 l3 => ?_⟩
      have vB := v1.trans w1
      have hd2 := vB _ _ hdC
      refine ⟨du, _, _, rfl, rfl, hd2, small1000 (by show 2 ≤ 1000; decide), ?_⟩
      have hdD : (upd B3 du (.lst (dRef [(d1, D1), (d2, D2)] ++ [.ref d3]))) du = some (.lst (dRef [(d1, D1), (d2, D2), (d3, D3)])) := upd_same
      have hDD : DueAt (upd B3 du (.lst (dRef [(d1, D1), (d2, D2)] ++ [.ref d3]))) [(d1, D1), (d2, D2), (d3, D3)] := (show DueAt B3 [(d1, D1), (d2, D2), (d3, D3)] from fun d hd => by
        simp only [List.mem_cons, List.not_mem_nil, or_false] at hd
        rcases hd with rfl | rfl | rfl
        · exact hDC.same vB _ List.mem_cons_self
        · exact hDC.same vB _ (List.mem_cons_of_mem _ List.mem_cons_self)
        · exact ⟨g1, f1⟩).put hd2
      have qxD : IsQ C (upd B3 du (.lst (dRef [(d1, D1), (d2, D2)] ++ [.ref d3]))) x (rws L) := ⟨(qxC.is.same vB).put hd2, okL⟩
      have qyD : IsQ C (upd B3 du (.lst (dRef [(d1, D1), (d2, D2)] ++ [.ref d3]))) y (rws M) := ⟨(qyC.is.same vB).put hd2, okM⟩
      have qzD : IsQ C (upd B3 du (.lst (dRef [(d1, D1), (d2, D2)] ++ [.ref d3]))) z (rws G) := ⟨(qzC.is.same vB).put hd2, okG⟩
      have haD : (upd B3 du (.lst (dRef [(d1, D1), (d2, D2)] ++ [.ref d3]))) a = some (.lst (refs L)) := by rw [upd_ne nad]; exact vB _ _ haC
      have hbD : (upd B3 du (.lst (dRef [(d1, D1), (d2, D2)] ++ [.ref d3]))) b = some (.lst (refs M)) := by rw [upd_ne nbd]; exact vB _ _ hbC
      have hLD : AtR (upd B3 du (.lst (dRef [(d1, D1), (d2, D2)] ++ [.ref d3]))) L := (hLC.same vB).put hd2
      have hMD : AtR (upd B3 du (.lst (dRef [(d1, D1), (d2, D2)] ++ [.ref d3]))) M := (hMC.same vB).put hd2
      have hTD : DueAt (upd B3 du (.lst (dRef [(d1, D1), (d2, D2)] ++ [.ref d3]))) _ := (hTC.same vB).put hd2
      have htD : (upd B3 du (.lst (dRef [(d1, D1), (d2, D2)] ++ [.ref d3]))) tl = some (.lst (dRef [(t1, R1), (t2, R2), (t3, R3), (t4, R4)])) := by rw [upd_ne ntd]; exact vB _ _ htC
      have hcD0 := (frmS (p := p) vB).ce c0 hcC
      have PD := (PC.same' vB).put (o := .lst (dRef [(d1, D1), (d2, D2)] ++ [.ref d3])) hcD0 hd2 ncd
      have hcD : cellsAt (upd B3 du (.lst (dRef [(d1, D1), (d2, D2)] ++ [.ref d3]))) p c0 := by
        obtain ⟨k, l', e⟩ := hcD0
        exact ⟨k, l', by rw [upd_ne (ne_of e hd2 (by intro z; cases z))]; exact e⟩
      generalize upd B3 du (.lst (dRef [(d1, D1), (d2, D2)] ++ [.ref d3])) = HD at *
      clear vB v1 w1 g1 f1 qxC qyC qzC haC hbC hLC hMC hTC htC PC hd2 hdC hDC hcC hcD0 nk3
      -- the fourth
      refine ⟨_, rfl, .inl ⟨rfl, _, .inl (.inl hdD)⟩, _, rfl, _, rfl, by show 4 ≤ sizeLine; decide, fun k4 nk4 => ?_⟩
      have v1 := same_lay (o := .lst (keptV kXor)) nk4
      refine ⟨a, b, k4, L, M, kXor, rfl, v1 _ _ haD, v1 _ _ hbD, upd_same, hLD.same v1, hMD.same v1, okL, okM, by omega, fun d4 D4 B4 w1 g1 f1 nf4 m4 l4 => ?_⟩
      have vB := v1.trans w1
      have hd2 := vB _ _ hdD
      refine ⟨du, _, _, rfl, rfl, hd2, small1000 (by show 3 ≤ 1000; decide), ?_⟩
      have hdE : (upd B4 du (.lst (dRef [(d1, D1), (d2, D2), (d3, D3)] ++ [.ref d4]))) du = some (.lst (dRef [(d1, D1), (d2, D2), (d3, D3), (d4, D4)])) := upd_same
      have hDE : DueAt (upd B4 du (.lst (dRef [(d1, D1), (d2, D2), (d3, D3)] ++ [.ref d4]))) [(d1, D1), (d2, D2), (d3, D3), (d4, D4)] := (show DueAt B4 [(d1, D1), (d2, D2), (d3, D3), (d4, D4)] from fun d hd => by
        simp only [List.mem_cons, List.not_mem_nil, or_false] at hd
        rcases hd with rfl | rfl | rfl | rfl
        · exact hDD.same vB _ List.mem_cons_self
        · exact hDD.same vB _ (List.mem_cons_of_mem _ List.mem_cons_self)
        · exact hDD.same vB _ (List.mem_cons_of_mem _ (List.mem_cons_of_mem _ List.mem_cons_self))
        · exact ⟨g1, f1⟩).put hd2
      have qxE : IsQ C (upd B4 du (.lst (dRef [(d1, D1), (d2, D2), (d3, D3)] ++ [.ref d4]))) x (rws L) := ⟨(qxD.is.same vB).put hd2, okL⟩
      have qyE : IsQ C (upd B4 du (.lst (dRef [(d1, D1), (d2, D2), (d3, D3)] ++ [.ref d4]))) y (rws M) := ⟨(qyD.is.same vB).put hd2, okM⟩
      have qzE : IsQ C (upd B4 du (.lst (dRef [(d1, D1), (d2, D2), (d3, D3)] ++ [.ref d4]))) z (rws G) := ⟨(qzD.is.same vB).put hd2, okG⟩
      have haE : (upd B4 du (.lst (dRef [(d1, D1), (d2, D2), (d3, D3)] ++ [.ref d4]))) a = some (.lst (refs L)) := by rw [upd_ne nad]; exact vB _ _ haD
      have hbE : (upd B4 du (.lst (dRef [(d1, D1), (d2, D2), (d3, D3)] ++ [.ref d4]))) b = some (.lst (refs M)) := by rw [upd_ne nbd]; exact vB _ _ hbD
      have hLE : AtR (upd B4 du (.lst (dRef [(d1, D1), (d2, D2), (d3, D3)] ++ [.ref d4]))) L := (hLD.same vB).put hd2
      have hME : AtR (upd B4 du (.lst (dRef [(d1, D1), (d2, D2), (d3, D3)] ++ [.ref d4]))) M := (hMD.same vB).put hd2
      have hTE : DueAt (upd B4 du (.lst (dRef [(d1, D1), (d2, D2), (d3, D3)] ++ [.ref d4]))) _ := (hTD.same vB).put hd2
      have htE : (upd B4 du (.lst (dRef [(d1, D1), (d2, D2), (d3, D3)] ++ [.ref d4]))) tl = some (.lst (dRef [(t1, R1), (t2, R2), (t3, R3), (t4, R4)])) := by rw [upd_ne ntd]; exact vB _ _ htD
      have hcE0 := (frmS (p := p) vB).ce c0 hcD
      have PE := (PD.same' vB).put (o := .lst (dRef [(d1, D1), (d2, D2), (d3, D3)] ++ [.ref d4])) hcE0 hd2 ncd
      generalize upd B4 du (.lst (dRef [(d1, D1), (d2, D2), (d3, D3)] ++ [.ref d4])) = HE at *
      clear vB v1 w1 g1 f1 qxD qyD qzD haD hbD hLD hMD hTD htD PD hd2 hdD hDD hcD hcE0 nk4
      -- they are equal
      have y1 : rws R1 = rws D1 := x1.trans (due_is okL okM q1.is.nf nf1 e1 m1 (hOr _ _) rfl)
      have y2 : rws R2 = rws D2 := x2.trans (due_is okL okM q2.is.nf nf2 e2 m2 (hAnd _ _) rfl)
      have y3 : rws R3 = rws D3 := x3.trans (due_is okL okM q3.is.nf nf3 e3 m3 (hSub _ _) rfl)
      have y4 : rws R4 = rws D4 := x4.trans (due_is okL okM q4.is.nf nf4 e4 m4 (hXor _ _) rfl)
      refine ⟨_, rfl, _, rfl, .list (dD [(t1, R1), (t2, R2), (t3, R3), (t4, R4)]), .list (dD [(d1, D1), (d2, D2), (d3, D3), (d4, D4)]), .lst (.inl (.inl htE)) (dp_due hTE), .lst (.inl (.inl hdE)) (dp_due hDE), shp_due _, shp_due _, _, rfl, ?_⟩
      rw [show PyData.eqv (.list (dD [(t1, R1), (t2, R2), (t3, R3), (t4, R4)])) (.list (dD [(d1, D1), (d2, D2), (d3, D3), (d4, D4)])) = true from eqv_due (by
        show [rws R1, rws R2, rws R3, rws R4] = [rws D1, rws D2, rws D3, rws D4]
        rw [y1, y2, y3, y4])]
      refine iteF ?_
      clear hTE htE
      -- within
      obtain ⟨dx, tx, fx, bx, Rx, hx1, _⟩ := qxE.st
      refine ⟨_, rfl, x, dx, _, rfl, hx1, kW _ _ _, _, rfl, x, y, rws L, rws M, rfl, qxE, qyE, by omega, fun wb K1 hwb s1 => ?_⟩
      have at2 : atI (dRef [(d1, D1), (d2, D2), (d3, D3), (d4, D4)]) 2 = some (.ref d3) := atI_nat (j := 2) rfl
      have at3 : atI (dRef [(d1, D1), (d2, D2), (d3, D3), (d4, D4)]) 3 = some (.ref d4) := atI_nat (j := 3) rfl
      have at1 : atI (dRef [(d1, D1), (d2, D2), (d3, D3), (d4, D4)]) 1 = some (.ref d2) := atI_nat (j := 1) rfl
      refine ⟨_, rfl, du, _, _, _, rfl, rfl, .inl (.inl (s1 _ _ hdE)), at2, Nat.zero_le _, fun u1 nu1 => ?_⟩
      have su1 := same_lay (o := .tup []) nu1
      have sU := s1.trans su1
      have hDU := hDE.same sU
      have m3d := hDU (d3, D3) (List.mem_cons_of_mem _ (List.mem_cons_of_mem _ List.mem_cons_self))
      refine ⟨.tuple ((rws D3).map rowD), .tuple [], .tup (.inl (.inl m3d.1)) (dp_rows m3d.2), .tup (.inl (.inl upd_same)) .nil, shp_tup _, rfl, rfl, _, rfl, ?_⟩
      have ew : wb = (rws D3).isEmpty := by
        rw [Bool.eq_iff_iff, hwb, isEmpty_mem nf3]
        constructor
        · intro h t ht
          have k := ((m3 t).mp ht).2.2
          rw [← hSub] at k
          exact k.2 (h t k.1)
        · intro h t ht
          refine Classical.byContradiction fun c => h t ?_
          have bd := mem_bd okL ht
          exact (m3 t).mpr ⟨bd.1, bd.2, (hSub _ _ t).mp ⟨ht, c⟩⟩
      rw [eqT0, ew, nobl]
      refine iteF ?_
      have qxU := qxE.same sU
      have qyU := qyE.same sU
      have hdU := sU _ _ hdE
      -- equal
      refine ⟨_, rfl, _, rfl, eq_q T qxU.is qyU.is ?_⟩
      refine ⟨_, rfl, du, _, _, _, rfl, rfl, .inl (.inl hdU), at3, Nat.zero_le _, fun u2 nu2 => ?_⟩
      have su2 := same_lay (o := .tup []) nu2
      have hDV := hDU.same su2
      have m4d := hDV (d4, D4) (List.mem_cons_of_mem _ (List.mem_cons_of_mem _ (List.mem_cons_of_mem _ List.mem_cons_self)))
      refine ⟨.tuple ((rws D4).map rowD), .tuple [], .tup (.inl (.inl m4d.1)) (dp_rows m4d.2), .tup (.inl (.inl upd_same)) .nil, shp_tup _, rfl, rfl, _, rfl, ?_⟩
      have ee : decide (rws L = rws M) = (rws D4).isEmpty := by
        rw [Bool.eq_iff_iff, decide_eq_true_eq, isEmpty_mem nf4]
        constructor
        · intro h t ht
          have k := ((m4 t).mp ht).2.2
          rw [← hXor, h] at k
          rcases k with k | k <;> exact k.2 k.1
        · intro h
          refine Nf.unique nfL nfM fun t => ?_
          constructor
          · intro ht
            refine Classical.byContradiction fun c => h t ?_
            have bd := mem_bd okL ht
            exact (m4 t).mpr ⟨bd.1, bd.2, (hXor _ _ t).mp (.inl ⟨ht, c⟩)⟩
          · intro ht
            refine Classical.byContradiction fun c => h t ?_
            have bd := mem_bd okM ht
            exact (m4 t).mpr ⟨bd.1, bd.2, (hXor _ _ t).mp (.inr ⟨ht, c⟩)⟩
      rw [eqT0, ee, nobl]
      refine iteF ?_
      have qxV := qxU.same su2
      have qyV := qyU.same su2
      have hdV := su2 _ _ hdU
      have SV := sU.trans su2
      generalize upd (upd K1 u1 (.tup [])) u2 (.tup []) = HV at *
      clear su2 su1 s1 hDU qxU qyU hdU m3d m4d sU nu1 nu2 hwb
      -- the truth of the common places
      refine ⟨_, rfl, _, rfl, bin_q qxV qyV b1 fun z5 n5 K5 q5 e5 s5 => ?_⟩
      obtain ⟨d5, _, _, _, _, h5, _⟩ := q5.st
      refine ⟨z5, d5, _, rfl, h5, z5, n5, rfl, q5.is, _, rfl, ?_⟩
      refine ⟨_, rfl, du, _, _, _, rfl, rfl, .inl (.inl (s5 _ _ hdV)), at1, Nat.zero_le _, fun u3 nu3 => ?_⟩
      have su3 := same_lay (o := .tup []) nu3
      have hDW := (hDV.same s5).same su3
      have m2d := hDW (d2, D2) (List.mem_cons_of_mem _ List.mem_cons_self)
      refine ⟨.tuple ((rws D2).map rowD), .tuple [], .tup (.inl (.inl m2d.1)) (dp_rows m2d.2), .tup (.inl (.inl upd_same)) .nil, shp_tup _, rfl, rfl, _, rfl, ?_⟩
      have e52 : n5 = rws D2 := due_is okL okM q5.is.nf nf2 e5 m2 (hAnd _ _) rfl
      rw [eqT0, e52, nobl]
      refine iteF ?_
      have s53 := s5.trans su3
      have qxW := qxV.same s53
      have SW := SV.trans s53
      generalize upd K5 u3 (.tup []) = HW at *
      clear s53 su3 s5 h5 hDW m2d nu3 qxV hdV hDV SV
      -- with itself
      refine ⟨_, rfl, _, rfl, bin_q qxW qxW b5 fun z6 n6 K6 q6 e6 s6 => ⟨_, rfl, ne_q T q6.is (qxW.same s6).is ⟨_, rfl, ?_⟩⟩⟩
      have e66 : n6 = rws L := Nf.unique q6.is.nf nfL fun t => (e6 t).trans ⟨fun h => h.elim id id, .inl⟩
      rw [decide_eq_true e66]
      refine iteF ?_
      have qx6 := qxW.same s6
      refine ⟨_, rfl, _, rfl, bin_q qx6 qx6 b6 fun z7 n7 K7 q7 e7 s7 => ?_⟩
      obtain ⟨d7, _, _, _, _, h7, _⟩ := q7.st
      refine ⟨z7, d7, _, rfl, h7, z7, n7, rfl, q7.is, _, rfl, ?_⟩
      have e77 : n7 = [] := Nf.unique q7.is.nf Nf.nil fun t => (e7 t).trans ⟨fun h => absurd h.1 h.2, fun h => absurd h (mem_nil t)⟩
      rw [e77]
      refine iteF ?_
      have qx7 := qx6.same s7
      refine ⟨_, rfl, _, rfl, bin_q qx7 qx7 b7 fun z8 n8 K8 q8 e8 s8 => ?_⟩
      intro xe H20 _ hxe s20
      refine ne_q T (q8.is.same s20) hxe ⟨_, rfl, ?_⟩
      have e88 : n8 = [] := Nf.unique q8.is.nf Nf.nil fun t => (e8 t).trans ⟨fun h => h.elim (fun k => absurd k.1 k.2) (fun k => absurd k.1 k.2), fun h => absurd h (mem_nil t)⟩
      rw [decide_eq_true e88]
      refine iteF ?_
      have S2 := SW.trans (((s6.trans s7).trans s8).trans s20)
      have qx2 := qxE.same S2
      have qy2 := qyE.same S2
      clear s6 s7 s8 s20 q6 q7 q8 h7 hxe qx6 qx7 qxW SW
      -- the other way round
      refine ⟨_, rfl, _, rfl, bin_q qy2 qx2 b4 fun z9 n9 K9 q9 e9 s9 => ?_⟩
      obtain ⟨w9, t9, _, _, R9, i9, h9, r9, x9⟩ := q9.st
      refine ⟨z9, C, w9, _, _, rfl, i9, T.cl, T.nS, pFl_s _ _ _, ?_⟩
      have S3 := S2.trans s9
      refine ⟨_, rfl, _, rfl, by show 4 ≤ sizeLine; decide, fun k5 nk5 => ?_⟩
      have v5 := same_lay (o := .lst (keptV kSub)) nk5
      have S4 := S3.trans v5
      refine ⟨b, a, k5, M, L, kSub, rfl, S4 _ _ hbE, S4 _ _ haE, upd_same, hME.same S4, hLE.same S4, okM, okL, by omega, fun d9 D9 B9 w9 g9 f9 nf9 m9 l9 => ?_⟩
      have S5 := S4.trans w9
      have v59 := v5.trans w9
      refine ⟨.tuple ((rws R9).map rowD), .tuple ((rws D9).map rowD), .tup (.inl (.inl (v59 _ _ h9))) (dp_rows (r9.same v59)), .tup (.inl (.inl g9)) (dp_rows f9), shp_tup _, shp_tup _, _, rfl, ?_⟩
      have e99 : rws R9 = rws D9 := x9.trans (due_is okM okL q9.is.nf nf9 e9 m9 (hSub _ _) rfl)
      rw [e99, eqT]
      refine iteF ?_
      -- the rules
      have qx5 := qxE.same S5
      have qy5 := qyE.same S5
      have qz5 := qzE.same S5
      refine ⟨_, rfl, _, rfl, _, rfl, x, y, z, rws L, rws M, rws G, rfl, qx5, qy5, qz5, by omega, by omega, by omega, fun H30 s30 => ⟨_, rfl, iteF ?_⟩⟩
      refine ⟨_, rfl, _, rfl, _, rfl, z, x, y, rws G, rws L, rws M, rfl, qz5.same s30, qx5.same s30, qy5.same s30, by omega, by omega, by omega, fun H31 s31 => ⟨_, rfl, iteF ?_⟩⟩
      have S6 := (S5.trans s30).trans s31
      -- as they were
      have qx6 := qxE.same S6
      obtain ⟨wx, tx, _, _, Rx, ix, hx, rx, ex⟩ := qx6.st
      refine ⟨_, rfl, x, C, wx, _, _, rfl, ix, T.cl, T.nS, pFl_s _ _ _, ?_⟩
      refine ⟨_, rfl, a, refs L, rfl, .inl ⟨.inl (.inl (S6 _ _ haE)), fun tv ntv => ?_⟩⟩
      have sv := same_lay (o := .tup (refs L)) ntv
      have S7 := S6.trans sv
      refine ⟨.tuple ((rws Rx).map rowD), .tuple ((rws L).map rowD), .tup (.inl (.inl (sv _ _ hx))) (dp_rows (rx.same sv)), .tup (.inl (.inl upd_same)) (dp_rows (hLE.same S7)), shp_tup _, shp_tup _, _, rfl, ?_⟩
      rw [ex, eqT]
      refine iteF ?_
      have qy6 := qyE.same S7
      obtain ⟨wy, ty, _, _, Ry, iy, hy, ry, ey⟩ := qy6.st
      refine ⟨_, rfl, y, C, wy, _, _, rfl, iy, T.cl, T.nS, pFl_s _ _ _, ?_⟩
      refine ⟨_, rfl, b, refs M, rfl, .inl ⟨.inl (.inl (S7 _ _ hbE)), fun tv2 ntv2 => ?_⟩⟩
      have sv2 := same_lay (o := .tup (refs M)) ntv2
      have S8 := S7.trans sv2
      refine ⟨.tuple ((rws Ry).map rowD), .tuple ((rws M).map rowD), .tup (.inl (.inl (sv2 _ _ hy))) (dp_rows (ry.same sv2)), .tup (.inl (.inl upd_same)) (dp_rows (hME.same S8)), shp_tup _, shp_tup _, _, rfl, ?_⟩
      rw [ey, eqT]
      refine iteF ?_
      exact ⟨_, _, _, _, _, _, _, _, _, rfl, (PE.same' S8).mono (by omega)⟩
    · rintro σ H2 ⟨s2, s3, s4, s5, s6, s7, s8, s9, s10, rfl, P1⟩
      exact q _
end
end OR

namespace OR
open PySem PySem.Spec PyProof.Rows L2
/-! ### what the top has left -/
/-- an __init__ whose last parameter may be left out: then it is the empty tuple at t0 -/
structure MtD (K : PySem.W.Frag) (C : Addr) (m qual : Str) (st : Stmt) : Prop where
  ex : ∃ f fd t0, FunD K m qual (defArgs st) (defBody st) (defScope st) [.ref t0] [] f fd ∧ PySem.W.findIn K (.ref C) m = some (some (.ref f)) ∧ PySem.W.isFn K (.ref f) = true ∧ ∀ H : Hp, SqT K H t0 []
theorem mtD {K : PySem.W.Frag} {h : Heap} {C : Addr} {m qual : Str} {st : Stmt} {f T t0 : Addr} {oc cT : Value} {od an dT d0 : Option Addr} {osl sT s0 : Array (Option Value)} {kV doc pm cdv ct : Value} {nT n0 : Nat} (_X : K.In h)
    (a : PySem.W.findIn K (.ref C) m = some (some (.ref f))) (l : K.lookup f = some ⟨oc, od, .func (PySem.W.fnOf m qual (defArgs st) (defBody st) (defScope st) (.ref T) kV doc pm an cdv ct), osl⟩)
    (lT : K.lookup T = some ⟨cT, dT, .seq #[.ref t0] nT, sT⟩) (l0 : K.lookup t0 = some ⟨.type "tuple", d0, .seq #[] n0, s0⟩)
    (c : PySem.W.codeIn K cdv qual = true) (k : PySem.W.keepIn K (.ref f) = true) (i : PySem.W.isFn K (.ref f) = true) : MtD K C m qual st :=
  ⟨f, _, t0, ⟨⟨oc, od, .ref T, kV, doc, pm, an, cdv, ct, osl, rfl, l, c, .inr ⟨by simp, T, _, [.ref t0], nT, rfl, lT, rfl, .cons rfl .nil⟩, .inl rfl⟩, k⟩, a, i, fun H => .inr ⟨_, #[], n0, l0, rfl, rfl, Nat.zero_le _, .nil⟩⟩
structure PAt (K : PySem.W.Frag) (C : Addr) : Prop where
  aC : PySem.W.nsIn K mainGlobals "Places" = some (some (.ref C))
  pg : PySem.W.plainGet K C Str.empty = true
  hd : PySem.W.hasDictIn K C = true
  po : PySem.W.plainOver K C = true
  sa : PySem.W.findIn K (.ref C) "__setattr__" = some (some (.builtin "object.__setattr__"))
  mks : PySem.W.makesIn K C = true
  kc : PySem.W.keepIn K (.ref C) = true
  nS : PySem.W.findIn K (.ref C) "stretches" = some none
  nF : PySem.W.findIn K (.ref C) "_firsts" = some none
  nB : PySem.W.findIn K (.ref C) "_before" = some none
  ca : PySem.W.findIn K (.ref C) "__class__" = some (some (.builtin "object.__class__"))
  cn : PySem.W.specialIn K (.builtin "object.__class__") "__get__" = some (some (.builtin "getset_descriptor.__get__"))
  ct : PySem.W.takesIn K (.builtin "object.__class__") = some true
  cm : PySem.W.mroIn K C (.type "object") = some true
  ne : PySem.W.findIn K (.ref C) "__ne__" = some (some (.builtin "object.__ne__"))
  sT : PySem.W.subIn K (.type "tuple") (.ref C) = some false
  sL : PySem.W.subIn K (.type "list") (.ref C) = some false
  kPP : PySem.W.kitOne K (.ref C) (.ref C) = some true
  kT : PySem.W.kitOne K (.type "tuple") (.ref C) = some false
  kL : PySem.W.kitOne K (.type "list") (.ref C) = some false
  sf : PySem.W.selfFirst K C = true
structure ZAt (K : PySem.W.Frag) : Prop where
  isi : PySem.W.nsIn K mainGlobals "isinstance" = some none
  int : PySem.W.nsIn K mainGlobals "int" = some none
  bool : PySem.W.nsIn K mainGlobals "bool" = some none
  tup : PySem.W.nsIn K mainGlobals "tuple" = some none
  list : PySem.W.nsIn K mainGlobals "list" = some none
  len : PySem.W.nsIn K mainGlobals "len" = some none
  max : PySem.W.nsIn K mainGlobals "max" = some none
  min : PySem.W.nsIn K mainGlobals "min" = some none
  sorted : PySem.W.nsIn K mainGlobals "sorted" = some none
  enum : PySem.W.nsIn K mainGlobals "enumerate" = some none
  range : PySem.W.nsIn K mainGlobals "range" = some none
  set : PySem.W.nsIn K mainGlobals "set" = some none
  abs : PySem.W.nsIn K mainGlobals "abs" = some none
theorem lastP_lit : lastP = 1000000000000000000000000000000 := by decide
theorem lp_of {p : Program} {lv : List (Str × PySem.W.WData)} {mg : Str → Option Value} {h : Heap} (X : PySem.W.XL p lv mg h) (hm : (("LAST_PLACE" : Str), PySem.W.WData.int 1000000000000000000000000000000) ∈ lv) : ∃ t, mg "LAST_PLACE" = some (.int lastP t) := by
  obtain ⟨v, hv, hr⟩ := X.2.val _ hm
  cases hr with
  | int i t => exact ⟨t, by rw [lastP_lit]; exact hv⟩
/-- walk_of, told besides what the top's loose names read -/
theorem walk_ofX {l : PySem.W.OpenLaw} {n k : Nat} {q : Program} {loose : List Str} {XP : (Str → Option Value) → Heap → Prop} {YP : World → Heap → Prop} {d : DefRec} {K : Params → PySem.W.Frag} {CX : World → CXT} {sp : World → Sp} {x : Str}
    (hn : l.most = some n) (hn2 : n ≤ sizeLine) (hdf : d.params.defaults = []) (hr : Room k callerA) (hY : ∀ (w : World) (h : Heap), YP w h → (K w.params).In h)
    (F : ∀ (w : World) (mg : Str → Option Value) (fa : Addr) (h : Heap), (K w.params).In h → h.Ns mainGlobals mg → XP mg h → mg d.name = some (.ref fa) →
      ∃ fd : FuncData, (∀ (s : Shared) (u : Value), BindsTo s fd ⟨[u], []⟩ [(x, u)]) ∧ ∀ base : Heap, (K w.params).In base → base.Ns mainGlobals mg → FnOk l.prog w (K w.params) mg base (CX w) k fa fd [x] (sp w))
    (hsp : ∀ (w : World) (H : Hp) (a : Addr) (ns : List Int), ns.length ≤ n → Only H → SqL (K w.params) H a (ns.map V.int) → sp w [.ref a] H (fun v _ => v = .bl true) fun _ _ _ => False)
    (hCX : ∀ (w : World) (H : Hp) (s : Shared) (e : Value) (s' : Shared), CX w [] H s (fun _ _ _ => False) e s' → False) : PySem.W.WalkO q loose XP YP l.row.toRowW d [] (fun f vs => PySem.call f vs) := by
  refine Att.attach_call hn hdf fun w s₀ s₁ mg mb fa o pm cd doc a vs ns G Y ho hd hcd hmg hobj hints hlen hg => ?_
  have KX := hY w _ Y
  obtain ⟨fd, hb, hF⟩ := F w mg fa _ KX G.T.g G.X hmg
  exact law_call KX G.T.g G.T.b G.T.builtins G.T.nolimit hg hobj hints (Nat.le_trans hlen hn2) hr hF hb (fun H hO hS => hsp w H a ns hlen hO hS) fun H e s' => hCX w H s₁ e s'
theorem PAt.txt {K : PySem.W.Frag} {C : Addr} {h : Heap} {mg : Str → Option Value} (L : PAt K C) (X : K.In h) (G : h.Ns mainGlobals mg) (Z : ZAt K) (lp : ∃ t, mg "LAST_PLACE" = some (.int lastP t)) : PTxt K mg C :=
  ⟨⟨L.pg, L.hd, L.po, L.sa⟩, L.nS, L.nF, L.nB, PySem.W.mg_of X G L.aC, ⟨L.ca, L.cn, L.ct, L.cm⟩, L.kPP, PySem.W.mg_none_of X G Z.isi, PySem.W.mg_none_of X G Z.int, PySem.W.mg_none_of X G Z.bool, PySem.W.mg_none_of X G Z.tup, PySem.W.mg_none_of X G Z.list,
    PySem.W.mg_none_of X G Z.len, PySem.W.mg_none_of X G Z.max, PySem.W.mg_none_of X G Z.sorted, PySem.W.mg_none_of X G Z.enum, lp⟩
theorem pmk_of {P : Program} {w : World} {K : PySem.W.Frag} {mg : Str → Option Value} {base : Heap} {C : Addr} (T : PTxt K mg C) (L : PAt K C) (mI : MtD K C "__init__" "Places.__init__" sPlInit)
    (S : Cl P w K mg base 3 "_is_stretch" ["value"] spIsStretchP) (J : Cl P w K mg base 1 "_joined" ["stretches"] (spJoined K)) (B : Cl P w K mg base 1 "_counts_before" ["stretches"] (spCounts K)) : PMk' P w K mg base C := by
  obtain ⟨f, fd, t0, F, a, i, ht⟩ := mI.ex
  obtain ⟨ds, r1, b1⟩ := F.binds1 (ps := ["self", "stretches"]) 2 1 (by simp) rfl fun T kV doc pm an cdv ct us its hu hi => match us, its, hu, hi with | [u, v], [x], _, _ => ⟨_, rfl, rfl⟩
  obtain ⟨es, r2, b2⟩ := F.binds1 (ps := ["self", "stretches"]) 1 0 (by simp) rfl fun T kV doc pm an cdv ct us its hu hi => match us, its, hu, hi with | [u], [x], _, _ => ⟨_, rfl, rfl⟩
  cases r1
  obtain ⟨u, rfl, ru⟩ := r2.one
  cases (show u = Value.ref t0 from ru)
  exact ⟨T, f, fd, t0, ⟨L.mks, a, i, L.kc⟩, ok_plinit F T S J B, b1, b2, ht⟩
end OR

namespace OR
open PySem PySem.Spec PyProof.Rows L2
theorem all_mk {l : PySem.W.OpenLaw} {w : World} {K : PySem.W.Frag} {h : Heap} {mg : Str → Option Value} {fa C : Addr} (X : K.In h) (G : h.Ns mainGlobals mg) (hfa : mg "law" = some (.ref fa)) (L : PAt K C) (Z : ZAt K) (lp : ∃ t, mg "LAST_PLACE" = some (.int lastP t))
    (mI : MtD K C "__init__" "Places.__init__" sPlInit) (fDI : FnAt K "is_integer" sIsInt) (fDP : FnAt K "is_place" sIsPlace) (fDS : FnAt K "_is_stretch" sIsStretch) (fDJ : FnAt K "_joined" sJoined) (fDC : FnAt K "_counts_before" sCounts) (mEQ : MtAt K C "__eq__" "__eq__" "Places.__eq__" sPlEq) (mBO : MtAt K C "__bool__" "__bool__" "Places.__bool__" sPlBool) (fDOv : FnAt K "overlaps" sOver) (fDCo : FnAt K "_common" sCommon) (fDGa : FnAt K "_gaps" sGaps) (mOO : MtAt K C "__or__" (PySem.dunder (Operator.info .BitOr).2) "Places.__or__" sPlOr) (mOA : MtAt K C "__and__" (PySem.dunder (Operator.info .BitAnd).2) "Places.__and__" sPlAnd) (mOS : MtAt K C "__sub__" (PySem.dunder (Operator.info .Sub).2) "Places.__sub__" sPlSub) (mOX : MtAt K C "__xor__" (PySem.dunder (Operator.info .BitXor).2) "Places.__xor__" sPlXor) (mWI : MtAt K C "within" "within" "Places.within" sPlWithin) (fDPen : FnAt K "_law_pen" sPen) (fDDraw : FnAt K "_law_draw" sDraw) (fDPick : FnAt K "_law_pick" sPick) (fDSpot : FnAt K "_law_spot" sSpot) (fDDrawn : FnAt K "_law_drawn" sDrawn) (fDMerg : FnAt K "_law_merged" sMerged) (fDHas : FnAt K "_law_has" sHas) (fDMix : FnAt K "_law_mixed" sMixed) (fDSec : FnAt K "_law_second" sSecond) (fDRul : FnAt K "_law_rules_hold" sRules) (fLaw : FnAt K "law" sLaw) :
    ∃ fd : FuncData, (∀ (s : Shared) (v : Value), BindsTo s fd ⟨[v], []⟩ [("_law_script", v)]) ∧ ∀ base : Heap, K.In base → base.Ns mainGlobals mg → FnOk l.prog w K mg base CX0 9 fa fd ["_law_script"] (spLaw K) := by
  obtain ⟨f, fd, F, e⟩ := fLaw.ex
  have e := hfa.symm.trans (PySem.W.mg_of X G e)
  cases e
  refine ⟨fd, fun s v => ?_, fun base _ _ => ?_⟩
  · obtain ⟨oc, od, kV, doc, pm, an, cdv, ct, osl, rfl, _⟩ := F.ex
    exact .of_eq rfl
  have T : PTxt K mg C := L.txt X G Z lp
  have none : ∀ {x : Str}, PySem.W.nsIn K mainGlobals x = some none → mg x = none := fun z => PySem.W.mg_none_of X G z
  have B1 : Bl mg := ⟨none Z.int, none Z.len, none Z.abs, none Z.list⟩
  have B : Bd mg := ⟨none Z.range, none Z.min, none Z.max, none Z.int, none Z.len, none Z.list, none Z.set, none Z.sorted⟩
  have DI : Cl l.prog w K mg base 1 "is_integer" ["value"] (spIsIntG K) := cl_of fDI X G (fun _ _ _ _ _ _ us hl => match us, hl with | [_], _ => rfl) fun f fd F => ok_isintG F T
  have DP : Cl l.prog w K mg base 2 "is_place" ["value"] (spIsPlace K) := cl_of fDP X G (fun _ _ _ _ _ _ us hl => match us, hl with | [_], _ => rfl) fun f fd F => ok_isplace F T DI
  have DS : Cl l.prog w K mg base 3 "_is_stretch" ["value"] spIsStretchP := cl_of fDS X G (fun _ _ _ _ _ _ us hl => match us, hl with | [_], _ => rfl) fun f fd F => ok_isstretch F T DP
  have DJ : Cl l.prog w K mg base 1 "_joined" ["stretches"] (spJoined K) := cl_of fDJ X G (fun _ _ _ _ _ _ us hl => match us, hl with | [_], _ => rfl) fun f fd F => ok_joined F T
  have DC : Cl l.prog w K mg base 1 "_counts_before" ["stretches"] (spCounts K) := cl_of fDC X G (fun _ _ _ _ _ _ us hl => match us, hl with | [_], _ => rfl) fun f fd F => ok_counts F T
  have M : PMk' l.prog w K mg base C := pmk_of T L mI DS DJ DC
  have EQ : Md l.prog w K mg base 1 C "__eq__" (spPlEq K C) := md_of mEQ (ps := ["self", "other"]) (fun _ _ _ _ _ _ us hl => match us, hl with | [_, _], _ => rfl) fun f fd F => ok_pleq F T
  have BO : Md l.prog w K mg base 1 C "__bool__" (spPlBool C) := md_of mBO (ps := ["self"]) (fun _ _ _ _ _ _ us hl => match us, hl with | [_], _ => rfl) fun f fd F => ok_plbool F T
  have DOv : Cl l.prog w K mg base 1 "overlaps" ["ones", "others"] (spOver K) := cl_of fDOv X G (fun _ _ _ _ _ _ us hl => match us, hl with | [_, _], _ => rfl) fun f fd F => ok_over F T (none Z.min)
  have DCo : Cl l.prog w K mg base 2 "_common" ["ones", "others"] (spCommon K) := cl_of fDCo X G (fun _ _ _ _ _ _ us hl => match us, hl with | [_, _], _ => rfl) fun f fd F => ok_common F (C := C) DOv
  have DGa : Cl l.prog w K mg base 1 "_gaps" ["stretches"] (spGaps K) := cl_of fDGa X G (fun _ _ _ _ _ _ us hl => match us, hl with | [_], _ => rfl) fun f fd F => ok_gaps F T
  have OO : Md l.prog w K mg base 6 C (PySem.dunder (Operator.info .BitOr).2) (spBin C fOr bOr) := md_of mOO (ps := ["self", "other"]) (fun _ _ _ _ _ _ us hl => match us, hl with | [_, _], _ => rfl) fun f fd F => ok_or F M
  have OA : Md l.prog w K mg base 6 C (PySem.dunder (Operator.info .BitAnd).2) (spBin C fAnd bOr) := md_of mOA (ps := ["self", "other"]) (fun _ _ _ _ _ _ us hl => match us, hl with | [_, _], _ => rfl) fun f fd F => ok_and F M DCo
  have OS : Md l.prog w K mg base 6 C (PySem.dunder (Operator.info .Sub).2) (spBin C fSub bSub) := md_of mOS (ps := ["self", "other"]) (fun _ _ _ _ _ _ us hl => match us, hl with | [_, _], _ => rfl) fun f fd F => ok_sub F M DCo DGa
  have OX : Md l.prog w K mg base 7 C (PySem.dunder (Operator.info .BitXor).2) (spBin C fXor bXor) := md_of mOX (ps := ["self", "other"]) (fun _ _ _ _ _ _ us hl => match us, hl with | [_, _], _ => rfl) fun f fd F => ok_xor F L.sf OO OS
  have WI : Mt l.prog w K mg base 7 C "within" ["self", "other"] (spWithin C) := mt_of mWI (fun _ _ _ _ _ _ us hl => match us, hl with | [_, _], _ => rfl) fun f fd F => ok_within F T L.sf OS BO
  have DPen : Cl l.prog w K mg base 1 "_law_pen" ["_law_script"] (spPen K) := cl_of fDPen X G (fun _ _ _ _ _ _ us hl => match us, hl with | [_], _ => rfl) fun f fd F => ok_pen F B1
  have DDraw : Cl l.prog w K mg base 1 "_law_draw" ["_law_pen_here", "_law_many"] spDraw := cl_of fDDraw X G (fun _ _ _ _ _ _ us hl => match us, hl with | [_, _], _ => rfl) fun f fd F => ok_draw F B1
  have DPick : Cl l.prog w K mg base 2 "_law_pick" ["_law_pen_here", "_law_items"] (spPick K) := cl_of fDPick X G (fun _ _ _ _ _ _ us hl => match us, hl with | [_, _], _ => rfl) fun f fd F => ok_pick F B1 DDraw
  have DSpot : Cl l.prog w K mg base 2 "_law_spot" ["_law_pen_here"] spSpot := cl_of fDSpot X G (fun _ _ _ _ _ _ us hl => match us, hl with | [_], _ => rfl) fun f fd F => ok_spot F DDraw
  have DDrawn : Cl l.prog w K mg base 3 "_law_drawn" ["_law_pen_here", "_law_most"] spDrawn := cl_of fDDrawn X G (fun _ _ _ _ _ _ us hl => match us, hl with | [_, _], _ => rfl) fun f fd F => ok_drawn F B DDraw DPick DSpot
  have DMerg : Cl l.prog w K mg base 1 "_law_merged" ["_law_rows"] (spMerged K) := cl_of fDMerg X G (fun _ _ _ _ _ _ us hl => match us, hl with | [_], _ => rfl) fun f fd F => ok_merged F B
  have DHas : Cl l.prog w K mg base 1 "_law_has" ["_law_rows", "_law_x"] (spHas K) := cl_of fDHas X G (fun _ _ _ _ _ _ us hl => match us, hl with | [_, _], _ => rfl) fun f fd F => ok_has F
  have DMix : Cl l.prog w K mg base 2 "_law_mixed" ["_law_one", "_law_other", "_law_kept"] (spMixed K) := cl_of fDMix X G (fun _ _ _ _ _ _ us hl => match us, hl with | [_, _, _], _ => rfl) fun f fd F => ok_mixed F B T DHas DMerg
  have DSec : Cl l.prog w K mg base 4 "_law_second" ["_law_pen_here", "_law_rows"] (spSecond K) := cl_of fDSec X G (fun _ _ _ _ _ _ us hl => match us, hl with | [_, _], _ => rfl) fun f fd F => ok_second F B DDraw DPick DMerg DDrawn
  have DRul : Cl l.prog w K mg base 8 "_law_rules_hold" ["_law_one", "_law_two", "_law_three"] (spRules C) := cl_of fDRul X G (fun _ _ _ _ _ _ us hl => match us, hl with | [_, _, _], _ => rfl) fun f fd F => ok_rules F T L.sf L.ne EQ OO OA OS OX
  exact ok_law F B M L.ne L.sf EQ BO OO OA OS OX WI DPen DDrawn DMerg DSec DMix DRul
end OR
open PySem PySem.W PyProof.Rows
set_option maxRecDepth 100000 in
set_option maxHeartbeats 0 in
theorem PySem.Challenge.cw_openranges_k04_whole_places_joined_and_c_holds : PySem.Challenge.rw_openranges_k04_whole_places_joined_and_c.Holds := by
  w_on; o_law; k_head; (case hw => w_witness2)
  k_fill
  refine OR.walk_ofX (l := PySem.Challenge.rw_openranges_k04_whole_places_joined_and_c) (n := 63) (k := 9) (x := "_law_script") (CX := fun _ => L2.CX0) (sp := fun w => OR.spLaw _) rfl (by decide) rfl ⟨rfl, by decide, by decide⟩ (fun w h Y => PySem.W.kIn_of Y) ?F (fun _ _ a ns hl _ hS => ⟨a, ns, rfl, hS, hl, fun _ => rfl⟩) (fun _ _ _ _ _ h => h)
  case F =>
    intro w mg fa h KX G XL hmg
    refine' OR.all_mk KX G hmg ?L ?Z (OR.lp_of XL (List.Mem.head _)) ?mI ?fDI ?fDP ?fDS ?fDJ ?fDC ?mEQ ?mBO ?fDOv ?fDCo ?fDGa ?mOO ?mOA ?mOS ?mOX ?mWI ?fDPen ?fDDraw ?fDPick ?fDSpot ?fDDrawn ?fDMerg ?fDHas ?fDMix ?fDSec ?fDRul ?fLaw
    all_goals try clear hmg XL
    case L =>
      refine' OR.PAt.mk ?aC ?pg ?hd ?po ?sa ?mks ?kc ?nS ?nF ?nB ?ca ?cn ?ct ?cm ?ne ?sT ?sL ?kPP ?kT ?kL ?sf
      (case aC => k_is); (case pg => k_is); (case hd => k_is); (case po => k_is); (case sa => k_is); (case mks => k_is); (case kc => k_is); (case nS => k_is); (case nF => k_is); (case nB => k_is); (case ca => k_is); (case cn => k_is); (case ct => k_is); (case cm => k_is); (case ne => k_is); (case sT => k_is); (case sL => k_is); (case kPP => kit_is); (case kT => kit_is); (case kL => kit_is); (case sf => k_is)
    case Z =>
      refine' OR.ZAt.mk ?isi ?int ?bool ?tup ?list ?len ?max ?min ?sorted ?enum ?range ?set ?abs
      (case isi => k_is); (case int => k_is); (case bool => k_is); (case tup => k_is); (case list => k_is); (case len => k_is); (case max => k_is); (case min => k_is); (case sorted => k_is); (case enum => k_is); (case range => k_is); (case set => k_is); (case abs => k_is)
    case mI => refine' OR.mtD KX ?a ?l ?lT ?l0 ?c ?k ?i; (case a => k_is); (case l => k_is); (case lT => k_is); (case l0 => k_is); (case c => k_is); (case k => k_is); (case i => k_is)
    case fDI => refine' OR.fnAt KX ?a ?l ?c ?k; (case a => k_is); (case l => k_is); (case c => k_is); (case k => k_is)
    case fDP => refine' OR.fnAt KX ?a ?l ?c ?k; (case a => k_is); (case l => k_is); (case c => k_is); (case k => k_is)
    case fDS => refine' OR.fnAt KX ?a ?l ?c ?k; (case a => k_is); (case l => k_is); (case c => k_is); (case k => k_is)
    case fDJ => refine' OR.fnAt KX ?a ?l ?c ?k; (case a => k_is); (case l => k_is); (case c => k_is); (case k => k_is)
    case fDC => refine' OR.fnAt KX ?a ?l ?c ?k; (case a => k_is); (case l => k_is); (case c => k_is); (case k => k_is)
    case mEQ => refine' OR.mtAt KX ?a ?l ?c ?k ?i ?n; (case a => k_is); (case l => k_is); (case c => k_is); (case k => k_is); (case i => k_is); (case n => k_is)
    case mBO => refine' OR.mtAt KX ?a ?l ?c ?k ?i ?n; (case a => k_is); (case l => k_is); (case c => k_is); (case k => k_is); (case i => k_is); (case n => k_is)
    case fDOv => refine' OR.fnAt KX ?a ?l ?c ?k; (case a => k_is); (case l => k_is); (case c => k_is); (case k => k_is)
    case fDCo => refine' OR.fnAt KX ?a ?l ?c ?k; (case a => k_is); (case l => k_is); (case c => k_is); (case k => k_is)
    case fDGa => refine' OR.fnAt KX ?a ?l ?c ?k; (case a => k_is); (case l => k_is); (case c => k_is); (case k => k_is)
    case mOO => refine' OR.mtAt KX ?a ?l ?c ?k ?i ?n; (case a => k_is); (case l => k_is); (case c => k_is); (case k => k_is); (case i => k_is); (case n => k_is)
    case mOA => refine' OR.mtAt KX ?a ?l ?c ?k ?i ?n; (case a => k_is); (case l => k_is); (case c => k_is); (case k => k_is); (case i => k_is); (case n => k_is)
    case mOS => refine' OR.mtAt KX ?a ?l ?c ?k ?i ?n; (case a => k_is); (case l => k_is); (case c => k_is); (case k => k_is); (case i => k_is); (case n => k_is)
    case mOX => refine' OR.mtAt KX ?a ?l ?c ?k ?i ?n; (case a => k_is); (case l => k_is); (case c => k_is); (case k => k_is); (case i => k_is); (case n => k_is)
    case mWI => refine' OR.mtAt KX ?a ?l ?c ?k ?i ?n; (case a => k_is); (case l => k_is); (case c => k_is); (case k => k_is); (case i => k_is); (case n => k_is)
    case fDPen => refine' OR.fnAt KX ?a ?l ?c ?k; (case a => k_is); (case l => k_is); (case c => k_is); (case k => k_is)
    case fDDraw => refine' OR.fnAt KX ?a ?l ?c ?k; (case a => k_is); (case l => k_is); (case c => k_is); (case k => k_is)
    case fDPick => refine' OR.fnAt KX ?a ?l ?c ?k; (case a => k_is); (case l => k_is); (case c => k_is); (case k => k_is)
    case fDSpot => refine' OR.fnAt KX ?a ?l ?c ?k; (case a => k_is); (case l => k_is); (case c => k_is); (case k => k_is)
    case fDDrawn => refine' OR.fnAt KX ?a ?l ?c ?k; (case a => k_is); (case l => k_is); (case c => k_is); (case k => k_is)
    case fDMerg => refine' OR.fnAt KX ?a ?l ?c ?k; (case a => k_is); (case l => k_is); (case c => k_is); (case k => k_is)
    case fDHas => refine' OR.fnAt KX ?a ?l ?c ?k; (case a => k_is); (case l => k_is); (case c => k_is); (case k => k_is)
    case fDMix => refine' OR.fnAt KX ?a ?l ?c ?k; (case a => k_is); (case l => k_is); (case c => k_is); (case k => k_is)
    case fDSec => refine' OR.fnAt KX ?a ?l ?c ?k; (case a => k_is); (case l => k_is); (case c => k_is); (case k => k_is)
    case fDRul => refine' OR.fnAt KX ?a ?l ?c ?k; (case a => k_is); (case l => k_is); (case c => k_is); (case k => k_is)
    case fLaw => refine' OR.fnAt KX ?a ?l ?c ?k; (case a => k_is); (case l => k_is); (case c => k_is); (case k => k_is)

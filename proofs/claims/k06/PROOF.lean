import PyProof.Rows.All
import Wide.All
import OpenK.AllK
import Wide.FinOn
import HandS.ForMost
import HandS.Wide
import HandS.IsInst
import HandS.TupAny
import HandS.TupLe
import HandS.Star
import HandS.Evl
import HandS.SortRule
import HandS.NoneIn
import HandS.Defaults
import HandS.TupSets
import HandS.Keys
import HandS.Small
import KE.KOpsOwn
import HandS.SlotsOwn
import KE.RegKIsAll
import PyProof.Draws
import HandS.ForExc
import HandS.ExcInit
import HandS.ExcField
import HandS.ExcIs
import HandS.ExcOwn
import KE.KExcIs
import HandS.Text
import HandS.FStr
import HandS.StrMore
import HandS.MapJoin
import HandS.Style
import HandS.ClsMeth
import PySem.Challenge.RW_openranges_k06_texts_of_places
set_option Elab.async false
set_option linter.all false
set_option maxRecDepth 100000
namespace OR
open PySem PySem.Spec PyProof.Rows L2
def top (i : Nat) : Stmt := PySem.Challenge.pw_openranges_k06_texts_of_places.main.body.getD i (.Pass ⟨0, 0, 0, 0⟩)
abbrev sBtInit : Stmt := inClass (top 4) 0
abbrev sIsInt : Stmt := top 10
abbrev sIsPlace : Stmt := top 11
abbrev sPlInit : Stmt := inClass (top 17) 0
abbrev sPlEq : Stmt := inClass (top 17) 1
abbrev sPlBool : Stmt := inClass (top 17) 2
abbrev sPlText : Stmt := inClass (top 17) 18
abbrev sPlRead : Stmt := inClass (top 17) 19
abbrev sIsStretch : Stmt := top 19
abbrev sJoined : Stmt := top 20
abbrev sCounts : Stmt := top 21
abbrev sSText : Stmt := top 25
abbrev sRStr : Stmt := top 26
abbrev sRPl : Stmt := top 13
abbrev sRDec : Stmt := top 12
abbrev sRStrs : Stmt := top 18
abbrev sPen : Stmt := top 28
abbrev sDraw : Stmt := top 29
abbrev sPick : Stmt := top 30
abbrev sSpot : Stmt := top 31
abbrev sDrawn : Stmt := top 32
abbrev sMerged : Stmt := top 33
abbrev sTextOf : Stmt := top 34
abbrev sWrong : Stmt := top 35
abbrev sTold : Stmt := top 36
abbrev sBeside : Stmt := top 37
abbrev sLaw : Stmt := top 38
end OR

namespace OR
open PySem PySem.Spec PyProof.Rows L2
/-! ### the pen: a dict of the cells, how many have begun, what is left of the last one -/
theorem kBC : ¬ ((Sum.inr ("begun" : Str) : Key) = Sum.inr ("cells" : Str)) := by decide +kernel
theorem kLC : ¬ ((Sum.inr ("left" : Str) : Key) = Sum.inr ("cells" : Str)) := by decide +kernel
theorem kLB : ¬ ((Sum.inr ("left" : Str) : Key) = Sum.inr ("begun" : Str)) := by decide +kernel
def penK (c : Addr) (k l : Int) : List (Key × V) := [(.inr ("cells" : Str), .ref c), (.inr ("begun" : Str), .int k), (.inr ("left" : Str), .int l)]
theorem pen_cells (c : Addr) (k l : Int) : valV (penK c k l) (.inr ("cells" : Str)) = some (.ref c) := valV_pos rfl
theorem pen_begun (c : Addr) (k l : Int) : valV (penK c k l) (.inr ("begun" : Str)) = some (.int k) :=
  (valV_neg (fun e => kBC e.symm)).trans (valV_pos rfl)
theorem pen_left (c : Addr) (k l : Int) : valV (penK c k l) (.inr ("left" : Str)) = some (.int l) :=
  (valV_neg (fun e => kLC e.symm)).trans ((valV_neg (fun e => kLB e.symm)).trans (valV_pos rfl))
theorem pen_put_left (c : Addr) (k l y : Int) : putK (penK c k l) (.inr ("left" : Str)) (.int y) = penK c k y := by
  have h1 : ¬ ((Sum.inr ("cells" : Str) : Key) = Sum.inr ("left" : Str)) := fun e => kLC e.symm
  have h2 : ¬ ((Sum.inr ("begun" : Str) : Key) = Sum.inr ("left" : Str)) := fun e => kLB e.symm
  unfold putK penK
  simp only [List.any_cons, List.any_nil, List.map_cons, List.map_nil, h1, h2, decide_true, decide_false, Bool.or_false, Bool.false_or, if_true, if_false]
theorem pen_put_begun (c : Addr) (k l y : Int) : putK (penK c k l) (.inr ("begun" : Str)) (.int y) = penK c y l := by
  have h1 : ¬ ((Sum.inr ("cells" : Str) : Key) = Sum.inr ("begun" : Str)) := fun e => kBC e.symm
  have h2 : ¬ ((Sum.inr ("left" : Str) : Key) = Sum.inr ("begun" : Str)) := kLB
  unfold putK penK
  simp only [List.any_cons, List.any_nil, List.map_cons, List.map_nil, h1, h2, decide_true, decide_false, Bool.or_false, Bool.false_or, Bool.or_true, if_true, if_false]
/-- a pen at p after at most n draws -/
def Pen (H : Hp) (p : Addr) (n : Nat) : Prop := ∃ (c : Addr) (ns : List Int) (k l : Int), H p = some (.dK (penK c k l)) ∧ H c = some (.lst (ns.map V.int)) ∧ ns.length ≤ 63 ∧ 0 ≤ k ∧ k ≤ n ∧ 0 ≤ l
/-- where the pen at p keeps its cells -/
def cellsAt (H : Hp) (p c : Addr) : Prop := ∃ k l, H p = some (.dK (penK c k l))
theorem penK_inj {c c' : Addr} {k l k' l' : Int} (h : penK c k l = penK c' k' l') : c = c' := by
  unfold penK at h
  injection h with h1 _
  injection h1 with _ h2
  injection h2
theorem cellsAt.inj {H : Hp} {p c : Addr} {k l : Int} {c' : Addr} (h : cellsAt H p c) (e : H p = some (.dK (penK c' k l))) : c = c' := by
  obtain ⟨k', l', e'⟩ := h
  rw [e] at e'
  injection e' with e'
  injection e' with e'
  exact (penK_inj e').symm
/-- all but what stands at p is as it was, and the pen there has the same cells -/
structure Frm (p : Addr) (H H' : Hp) : Prop where
  at_ : ∀ b o, H b = some o → b ≠ p → H' b = some o
  ce : ∀ c, cellsAt H p c → cellsAt H' p c
instance {p : Addr} {H H' : Hp} : CoeFun (Frm p H H') (fun _ => ∀ b o, H b = some o → b ≠ p → H' b = some o) := ⟨Frm.at_⟩
theorem Frm.refl (p : Addr) (H : Hp) : Frm p H H := ⟨fun _ _ h _ => h, fun _ h => h⟩
theorem Frm.trans {p : Addr} {H H1 H2 : Hp} (a : Frm p H H1) (b : Frm p H1 H2) : Frm p H H2 := ⟨fun c o h n => b c o (a c o h n) n, fun c h => b.ce c (a.ce c h)⟩
theorem Frm.pen {p c : Addr} {H : Hp} {k l k' l' : Int} (h : H p = some (.dK (penK c k l))) : Frm p H (upd H p (.dK (penK c k' l'))) :=
  ⟨fun b x e n => by rw [upd_ne n]; exact e, fun c' h' => by rw [h'.inj h]; exact ⟨k', l', upd_same⟩⟩
theorem Frm.new {p q : Addr} {H : Hp} {o : HO} (h : H q = none) : Frm p H (upd H q o) :=
  ⟨fun b x e _ => by rw [upd_ne (ne_of_none e h)]; exact e, fun c ⟨k, l, e⟩ => ⟨k, l, by rw [upd_ne (ne_of_none e h)]; exact e⟩⟩
/-- a list that is not the pen's cells is changed -/
theorem Pen.put {H : Hp} {p c a : Addr} {n : Nat} {xs : List V} {o : HO} (P : Pen H p n) (hc : cellsAt H p c) (h : H a = some (.lst xs)) (n1 : c ≠ a) : Pen (upd H a o) p n := by
  obtain ⟨c', ns, k, l, h1, h2, h3⟩ := P
  obtain rfl := hc.inj h1
  exact ⟨c, ns, k, l, by rw [upd_ne (ne_of h1 h (by intro z; cases z))]; exact h1, by rw [upd_ne n1]; exact h2, h3⟩
theorem Pen.cells {H : Hp} {p : Addr} {n : Nat} (P : Pen H p n) : ∃ c, cellsAt H p c ∧ H c ≠ none := by
  obtain ⟨c, ns, k, l, h1, h2, _⟩ := P
  exact ⟨c, ⟨k, l, h1⟩, by rw [h2]; exact fun z => nomatch z⟩
theorem Pen.dict {H : Hp} {p : Addr} {n : Nat} (P : Pen H p n) : ∃ kvs, H p = some (.dK kvs) := by
  obtain ⟨c, ns, k, l, h1, _⟩ := P
  exact ⟨_, h1⟩
/-- what stands at a list, a tuple or an object is not the pen -/
theorem Frm.lst {H H' : Hp} {p a : Addr} {n : Nat} {xs : List V} (f : Frm p H H') (P : Pen H p n) (h : H a = some (.lst xs)) : H' a = some (.lst xs) := by
  obtain ⟨kvs, hp⟩ := P.dict
  exact f _ _ h (ne_of h hp (by intro z; cases z))
theorem Pen.mono {H : Hp} {p : Addr} {n m : Nat} (P : Pen H p n) (h : n ≤ m) : Pen H p m := by
  obtain ⟨c, ns, k, l, h1, h2, h3, h4, h5, h6⟩ := P
  exact ⟨c, ns, k, l, h1, h2, h3, h4, by omega, h6⟩
theorem Pen.new {H : Hp} {p q : Addr} {n : Nat} {o : HO} (P : Pen H p n) (h : H q = none) : Pen (upd H q o) p n := by
  obtain ⟨c, ns, k, l, h1, h2, h3, h4, h5, h6⟩ := P
  exact ⟨c, ns, k, l, by rw [upd_ne (ne_of_none h1 h)]; exact h1, by rw [upd_ne (ne_of_none h2 h)]; exact h2, h3, h4, h5, h6⟩
/-! ### the promises -/
/-- a draw: some number below m -/
def spDraw : Sp := fun vs H Q _ => ∃ (p : Addr) (m : Int) (n : Nat), vs = [.ref p, .int m] ∧ 0 < m ∧ m.natAbs < 2 ^ 200 ∧ Pen H p n ∧ n ≤ 1000000 ∧
  ∀ (r : Int) (H' : Hp), 0 ≤ r → r < m → Pen H' p (n + 1) → Frm p H H' → Q (.int r) H'
/-- a def that lets nothing out, as it is called by its name -/
structure Cl (P : Program) (w : World) (K : PySem.W.Frag) (mg : Str → Option Value) (base : Heap) (k : Nat) (x : Str) (ps : List Str) (sp : Sp) : Prop where
  ex : ∃ (f : Addr) (fd : FuncData), FnOk P w K mg base CX0 k f fd ps sp ∧ mg x = some (.ref f) ∧ PySem.W.keepIn K (.ref f) = true ∧ Binds K fd ps []
theorem pe_cl {X : Cx} {k j : Nat} {x : Str} {ps : List Str} {sp : Sp} {e : Expr} {es : List Expr} {t : TA} {p pos : Pos} (c : Cl X.prog X.w X.K X.mg X.base k x ps sp) (hr : Room j X.A) (hk : k ≤ j) (hg : Gl X x) (ha : PA X (e :: es) t)
    (hdb : (x == ("__debug__" : Str)) = false := by decide) (he : starEach (e :: es) X.env = (false, eval e X.env) :: starEach es X.env := by rfl) (hpl : (backTo pos (starEach es X.env)).any (·.1) = false := by rfl) :
    PE X (.Call (.Name x p) (e :: es) [] pos) (tCall sp [] E0 t) := by
  obtain ⟨f, fd, F, hm, hkp, hb⟩ := c.ex
  exact pe_call F (hr.mono hk) hg hm hkp hb .nil pass0 ha hdb he hpl
theorem Frm.seq {K : PySem.W.Frag} {H H' : Hp} {p a : Addr} {n : Nat} {xs : List V} (f : Frm p H H') (P : Pen H p n) (h : SqL K H a xs) : SqL K H' a xs := by
  obtain ⟨c, ns, k, l, hp, _⟩ := P
  rcases h with (h | ⟨o, h⟩) | h
  · exact .inl (.inl (f _ _ h (ne_of h hp (by intro z; cases z))))
  · exact .inl (.inr ⟨o, f _ _ h (ne_of h hp (by intro z; cases z))⟩)
  · exact .inr h
theorem Frm.tup {K : PySem.W.Frag} {H H' : Hp} {p a : Addr} {n : Nat} {xs : List V} (f : Frm p H H') (P : Pen H p n) (h : SqT K H a xs) : SqT K H' a xs := by
  obtain ⟨c, ns, k, l, hp, _⟩ := P
  rcases h with (h | ⟨o, h⟩) | h
  · exact .inl (.inl (f _ _ h (ne_of h hp (by intro z; cases z))))
  · exact .inl (.inr ⟨o, f _ _ h (ne_of h hp (by intro z; cases z))⟩)
  · exact .inr h
/-- an item of a list that is not empty -/
def spPick (K : PySem.W.Frag) : Sp := fun vs H Q _ => ∃ (p a : Addr) (xs : List V) (n : Nat), vs = [.ref p, .ref a] ∧ SqL K H a xs ∧ 0 < xs.length ∧ xs.length ≤ 1000 ∧ Pen H p n ∧ n ≤ 1000000 ∧
  ∀ (v : V) (H' : Hp), v ∈ xs → Pen H' p (n + 1) → Frm p H H' → Q v H'
/-- some number, not too great -/
def spWhole : Sp := fun vs H Q _ => ∃ (p : Addr) (n : Nat), vs = [.ref p] ∧ Pen H p n ∧ n ≤ 900000 ∧
  ∀ (r : Int) (H' : Hp), -(10 ^ 30) < r → r < 10 ^ 30 → Pen H' p (n + 3) → Frm p H H' → Q (.int r) H'
/-- the pen, made of the script -/
def spPen (K : PySem.W.Frag) : Sp := fun vs H Q _ => ∃ (a : Addr) (ns : List Int), vs = [.ref a] ∧ SqL K H a (ns.map V.int) ∧ ns.length ≤ 63 ∧
  ∀ (p : Addr) (H' : Hp), H p = none → Pen H' p 0 → Same H H' → Q (.ref p) H'
structure Bl (mg : Str → Option Value) : Prop where
  int : mg "int" = none
  len : mg "len" = none
  abs : mg "abs" = none
  list : mg "list" = none
theorem dg {H : Hp} {p : Addr} {kvs : List (Key × V)} {x : Str} {v : V} (h : H p = some (.dK kvs)) (e : valV kvs (.inr x) = some v) : DGet H p (.str x) (some v) := e ▸ DGet.k (k := .inr x) h
theorem dp {H : Hp} {p : Addr} {kvs kvs' : List (Key × V)} {x : Str} {v : V} (h : H p = some (.dK kvs)) (e : putK kvs (.inr x) v = kvs') (hl : kvs.length < sizeLine) : DPut H p (.str x) v (upd H p (.dK kvs')) := e ▸ DPut.k (k := .inr x) h hl
theorem pen_small (c : Addr) (k l : Int) : (penK c k l).length < sizeLine := by show 3 < sizeLine; decide
theorem mod_bd (a b : Int) (h : 0 < b) : 0 ≤ a % b ∧ a % b < b := ⟨Int.emod_nonneg a (by omega), Int.emod_lt_of_pos a h⟩
theorem boot_absO : bootBuiltins ("abs" : Str) = some (.builtin "abs") := by decide +kernel
section
variable {P : Program} {w : World} {K : PySem.W.Frag} {mg : Str → Option Value} {base : Heap}
theorem scDraw : FnScope ["_law_pen_here", "_law_many", "_law_digit", "_law_k", "_law_size", "_law_cell", "_law_mix"] ["_law_pen_here", "_law_many"] (defScope sDraw) := ⟨rfl, rfl, rfl, by decide +kernel, rfl, by decide +kernel, by decide +kernel⟩
theorem div200 {m : Int} (h : 0 < m) (h2 : m.natAbs < 2 ^ 200) (i : Int) : CDivW i m := wide_div h h2 (by decide) (by decide)
theorem ok_draw {f : Addr} {fd : FuncData} (F : Fun K "_law_draw" "_law_draw" sDraw f fd) (B : Bl mg) : FnOk P w K mg base CX0 1 f fd ["_law_pen_here", "_law_many"] spDraw := by
  refine F.ok scDraw (fun vs H Q E h => ?_) (fun cdv A outer s H vs Q E hr h => ?_)
  · obtain ⟨p, m, n, rfl, _⟩ := h
    rfl
  · obtain ⟨p, m, n, rfl, hm, hmb, ⟨c, ns, k, l, hp, hc, hns, hk0, hkn, hl⟩, hn, q⟩ := h
    have hu := hu_of hr
    have ncp : c ≠ p := ne_of hc hp (by intro z; cases z)
    have nd := scDraw.nd
    refine ⟨_, pss_cons (ps_if (pt_cmpR op_gt (pe_dget hu (pv 0) pe_str (fun _ _ => rfl)) pe_int (nomark _))
        (pss_cons (ps_set (i := 2) nd rfl (.inl rfl) (pe_op op_mod (pe_callTy call_int1 (by rfl) B.int boot_int (pa_cons (pe_dget hu (pv 0) pe_str (fun _ _ => rfl)) pa_nil)) (pv 1)))
        (pss_cons (ps_dput hu (pv 0) pe_str (pe_op op_fdivW (pe_dget hu (pv 0) pe_str (fun _ _ => rfl)) (pv 1)) rfl)
        (pss_one (ps_ret (pv 2))))) pss_nil)
      (pss_cons (ps_par (i := 3) (j := 4) rfl nd rfl rfl (by decide) rfl rfl (pa_cons (pe_dget hu (pv 0) pe_str (fun _ _ => rfl)) (pa_cons (pe_callB call_len_seq (by rfl) B.len PySem.boot_len (pa_cons (pe_dget hu (pv 0) pe_str (fun _ _ => rfl)) pa_nil)) pa_nil)) rfl)
      (pss_cons (ps_dput hu (pv 0) pe_str (pe_op op_add (pv 3) pe_int) rfl)
      (Evl.pss_cut (ps_set (i := 5) nd rfl (.inl rfl) (pe_ifExp (pt_cmpR op_gt (pv 4) pe_int (nomark _))
          (pe_ix ix_list (pe_dget hu (pv 0) pe_str (fun _ _ => rfl)) (pe_op op_mod (pe_callTy call_int1 (by rfl) B.int boot_int (pa_cons (pv 3) pa_nil)) (pv 4)) (fun _ _ => rfl))
          (pe_op op_add (pe_op op_mul pe_int (pv 3)) pe_int)))
      (Evl.pss_cut (ps_if (PW.pt (pw_and (pt_cmpR op_lt (pv 3) (pv 4) (nomark _)) (pw_and1 (pt_cmpR op_ge (pe_callB call_abs (by rfl) B.abs boot_absO (pa_cons (pv 5) pa_nil)) (pe_op op_pow pe_int pe_int) (nomark _)))))
        (pss_cons (ps_dput hu (pv 0) pe_str (pe_op op_fdivW (pe_op op_sub (pe_callB call_abs (by rfl) B.abs boot_absO (pa_cons (pv 5) pa_nil)) (pe_op op_pow pe_int pe_int)) (pv 1)) rfl)
        (pss_one (ps_ret (pe_op op_mod (pe_callTy call_int1 (by rfl) B.int boot_int (pa_cons (pe_op op_sub (pe_callB call_abs (by rfl) B.abs boot_absO (pa_cons (pv 5) pa_nil)) (pe_op op_pow pe_int pe_int)) pa_nil)) (pv 1))))) pss_nil)
      (pss_cons (ps_set (i := 6) nd rfl (.inl rfl) (pe_op op_mod (pe_callTy call_int1 (by rfl) B.int boot_int (pa_cons
          (pe_op op_add (pe_op op_add (pe_op op_add (pe_op op_mul (pe_op op_mod (pe_callTy call_int1 (by rfl) B.int boot_int (pa_cons (pv 5) pa_nil)) pe_int) pe_int) (pe_op op_mul (pe_op op_mul pe_int (pv 3)) (pv 3))) (pe_op op_mul pe_int (pv 3))) pe_int) pa_nil)) pe_int))
      (pss_cons (ps_set (i := 6) nd rfl (.inl rfl) (pe_op op_mod (pe_callTy call_int1 (by rfl) B.int boot_int (pa_cons
          (pe_op op_add (pe_op op_add (pe_op op_mul (pv 6) (pv 6)) (pe_op op_mul pe_int (pv 6))) (pe_op op_mul pe_int (pv 3))) pa_nil)) pe_int))
      (pss_one (ps_ret (pe_op op_mod (pe_callTy call_int1 (by rfl) B.int boot_int (pa_cons (pe_op op_fdiv (pe_op op_mod (pe_callTy call_int1 (by rfl) B.int boot_int (pa_cons (pe_op op_mul (pv 6) (pe_op op_add (pv 6) pe_int)) pa_nil)) pe_int) pe_int) pa_nil)) (pv 1)))))))))), ?_⟩
    -- if pen['left'] > 0
    have dL : DGet H p (.str "left") (some (.int l)) := dg hp (pen_left c k l)
    have dB : DGet H p (.str "begun") (some (.int k)) := dg hp (pen_begun c k l)
    have dC : DGet H p (.str "cells") (some (.ref c)) := dg hp (pen_cells c k l)
    refine ⟨_, rfl, p, .int l, rfl, dL, _, _, rfl, rfl, _, rfl, ite2 (fun e => ?_) (fun e => ?_)⟩
    · have hl1 : 0 < l := of_decide_eq_true e
      refine ⟨_, rfl, p, .int l, rfl, dL, .inl ⟨l, rfl, _, rfl, l, m, rfl, rfl, hm, ?_⟩⟩
      refine ⟨_, rfl, p, .int l, rfl, dL, _, rfl, l, m, rfl, rfl, div200 hm hmb l, _, rfl, p, _, rfl, dp hp (pen_put_left c k l _) (pen_small c k l), _, rfl, ?_⟩
      refine q (l % m) _ (mod_bd l m hm).1 (mod_bd l m hm).2 ⟨c, ns, k, l / m, upd_same, by rw [upd_ne ncp]; exact hc, hns, hk0, by omega, Int.ediv_nonneg hl (by omega)⟩ (Frm.pen hp)
    · -- k, size = pen['begun'], len(pen['cells'])
      have hcL : SqL K H c (ns.map V.int) := .inl (.inl hc)
      refine ⟨_, rfl, p, .int k, rfl, dB, _, rfl, p, .ref c, rfl, dC, c, _, rfl, .inl hcL, _, _, rfl, ?_⟩
      refine ⟨_, rfl, _, _, rfl, rfl, _, rfl, p, _, rfl, dp hp (pen_put_begun c k l _) (pen_small c k l), ?_⟩
      -- cell = ..
      have hl0 : l = 0 := by
        have : ¬ (0 < l) := fun z => e (decide_eq_true z)
        omega
      have hp1 : (upd H p (.dK (penK c (k + 1) l))) p = some (.dK (penK c (k + 1) l)) := upd_same
      have hc1 : (upd H p (.dK (penK c (k + 1) l))) c = some (.lst (ns.map V.int)) := by rw [upd_ne ncp]; exact hc
      have dC1 := dg (x := "cells") hp1 (pen_cells c (k + 1) l)
      have hcL1 : SqL K (upd H p (.dK (penK c (k + 1) l))) c (ns.map V.int) := .inl (.inl hc1)
      have fin : ∀ (r y : Int), 0 ≤ r → r < m → 0 ≤ y → ∀ H', H' = upd H p (.dK (penK c (k + 1) y)) → Q (.int r) H' := fun r y h0 h1 hy H' e => by
        subst e
        exact q r _ h0 h1 ⟨c, ns, k + 1, y, upd_same, by rw [upd_ne ncp]; exact hc, hns, by omega, by omega, hy⟩ (Frm.pen hp)
      refine ⟨fun σ' H' => ∃ cell : Int, σ' = [some (.ref p), some (.int m), none, some (.int k), some (.int ((ns.map V.int).length : Int)), some (.int cell), none] ∧ H' = upd H p (.dK (penK c (k + 1) l)), ?_, ?_⟩
      · refine ⟨_, rfl, _, _, rfl, rfl, _, rfl, ite2 (fun e2 => ?_) (fun e2 => ?_)⟩
        · have hsz : (0 : Int) < ((ns.map V.int).length : Int) := of_decide_eq_true e2
          have hb := mod_bd k _ hsz
          have hj : (k % ((ns.map V.int).length : Int)).toNat < ns.length := by
            rw [List.length_map] at hb ⊢
            omega
          refine ⟨_, rfl, p, _, rfl, dC1, _, rfl, .inl ⟨k, rfl, _, rfl, k, _, rfl, rfl, hsz, c, ns.map V.int, _, .int ns[(k % ((ns.map V.int).length : Int)).toNat], rfl, rfl, hcL1, ?_, ?_⟩⟩
          · have := atI_nat (xs := ns.map V.int) (j := (k % ((ns.map V.int).length : Int)).toNat) (v := .int ns[(k % ((ns.map V.int).length : Int)).toNat]) (by rw [List.getElem?_map, List.getElem?_eq_getElem hj]; rfl)
            rw [Int.toNat_of_nonneg hb.1] at this
            exact this
          · exact ⟨_, rfl, rfl⟩
        · refine ⟨_, rfl, _, _, rfl, rfl, .inl ⟨by decide, by decide⟩, _, _, rfl, rfl, ?_⟩
          exact ⟨_, rfl, rfl⟩
      · rintro σ' H' ⟨cell, rfl, rfl⟩
        refine ⟨fun σ' H' => σ' = [some (.ref p), some (.int m), none, some (.int k), some (.int ((ns.map V.int).length : Int)), some (.int cell), none] ∧ H' = upd H p (.dK (penK c (k + 1) l)), ?_, ?_⟩
        · have hpow : CPow 10 18 := ⟨by decide, by decide, by decide⟩
          refine ⟨_, rfl, _, rfl, _, _, rfl, rfl, _, rfl, ite2 (fun e2 => ?_) (fun e2 => ?_)⟩
          · refine ⟨_, rfl, cell, rfl, _, _, rfl, rfl, hpow, _, _, rfl, rfl, _, rfl, ite2 (fun e3 => ?_) (fun e3 => ?_)⟩
            · have hge := of_decide_eq_true e3
              refine ⟨_, rfl, cell, rfl, _, _, rfl, rfl, hpow, _, _, rfl, rfl, _, rfl, _, _, rfl, rfl, div200 hm hmb _, _, rfl, p, _, rfl, dp hp1 (pen_put_left c (k + 1) l _) (pen_small c _ l), ?_⟩
              refine ⟨_, rfl, cell, rfl, _, _, rfl, rfl, hpow, _, _, rfl, rfl, .inl ⟨_, rfl, _, rfl, _, _, rfl, rfl, hm, ?_⟩⟩
              refine fin _ (((if cell < 0 then -cell else cell) - 10 ^ (18 : Int).toNat) / m) (mod_bd _ m hm).1 (mod_bd _ m hm).2 (Int.ediv_nonneg ?_ (by omega)) _ ?_
              · show (0 : Int) ≤ (if cell < 0 then -cell else cell) - 10 ^ (18 : Int).toNat
                have : (10 : Int) ^ (18 : Int).toNat ≤ (if cell < 0 then -cell else cell) := hge
                omega
              · rw [upd_upd]
            · exact ⟨rfl, rfl⟩
          · exact iteF ⟨rfl, rfl⟩
        · rintro σ' H' ⟨rfl, rfl⟩
          -- mix
          refine ⟨_, rfl, .inl ⟨_, rfl, _, _, rfl, rfl, (by show (0 : Int) < 4294966769; decide), _, _, rfl, rfl, .inr ⟨by decide, by decide⟩, _, rfl, _, _, rfl, rfl, .inl ⟨by decide, by decide⟩, _, rfl, _, _, rfl, rfl, .inl ?_, _, _, rfl, rfl, _, rfl, _, _, rfl, rfl, .inl ⟨by decide, by decide⟩, _, _, rfl, rfl, _, _, rfl, rfl, .inl ⟨_, rfl, _, _, rfl, rfl, (by show (0 : Int) < 4294966813; decide), ?_⟩⟩⟩
          · constructor <;> omega
          -- mix again
          generalize hM : (cell % 4294966769 * 43313 + 31699 * k * k + 613 * k + 41) % 4294966813 = M
          have hMb : 0 ≤ M ∧ M < 4294966813 := hM ▸ mod_bd _ _ (by decide)
          refine ⟨_, rfl, _, rfl, _, _, rfl, rfl, .inl (by constructor <;> omega), _, rfl, _, _, rfl, rfl, .inl ⟨by decide, by decide⟩, _, _, rfl, rfl, _, rfl, _, _, rfl, rfl, .inl ⟨by decide, by decide⟩, _, _, rfl, rfl, .inl ⟨_, rfl, _, _, rfl, rfl, (by show (0 : Int) < 4294966787; decide), ?_⟩⟩
          generalize hM2 : (M * M + 40961 * M + 17 * k) % 4294966787 = M2
          have hMb2 : 0 ≤ M2 ∧ M2 < 4294966787 := hM2 ▸ mod_bd _ _ (by decide)
          refine ⟨_, rfl, _, rfl, _, _, rfl, rfl, _, _, rfl, rfl, .inl (by constructor <;> omega), .inl ⟨_, rfl, _, _, rfl, rfl, (by show (0 : Int) < 4294966661; decide), _, _, rfl, rfl, ⟨by decide, by decide⟩, .inl ⟨_, rfl, _, rfl, _, _, rfl, rfl, hm, ?_⟩⟩⟩
          exact fin _ l (mod_bd _ m hm).1 (mod_bd _ m hm).2 hl _ rfl
theorem scPick : FnScope ["_law_pen_here", "_law_items"] ["_law_pen_here", "_law_items"] (defScope sPick) := ⟨rfl, rfl, rfl, by decide +kernel, rfl, by decide +kernel, by decide +kernel⟩
theorem ok_pick {f : Addr} {fd : FuncData} (F : Fun K "_law_pick" "_law_pick" sPick f fd) (B : Bl mg) (D : Cl P w K mg base 1 "_law_draw" ["_law_pen_here", "_law_many"] spDraw) : FnOk P w K mg base CX0 2 f fd ["_law_pen_here", "_law_items"] (spPick K) := by
  refine F.ok scPick (fun vs H Q E h => ?_) (fun cdv A outer s H vs Q E hr h => ?_)
  · obtain ⟨p, a, xs, n, rfl, _⟩ := h
    rfl
  · obtain ⟨p, a, xs, n, rfl, hS, h0, h1, hP, hn, q⟩ := h
    refine ⟨_, pss_one (ps_ret (pe_ix ix_list (pv 1) (pe_cl D hr (by decide) (by rfl) (pa_cons (pv 0) (pa_cons (pe_callB call_len_seq (by rfl) B.len PySem.boot_len (pa_cons (pv 1) pa_nil)) pa_nil))) (fun _ _ => rfl))), ?_⟩
    refine ⟨_, rfl, _, rfl, _, rfl, a, xs, rfl, .inl hS, p, xs.length, n, rfl, by omega, ?_, hP, hn, fun r H' hr0 hr1 hP' hF => ?_⟩
    · have : xs.length < 2 ^ 200 := Nat.lt_of_le_of_lt h1 (by decide)
      simpa using this
    · have hj : r.toNat < xs.length := by omega
      refine ⟨a, xs, r, xs[r.toNat], rfl, rfl, hF.seq hP hS, ?_, q _ _ (List.getElem_mem hj) hP' hF⟩
      have := atI_nat (xs := xs) (j := r.toNat) (v := xs[r.toNat]) (List.getElem?_eq_getElem hj)
      rw [Int.toNat_of_nonneg hr0] at this
      exact this
theorem scPen : FnScope ["_law_script"] ["_law_script"] (defScope sPen) := ⟨rfl, rfl, rfl, by decide +kernel, rfl, by decide +kernel, by decide +kernel⟩
theorem cut63 (ns : List Int) : cutV (ns.map V.int) none (some 63) = (ns.take 63).map V.int := by
  unfold cutV
  rw [HT.sIx_none, show HT.sIx (ns.map V.int).length (ns.map V.int).length (some 63) = min 63 (ns.map V.int).length from HT.sIx_nat _ _ 63, List.drop_zero, Nat.sub_zero, List.map_take]
  rcases Nat.le_total 63 (ns.map V.int).length with h | h
  · rw [Nat.min_eq_left h]
  · rw [Nat.min_eq_right h, List.take_of_length_le (Nat.le_refl _), List.take_of_length_le h]
theorem ok_pen {f : Addr} {fd : FuncData} (F : Fun K "_law_pen" "_law_pen" sPen f fd) (B : Bl mg) : FnOk P w K mg base CX0 1 f fd ["_law_script"] (spPen K) := by
  refine F.ok scPen (fun vs H Q E h => ?_) (fun cdv A outer s H vs Q E hr h => ?_)
  · obtain ⟨a, ns, rfl, _⟩ := h
    rfl
  · obtain ⟨a, ns, rfl, hS, hlen, q⟩ := h
    refine ⟨_, pss_one (ps_ret (pe_disp (pps_cons pe_str (pe_callTy call_list_of (by rfl) B.list (by decide +kernel) (pa_cons (pe_slice sl_list (pv 0) po_none (po_some pe_int)) pa_nil)) (pps_cons pe_str pe_int (pps_cons pe_str pe_int pps_nil))) rfl rfl (by simp) (by decide))), ?_⟩
    intro p hp
    have s1 : Same H (upd H p (.dK [])) := fun b o e => by rw [upd_ne (ne_of_none e hp)]; exact e
    refine ⟨_, rfl, _, rfl, a, _, rfl, s1.seq hS, fun x hx => ?_⟩
    refine ⟨x, _, rfl, .inl (.inl (.inl upd_same)), fun c hc => ?_⟩
    have npx : p ≠ x := ne_of_none upd_same hx
    have npc : p ≠ c := by
      intro e
      subst e
      rw [upd_ne npx, upd_same] at hc
      cases hc
    have a1 : putK ([] : List (Key × V)) (.inr ("cells" : Str)) (.ref c) = [(.inr ("cells" : Str), .ref c)] := putK_new _ valV_nil
    have a2 : putK ([(.inr ("cells" : Str), .ref c)] : List (Key × V)) (.inr ("begun" : Str)) (.int 0) = [(.inr ("cells" : Str), .ref c), (.inr ("begun" : Str), .int 0)] := putK_new _ ((valV_neg (fun e => kBC e.symm)).trans valV_nil)
    have a3 : putK ([(.inr ("cells" : Str), .ref c), (.inr ("begun" : Str), .int 0)] : List (Key × V)) (.inr ("left" : Str)) (.int 0) = penK c 0 0 := putK_new _ ((valV_neg (fun e => kLC e.symm)).trans ((valV_neg (fun e => kLB e.symm)).trans valV_nil))
    have e3 : mergeK [] (penK c 0 0) = penK c 0 0 := by
      show putK (putK (putK ([] : List (Key × V)) (.inr ("cells" : Str)) (.ref c)) (.inr ("begun" : Str)) (.int 0)) (.inr ("left" : Str)) (.int 0) = penK c 0 0
      rw [a1, a2, a3]
    refine ⟨by rw [upd_ne npc, upd_ne npx, upd_same], penK c 0 0, rfl, by show 3 ≤ 15; decide, ?_⟩
    rw [e3]
    refine q p _ hp ⟨c, ns.take 63, 0, 0, upd_same, ?_, by rw [List.length_take]; omega, by omega, by omega, by omega⟩ fun b o e => ?_
    · rw [upd_ne npc.symm, upd_same, cut63]
    · have h1 := s1 b o e
      have nbx : b ≠ x := ne_of_none h1 hx
      have h2 : (upd (upd H p (.dK [])) x (.lst (cutV (ns.map V.int) none (some 63)))) b = some o := by rw [upd_ne nbx]; exact h1
      rw [upd_ne (ne_of_none e hp), upd_ne (ne_of_none h2 hc)]
      exact h2
end
end OR

namespace OR
open PySem PySem.Spec PyProof.Rows L2
/-! ### own classes: double-underscore methods behind the signs -/
/-- a method of the class at C, called with its object and arguments by position -/
structure Md (P : Program) (w : World) (K : PySem.W.Frag) (mg : Str → Option Value) (base : Heap) (k : Nat) (C : Addr) (m : Str) (sp : Sp) : Prop where
  ex : ∃ f, FnR P w K mg base CX0 k f sp ∧ PySem.W.findIn K (.ref C) m = some (some (.ref f)) ∧ PySem.W.isFn K (.ref f) = true ∧ PySem.W.fnIn K f = true
theorem fnR_of {P : Program} {w : World} {K : PySem.W.Frag} {mg : Str → Option Value} {base : Heap} {k : Nat} {f : Addr} {fd : FuncData} {ps : List Str} {sp : Sp} (F : FnOk P w K mg base CX0 k f fd ps sp) (hb : Binds K fd ps []) : FnR P w K mg base CX0 k f sp :=
  (F.raw hb .nil).imp fun vs H Q E h => by rw [List.append_nil]; exact h
section
variable {X : Cx} {n : Nat} {C : Addr} {sp : Sp}
def rBinS (C : Addr) (sp : Sp) : R2 := fun x y H Q => ∃ a b dx dy fs gs, x = .ref a ∧ y = .ref b ∧ H a = some (.ins C dx fs) ∧ H b = some (.ins C dy gs) ∧ sp [x, y] H Q E0
theorem op_binS {op : Operator} (m : Md X.prog X.w X.K X.mg X.base n C (PySem.dunder op.info.2) sp) (sf : PySem.W.selfFirst X.K C = true) (hr : Room n X.A) : OpR X (binaryOp op) (rBinS C sp) := by
  intro pins s σ H x y v u Q I rx ry h
  obtain ⟨f, F, hs, hf, _⟩ := m.ex
  obtain ⟨a, b, dx, dy, fs, gs, rfl, rfl, ha, hb, q⟩ := h
  cases (show v = Value.ref a from rx)
  cases (show u = Value.ref b from ry)
  obtain ⟨mA, J, _⟩ := ins_get I.hok ha
  obtain ⟨mB, J', _⟩ := ins_get I.hok hb
  obtain ⟨od, J, _⟩ := J.look
  obtain ⟨od', J', _⟩ := J'.look
  obtain ⟨m, hF⟩ := I.fr
  refine PySem.W.binop_K hF I.ok.mod.kin J J'.type sf hs hf ?_
  refine wpAny_mono (wpAny_call (run_fnR (us := [.ref a, .ref b]) (vs := [.ref a, .ref b]) F hr pass0 I (.cons rfl (.cons rfl .nil)) q)) (fun w s' z => ?_) fun _ _ x => x
  obtain ⟨z', H', I', rz, qz⟩ := z
  exact SlX.cmpback rz ⟨z', H', I', rz, qz⟩
/-- what + and the like ask of the class for an int on the right -/
structure BinI (K : PySem.W.Frag) (C : Addr) (op : Operator) : Prop where
  rc : ∃ rc, PySem.W.findIn K (.ref C) (PySem.dunderR op.info.2) = some rc ∧ (rc = none ∨ ∃ g : Addr, rc = some (.ref g))
  fo : ∃ fo, PySem.W.findIn K (.type "int") (PySem.dunder op.info.2) = some fo
  ro : ∃ ro, PySem.W.findIn K (.type "int") (PySem.dunderR op.info.2) = some ro
  sub : PySem.W.subIn K (.type "int") (.ref C) = some false
def rBinI (C : Addr) (sp : Sp) : R2 := fun x y H Q => ∃ a dx fs i, x = .ref a ∧ y = .int i ∧ H a = some (.ins C dx fs) ∧ sp [x, y] H Q E0
theorem op_binI {op : Operator} (m : Md X.prog X.w X.K X.mg X.base n C (PySem.dunder op.info.2) sp) (b : BinI X.K C op) (sf : PySem.W.selfFirst X.K C = true) (hr : Room n X.A) : OpR X (binaryOp op) (rBinI C sp) := by
  intro pins s σ H x y v u Q I rx ry h
  obtain ⟨f, F, hs, hf, _⟩ := m.ex
  obtain ⟨a, dx, fs, i, rfl, rfl, ha, q⟩ := h
  cases (show v = Value.ref a from rx)
  obtain ⟨t, rfl⟩ := (show ∃ t, u = Value.int i t from ry)
  obtain ⟨mA, J, _⟩ := ins_get I.hok ha
  obtain ⟨od, J, _⟩ := J.look
  obtain ⟨m, hF⟩ := I.fr
  obtain ⟨rc, hrc, hp⟩ := b.rc
  obtain ⟨fo, h1⟩ := b.fo
  obtain ⟨ro, h2⟩ := b.ro
  refine PySem.W.ksp_binT (T := "int") hF I.ok.mod.kin J rfl sf hs hf hrc hp h1 h2 b.sub ?_
  refine wpAny_mono (wpAny_call (run_fnR (us := [.ref a, .int i t]) (vs := [.ref a, .int i]) F hr pass0 I (.cons rfl (.cons ⟨t, rfl⟩ .nil)) q)) (fun w s' z => ?_) fun _ _ x => x
  obtain ⟨z', H', I', rz, qz⟩ := z
  exact SlX.cmpback rz ⟨z', H', I', rz, qz⟩
def rNegO (C : Addr) (sp : Sp) : V → Hp → VK → Prop := fun x H Q => ∃ a dx fs, x = .ref a ∧ H a = some (.ins C dx fs) ∧ sp [x] H Q E0
theorem un_negO (m : Md X.prog X.w X.K X.mg X.base n C "__neg__" sp) (hr : Room n X.A) : UnR X (unaryOp .USub) (rNegO C sp) := by
  intro pins s σ H x v Q I rx h
  obtain ⟨f, F, hs, hf, _⟩ := m.ex
  obtain ⟨a, dx, fs, rfl, ha, q⟩ := h
  cases (show v = Value.ref a from rx)
  obtain ⟨mA, J, _⟩ := ins_get I.hok ha
  obtain ⟨od, J, _⟩ := J.look
  obtain ⟨m, hF⟩ := I.fr
  refine PySem.W.ksp_neg hF I.ok.mod.kin J hs hf ?_
  refine wpAny_mono (wpAny_call (run_fnR (us := [.ref a]) (vs := [.ref a]) F hr pass0 I (.cons rfl .nil) q)) (fun w s' z => ?_) fun _ _ x => x
  exact z
end
/-- a reading may ask for more -/
theorem pe_imp {X : Cx} {e : Expr} {t t' : TE} (h : PE X e t) (i : ∀ σ H Q, t' σ H Q → t σ H Q) : PE X e t' := ⟨fun pins s σ H Q I q => h.run pins s σ H Q I (i σ H Q q)⟩
structure FnAt (K : PySem.W.Frag) (x : Str) (st : Stmt) : Prop where
  ex : ∃ f fd, Fun K x x st f fd ∧ PySem.W.nsIn K mainGlobals x = some (some (.ref f))
theorem fnAt {K : PySem.W.Frag} {h : Heap} {x : Str} {st : Stmt} {f : Addr} {oc : Value} {od an : Option Addr} {osl : Array (Option Value)} {kV doc pm cdv ct : Value} (_X : K.In h)
    (a : PySem.W.nsIn K mainGlobals x = some (some (.ref f))) (l : K.lookup f = some ⟨oc, od, .func (PySem.W.fnOf x x (defArgs st) (defBody st) (defScope st) .none kV doc pm an cdv ct), osl⟩)
    (c : PySem.W.codeIn K cdv x = true) (k : PySem.W.keepIn K (.ref f) = true) : FnAt K x st := ⟨f, _, fun_mk l c k, a⟩
structure MtAt (K : PySem.W.Frag) (C : Addr) (m m' qual : Str) (st : Stmt) : Prop where
  ex : ∃ f fd, Fun K m qual st f fd ∧ PySem.W.findIn K (.ref C) m' = some (some (.ref f)) ∧ PySem.W.isFn K (.ref f) = true ∧ PySem.W.fnIn K f = true
theorem mtAt {K : PySem.W.Frag} {h : Heap} {C : Addr} {m m' qual : Str} {st : Stmt} {f : Addr} {oc : Value} {od an : Option Addr} {osl : Array (Option Value)} {kV doc pm cdv ct : Value} (_X : K.In h)
    (a : PySem.W.findIn K (.ref C) m' = some (some (.ref f))) (l : K.lookup f = some ⟨oc, od, .func (PySem.W.fnOf m qual (defArgs st) (defBody st) (defScope st) .none kV doc pm an cdv ct), osl⟩)
    (c : PySem.W.codeIn K cdv qual = true) (k : PySem.W.keepIn K (.ref f) = true) (i : PySem.W.isFn K (.ref f) = true) (n : PySem.W.fnIn K f = true) : MtAt K C m m' qual st := ⟨f, _, fun_mk l c k, a, i, n⟩
section
variable {P : Program} {w : World} {K : PySem.W.Frag} {mg : Str → Option Value} {base h : Heap}
theorem cl_of {x : Str} {st : Stmt} {k : Nat} {ps : List Str} {sp : Sp} (a : FnAt K x st) (X : K.In h) (G : h.Ns mainGlobals mg)
    (hb : ∀ (kV doc pm : Value) (an : Option Addr) (cdv ct : Value) (us : List Value), us.length = ps.length → bindArgs (PySem.W.fnOf x x (defArgs st) (defBody st) (defScope st) .none kV doc pm an cdv ct) ⟨us, []⟩ = pure (ps.zip us))
    (ok : ∀ f fd, Fun K x x st f fd → FnOk P w K mg base CX0 k f fd ps sp) : Cl P w K mg base k x ps sp := by
  obtain ⟨f, fd, F, e⟩ := a.ex
  exact ⟨f, fd, ok f fd F, PySem.W.mg_of X G e, F.kp, F.binds hb⟩
theorem md_of {C : Addr} {m m' qual : Str} {st : Stmt} {k : Nat} {ps : List Str} {sp : Sp} (a : MtAt K C m m' qual st)
    (hb : ∀ (kV doc pm : Value) (an : Option Addr) (cdv ct : Value) (us : List Value), us.length = ps.length → bindArgs (PySem.W.fnOf m qual (defArgs st) (defBody st) (defScope st) .none kV doc pm an cdv ct) ⟨us, []⟩ = pure (ps.zip us))
    (ok : ∀ f fd, Fun K m qual st f fd → FnOk P w K mg base CX0 k f fd ps sp) : Md P w K mg base k C m' sp := by
  obtain ⟨f, fd, F, e, i, n⟩ := a.ex
  exact ⟨f, fnR_of (ok f fd F) (F.binds hb), e, i, n⟩
end
end OR

namespace OR
open PySem PySem.Spec PyProof.Rows L2
open AutoSeq1 (wpAny_loadPart')
/-! ### enumerate of a tuple -/
section
variable {prog : Program} {w : World} {A : Around} {E : Value → Shared → Prop} {s : Shared}
theorem nextOf_tup_item {it t : Addr} {i : Nat} {items : Array Value} {x : Value} {Q : Value → Shared → Prop} (hit : s.heap.IsTupleIter it t i) (ht : s.heap.IsTuple t items) (hx : items[i]? = some x)
    (hQ : ∀ h', h'.IsTupleIter it t (i + 1) → Heap.SameBut it s.heap h' → Q x { s with heap := h' }) : wpAny (model prog w) A (Builtin.SmallTypes.nextOf (.ref it)) Q E s := by
  obtain ⟨o, ho, hc, hd⟩ := id hit
  obtain ⟨ol, hol, _, nl, hdl⟩ := ht
  unfold Builtin.SmallTypes.nextOf
  refine wpAny_bind (wpAny_callSpecial?_slot (name := Str.ofString "__next__") hit.typeIs F.slot_tuple_iterator_next (wpAny_call_entry F.slot_tuple_iterator_next hit.typeIs F.entry_tuple_iterator_next ?_ (F.args_tuple_iterator_next_1 _)))
  show wpAny _ _ (field (.ref it) 0 >>= _) _ _ s
  refine wpAny_bind (wpAny_field ho hd (x := .ref t) rfl ?_)
  show wpAny _ _ (if (Value.ref t == Value.none) = true then _ else _) _ _ s
  rw [if_neg (show ¬ ((Value.ref t == Value.none) = true) by exact Bool.false_ne_true)]
  show wpAny _ _ (field (.ref it) 1 >>= _) _ _ s
  refine wpAny_bind (wpAny_field ho hd (x := .int i 0) rfl ?_)
  show wpAny _ _ (seqItems? (.ref t) >>= _) _ _ s
  refine wpAny_bind (wpAny_seqItems hol hdl ?_)
  simp only [Int.toNat_natCast, hx]
  refine wpAny_bind (wpAny_setField ho hd (by simp) (wpAny_pure ⟨x, rfl, wpAny_pure (hQ _ ⟨_, Heap.get?_update_self _ ho (Obj.isFreed_of_fields (Obj.data_mapFields hd _)), (Obj.cls_mapFields ..).trans hc, by
    rw [Obj.data_mapFields hd]; simp [rawInt]⟩ (Heap.SameBut.update ..))⟩))
theorem nextOf_tup_end {it t : Addr} {i : Nat} {items : Array Value} {Q : Value → Shared → Prop} (hh : A.handled = none) (hit : s.heap.IsTupleIter it t i) (ht : s.heap.IsTuple t items) (hx : items[i]? = none)
    (hE : ∀ h' e, Heap.ExtBut it s.heap h' → (∃ o, h'.get? e = some o ∧ o.cls = .type "StopIteration") → E (.ref e) { s with heap := h' }) : wpAny (model prog w) A (Builtin.SmallTypes.nextOf (.ref it)) Q E s := by
  obtain ⟨o, ho, hc, hd⟩ := id hit
  obtain ⟨ol, hol, _, nl, hdl⟩ := ht
  unfold Builtin.SmallTypes.nextOf
  refine wpAny_bind (wpAny_callSpecial?_slot (name := Str.ofString "__next__") hit.typeIs F.slot_tuple_iterator_next (wpAny_call_entry F.slot_tuple_iterator_next hit.typeIs F.entry_tuple_iterator_next ?_ (F.args_tuple_iterator_next_1 _)))
  show wpAny _ _ (field (.ref it) 0 >>= _) _ _ s
  refine wpAny_bind (wpAny_field ho hd (x := .ref t) rfl ?_)
  show wpAny _ _ (if (Value.ref t == Value.none) = true then _ else _) _ _ s
  rw [if_neg (show ¬ ((Value.ref t == Value.none) = true) by exact Bool.false_ne_true)]
  show wpAny _ _ (field (.ref it) 1 >>= _) _ _ s
  refine wpAny_bind (wpAny_field ho hd (x := .int i 0) rfl ?_)
  show wpAny _ _ (seqItems? (.ref t) >>= _) _ _ s
  refine wpAny_bind (wpAny_seqItems hol hdl ?_)
  simp only [Int.toNat_natCast, hx]
  refine wpAny_bind (wpAny_rule (wpAny_bind (wpAny_setField ho hd (by simp) ?_)))
  show wpAny _ _ (newExc (.type "StopIteration") [] >>= _) _ _ _
  refine wpAny_bind ?_
  simp only [newExc, newTuple]
  refine wpAny_bind (wpAny_newObj_type ?_ (by size_fits))
  refine wpAny_bind (m := firstArgMember _ _) (wpAny_of_eq (a := Value.none) (by first | rfl | (simp only [firstArgMember]; rfl)) ?_)
  refine wpAny_newObj_type ?_ (by size_fits)
  simp only [raiseNew]
  refine wpAny_bind (wpAny_handled ?_)
  first | rw [show A.in1.handled = none from hh] | rw [hh]
  refine wpAny_bind (wpAny_pure (wpAny_throw ?_))
  exact hE _ _ (((Heap.SameBut.update ..).extBut.push _).push _) ⟨_, Heap.get?_push_size _ rfl, rfl⟩
theorem draws_tup (hh : A.handled = none) (it t : Addr) (hne : t ≠ it) (items : Array Value) :
    Draws prog w A it [it, t] items.size (fun i v => items[i]? = some v) (fun i h => h.IsTupleIter it t i ∧ h.IsTuple t items) where
  live := fun _ _ st => let ⟨o, ho, _⟩ := st.1; ⟨o, ho⟩
  frame := fun _ _ _ st hk => ⟨let ⟨o, ho, r⟩ := st.1; ⟨o, hk it (by simp) o ho, r⟩, let ⟨o, ho, r⟩ := st.2; ⟨o, hk t (by simp) o ho, r⟩⟩
  item := fun i s Q E hi st hQ => by
    refine nextOf_tup_item st.1 st.2 (x := items[i]) (by simp [hi]) fun h' hit' hs' => ?_
    exact hQ _ h' s.toks (by simp [hi]) ⟨hit', st.2.extBut hs'.extBut hne⟩ hs'
  done := fun s Q E st hE => nextOf_tup_end hh st.1 st.2 (by simp) hE
theorem meets_enum_tup (l : Addr) (items : Array Value) (n : Nat) (dct : Option Addr) (sl : Array (Option Value)) :
    Meets (Builtin.«enumerate.__new__» ⟨[.type "enumerate", .ref l], []⟩) (fun _ R s => s.heap.get? l = some { cls := .type "tuple", dict := dct, data := .seq items n, slots := sl } ∧
      R (.ok (.ret (.ref (s.heap.push { cls := .type "tuple_iterator", data := .fields #[.ref l, .int 0 0] }).objs.size)))
        { s with heap := (s.heap.push { cls := .type "tuple_iterator", data := .fields #[.ref l, .int 0 0] }).push { cls := .type "enumerate", data := .fields #[.none, .bool false, .ref s.heap.objs.size, rawInt 0, .none, .none] } }) :=
  .of_wp fun prog w A R s h => by
    obtain ⟨hp, g, d, tk, os⟩ := s
    obtain ⟨hl, h⟩ := h
    have hsub := sub_enumerate
    have hL : Heap.IsTuple (Shared.heap ⟨hp, g, d, tk, os⟩) l items := ⟨_, hl, rfl, n, rfl⟩
    wp_walk using wpAny_loadPart' hl
    refine wpAny_stack_any fun st => wpAny_pure ?_
    split
    · rename_i c _ _ _ _ _
      cases (c == Value.type "enumerate")
      · wp_walk using wpAny_loadPart' hl, wpAny_pyIter_tuple hL
        exact ⟨_, rfl, h⟩
      · wp_walk using wpAny_loadPart' hl, wpAny_pyIter_tuple hL
        exact ⟨_, rfl, h⟩
    · wp_walk using wpAny_loadPart' hl, wpAny_pyIter_tuple hL
      exact ⟨_, rfl, h⟩
theorem call_enum_tup {l : Addr} {items : Array Value} {Q : Value → Shared → Prop} (hL : s.heap.IsTuple l items)
    (h : ∀ h', IsEnum h' (s.heap.objs.size + 1) s.heap.objs.size 0 .none → h'.IsTupleIter s.heap.objs.size l 0 → h'.objs.size = s.heap.objs.size + 2 →
      (∀ b o, s.heap.get? b = some o → h'.get? b = some o) → Q (.ref (s.heap.objs.size + 1)) { s with heap := h' }) :
    wpAny (model prog w) A (call (.type "enumerate") [.ref l]) Q E s := by
  obtain ⟨⟨c, dct, dt, sl⟩, hl, hc, n, hd⟩ := hL
  replace hc : c = .type "tuple" := hc
  replace hd : dt = .seq items n := hd
  subst hc hd
  refine callType_new F.called_enumerate (by decide) (F.typeCall_enumerate_1 _) (F.newCall_enumerate_1 _) (fun obj => F.args_object_init_2 obj _) F.entry_enumerate_new (meets_enum_tup l items n dct sl) ⟨hl, ?_⟩
  have hz : (s.heap.push { cls := .type "tuple_iterator", data := .fields #[.ref l, .int 0 0] }).objs.size = s.heap.objs.size + 1 := Heap.size_push ..
  show _ ∧ _
  rw [hz]
  have he : IsEnum ((s.heap.push { cls := .type "tuple_iterator", data := .fields #[.ref l, .int 0 0] }).push
      { cls := .type "enumerate", data := .fields #[.none, .bool false, .ref s.heap.objs.size, rawInt 0, .none, .none] }) (s.heap.objs.size + 1) s.heap.objs.size 0 .none := by
    have := Heap.get?_push_size (s.heap.push { cls := .type "tuple_iterator", data := .fields #[.ref l, .int 0 0] })
      (o := { cls := .type "enumerate", data := .fields #[.none, .bool false, .ref s.heap.objs.size, rawInt 0, .none, .none] }) rfl
    rw [hz] at this; exact this
  refine ⟨⟨_, he, rfl⟩, h _ he ⟨_, Heap.get?_push_of_some _ (Heap.get?_push_size _ rfl), rfl, rfl⟩ (by rw [Heap.size_push, hz]) fun b o x => Heap.get?_push_of_some _ (Heap.get?_push_of_some _ x)⟩
end
/-- the tuple at a as it stands at each turn, each item in a new pair -/
def IteT (K : PySem.W.Frag) (a : Addr) : It :=
  ⟨fun i H => ∃ (xs : List V) (x : V), SqT K H a xs ∧ xs[i]? = some x, fun i H v H' => ∃ T x, v = .ref T ∧ H T = none ∧ H' = upd H T (.tup [.int (i : Nat), x]) ∧ ∀ xs, SqT K H a xs → xs[i]? = some x, fun i H => ∃ xs : List V, SqT K H a xs ∧ xs.length ≤ i⟩
theorem turn_enumT {P : Program} {w : World} {K : PySem.W.Frag} {elts : List Expr} {kk : Nat} {tpos : Pos} (a e it : Addr) (hai : a ≠ it) (hea : e ≠ a) :
    Turn P w K (.Tuple elts kk tpos) (IteT K a) [e, it] e (fun i h => (∃ old, IsEnum h e it ((i : Nat) : Int) old) ∧ h.IsTupleIter it a i ∧ e ≠ it) where
  mem := by simp
  obj := fun i h st b hb => by
    obtain ⟨⟨old, he⟩, ⟨o, ho, hc, hd⟩, _⟩ := st
    have e' : b = e ∨ b = it := by simpa using hb
    rcases e' with z | z
    · rw [z]; exact ⟨_, he, fun v q => nomatch q⟩
    · rw [z]; exact ⟨o, ho, fun v q => by rw [hd] at q; cases q⟩
  keep := fun i h h' st k => by
    obtain ⟨⟨old, he⟩, ⟨o, ho, r⟩, hne⟩ := st
    exact ⟨⟨old, k e (by simp) _ he⟩, ⟨o, k it (by simp) o ho, r⟩, hne⟩
  item := by
    intro X hP hw hK hc i pins s σ H E I hf st hg
    subst hP hw hK
    obtain ⟨⟨old, he⟩, hit, hne⟩ := st
    obtain ⟨xs, x, hq, hx⟩ := hg
    obtain ⟨its, rv, p, hz⟩ := I.tuple hq
    obtain ⟨u, hu, ru⟩ := rv.get hx
    have hel : e < s.heap.objs.size := Heap.lt_size he
    have hil : it < s.heap.objs.size := by obtain ⟨_, q, _⟩ := hit; exact Heap.lt_size q
    have hD := draws_tup (prog := X.prog) (w := X.w) (A := X.A.in1) (I.ok.hd hc) it a hai its.toArray
    have hlt : i < its.toArray.size := by
      have := (List.getElem?_eq_some_iff.mp hu).1
      simpa using this
    refine wpAny_pyNext_enum_itemD hD he ⟨hit, show s.heap.IsTuple a its.toArray from p⟩ hlt hne (by simp [hne, hea]) fun y h' tk hy ho hst' hT hsz hk => ?_
    obtain rfl : y = u := by
      have h1 : its[i]? = some y := by simpa using hy
      rw [hu] at h1
      exact (Option.some.inj h1).symm
    refine ⟨_, rfl, wpAny_letOwnedTupleGo_enum (s := { s with heap := h', toks := tk + 1 }) ho fun h'' he' sb => ?_⟩
    have hT2 : h''.get? s.heap.objs.size = some { cls := .type "tuple", data := .seq #[.int i tk, y] } := (sb.2 _ (Nat.ne_of_gt hel)).trans hT
    have new : ObjOk X.prog X.w (upd H s.heap.objs.size (.tup [.int (i : Nat), x])) h'' s.heap.objs.size (.tup [.int (i : Nat), x]) :=
      ⟨by show 2 ≤ sizeLine; decide, [.int i tk, y], .cons ⟨_, rfl⟩ (.cons ru .nil), ⟨_, hT2, rfl, _, rfl⟩⟩
    have I1 : Inv X pins σ (upd H s.heap.objs.size (.tup [.int (i : Nat), x])) { s with heap := h'', toks := tk + 1 } :=
      I.turnedNew (ch := [e, it]) (fun b ob hb q => (sb.2 b (fun z => hb (by simp [z]))).trans (hk b ob (fun z => hb (by simp [z])) (fun z => hb (by simp [z])) q)) hf (Nat.le_refl _) new
    refine ⟨.ref s.heap.objs.size, _, I1, rfl, ⟨_, x, rfl, I.hok.fresh (Nat.le_refl _), rfl, fun ys hy => by rw [I.tuple_inj hy hq]; exact hx⟩, ⟨⟨y, ?_⟩, ?_, hne⟩, fun b hb => ?_⟩
    · have e1 : ((i + 1 : Nat) : Int) = (i : Int) + 1 := by omega
      rw [e1]; exact he'
    · obtain ⟨o, ho', r⟩ := hst'.1
      exact ⟨o, (sb.2 it (Ne.symm hne)).trans ho', r⟩
    · have hb' : b < s.heap.objs.size := by
        have e' : b = e ∨ b = it := by simpa using hb
        rcases e' with z | z
        · rw [z]; exact hel
        · rw [z]; exact hil
      rw [upd_ne (Nat.ne_of_lt hb')]
      exact (hf b hb).1
  done := by
    intro X hP hw hK hc i pins s σ H E I hf st hg
    subst hP hw hK
    obtain ⟨⟨old, he⟩, hit, hne⟩ := st
    obtain ⟨xs, hq, hx⟩ := hg
    obtain ⟨its, rv, p, hz⟩ := I.tuple hq
    obtain ⟨f0, f1, f2, f3, f4, f5⟩ := hf it (by simp)
    have hl := rv.length
    have hT : s.TypeIs (.ref e) "enumerate" := ⟨_, he, rfl⟩
    unfold pyNext
    refine wpAny_bind (wpAny_attempt (wpAny_callSpecial?_slot (name := Str.ofString "__next__") hT F.slot_enumerate_next (wpAny_call_entry F.slot_enumerate_next hT F.entry_enumerate_next ?_ (F.args_enumerate_next_1 _))))
    show wpAny _ _ (field (.ref e) 2 >>= _) _ _ _
    refine wpAny_bind (wpAny_field he rfl (x := .ref it) rfl ?_)
    refine wpAny_bind (nextOf_tup_end (I.ok.hd hc) hit (show s.heap.IsTuple a its.toArray from p) (by simp; omega) fun h' x he' hx' => ?_)
    obtain ⟨o, ho, hc'⟩ := hx'
    refine wpAny_bind (wpAny_isInstance (T := "StopIteration") (b := true) ⟨o, ho, hc'⟩ isSubtype_stop ?_)
    exact wpAny_pure ⟨rfl, I.turned (t' := s.toks) (fun b o hb q => he' b o hb q) f0 f1 f3 f4 f5⟩
  self := fun A i s Q E st h => let ⟨⟨_, he⟩, _⟩ := st; wpAny_pyIter_enum he h
def iEnumT (K : PySem.W.Frag) (ta : TA) : TI := fun σ H R => ta σ H fun vs H1 => ∃ a xs, vs = [.ref a] ∧ SqT K H1 a xs ∧ R (IteT K a) H1
theorem pi_enumT {X : Cx} {e : Expr} {ta : TA} {p pos tpos : Pos} {elts : List Expr} {kk : Nat} (hg : Gl X "enumerate") (hm : X.mg "enumerate" = none) (ha : PA X [e] ta) (hs : starEach [e] X.env = [(false, eval e X.env)] := by rfl) :
    PI X (.Tuple elts kk tpos) (.Call (.Name "enumerate" p) [e] [] pos) (iEnumT X.K ta) := by
  refine ⟨fun pins s σ H R I h => ?_⟩
  refine Call_ (ld_blt I hg hm boot_enumerate (PyProof.Rows.callWith_type1 (thn (ha.run pos pins s σ H _ I h) fun us s1 ⟨vs, H1, I1, r1, q1⟩ => ?_) hs rfl))
  obtain ⟨a, xs, ex, hq, q⟩ := q1
  subst ex
  cases r1 with
  | cons r rr =>
    cases rr
    cases r
    obtain ⟨its, rv, p', hz⟩ := I1.tuple hq
    have pt : s1.heap.IsTuple a its.toArray := p'
    have hal : a < s1.heap.objs.size := by obtain ⟨o, ho, _⟩ := pt; exact Heap.lt_size ho
    refine call_enum_tup pt fun h' he hit hsz hk => wpAny_pyIter_enum he ?_
    have I2 : Inv X pins σ H1 { s1 with heap := h' } := I1.kept (t' := s1.toks) hk
    refine ⟨s1.heap.objs.size + 1, [s1.heap.objs.size + 1, s1.heap.objs.size], _, _, H1, rfl, I2, turn_enumT a (s1.heap.objs.size + 1) s1.heap.objs.size (Nat.ne_of_lt hal) (Nat.ne_of_gt (Nat.lt_succ_of_lt hal)), ⟨⟨.none, he⟩, hit, Nat.succ_ne_self _⟩, fun b hb => ?_, q⟩
    have e' : b = s1.heap.objs.size + 1 ∨ b = s1.heap.objs.size := by simpa using hb
    have hle : s1.heap.objs.size ≤ b := by
      rcases e' with z | z
      · rw [z]; exact Nat.le_add_right _ _
      · rw [z]; exact Nat.le_refl _
    exact I1.fpOk hle (I1.hok.fresh hle)
/-- either reading of what is walked -/
theorem pi_or {X : Cx} {tg iter : Expr} {w1 w2 : TI} (h1 : PI X tg iter w1) (h2 : PI X tg iter w2) : PI X tg iter (fun σ H R => w1 σ H R ∨ w2 σ H R) :=
  ⟨fun pins s σ H R I q => q.elim (h1.run pins s σ H R I) (h2.run pins s σ H R I)⟩
theorem pg_or {X : Cx} {tg : Expr} {g1 g2 : TG} (h1 : PG X tg g1) (h2 : PG X tg g2) : PG X tg (fun v σ H Q => g1 v σ H Q ∨ g2 v σ H Q) :=
  ⟨fun pins s σ H x v Q I r q => q.elim (h1.run pins s σ H x v Q I r) (h2.run pins s σ H x v Q I r)⟩
end OR

namespace OR
abbrev Row := Int × Int
def mem (l : List Row) (x : Int) : Prop := ∃ r ∈ l, r.1 ≤ x ∧ x ≤ r.2
theorem mem_nil (x : Int) : ¬ mem [] x := fun ⟨_, h, _⟩ => nomatch h
theorem mem_cons {r : Row} {l : List Row} {x : Int} : mem (r :: l) x ↔ (r.1 ≤ x ∧ x ≤ r.2) ∨ mem l x := by
  constructor
  · rintro ⟨q, hq, h⟩
    rcases List.mem_cons.mp hq with e | e
    · subst e
      exact .inl h
    · exact .inr ⟨q, e, h⟩
  · rintro (h | ⟨q, hq, h⟩)
    · exact ⟨r, List.mem_cons_self, h⟩
    · exact ⟨q, List.mem_cons_of_mem _ hq, h⟩
theorem mem_append {l m : List Row} {x : Int} : mem (l ++ m) x ↔ mem l x ∨ mem m x := by
  constructor
  · rintro ⟨q, hq, h⟩
    rcases List.mem_append.mp hq with e | e
    · exact .inl ⟨q, e, h⟩
    · exact .inr ⟨q, e, h⟩
  · rintro (⟨q, hq, h⟩ | ⟨q, hq, h⟩)
    · exact ⟨q, List.mem_append_left _ hq, h⟩
    · exact ⟨q, List.mem_append_right _ hq, h⟩
theorem mem_same {l m : List Row} (h : ∀ r, r ∈ l ↔ r ∈ m) (x : Int) : mem l x ↔ mem m x :=
  ⟨fun ⟨q, hq, k⟩ => ⟨q, (h q).mp hq, k⟩, fun ⟨q, hq, k⟩ => ⟨q, (h q).mpr hq, k⟩⟩
theorem mem_reverse {l : List Row} {x : Int} : mem l.reverse x ↔ mem l x := mem_same (fun _ => List.mem_reverse) x
/-- the one form: in order, with a gap between any two -/
structure Nf (l : List Row) : Prop where
  ok : ∀ r ∈ l, r.1 ≤ r.2
  gap : l.Pairwise fun r s => r.2 + 1 < s.1
theorem Nf.nil : Nf [] := ⟨fun _ h => (nomatch h), .nil⟩
theorem Nf.tail {r : Row} {l : List Row} (h : Nf (r :: l)) : Nf l := ⟨fun q hq => h.ok q (List.mem_cons_of_mem _ hq), (List.pairwise_cons.mp h.gap).2⟩
theorem Nf.head {r : Row} {l : List Row} (h : Nf (r :: l)) : r.1 ≤ r.2 := h.ok r List.mem_cons_self
theorem Nf.behind {r : Row} {l : List Row} (h : Nf (r :: l)) {x : Int} (m : mem l x) : r.2 + 1 < x := by
  obtain ⟨q, hq, h1, _⟩ := m
  have := (List.pairwise_cons.mp h.gap).1 q hq
  omega
/-- the one form is told by its places -/
theorem Nf.unique : ∀ {l m : List Row}, Nf l → Nf m → (∀ x, mem l x ↔ mem m x) → l = m
  | [], [], _, _, _ => rfl
  | [], s :: m, _, hm, h => absurd ((h s.1).mpr (mem_cons.mpr (.inl ⟨Int.le_refl _, hm.head⟩))) (mem_nil _)
  | r :: l, [], hl, _, h => absurd ((h r.1).mp (mem_cons.mpr (.inl ⟨Int.le_refl _, hl.head⟩))) (mem_nil _)
  | r :: l, s :: m, hl, hm, h => by
    have lr := hl.head
    have ls := hm.head
    have least : ∀ {x}, mem (r :: l) x → r.1 ≤ x := fun {x} hx => by
      rcases mem_cons.mp hx with k | k
      · exact k.1
      · have := hl.behind k; omega
    have least' : ∀ {x}, mem (s :: m) x → s.1 ≤ x := fun {x} hx => by
      rcases mem_cons.mp hx with k | k
      · exact k.1
      · have := hm.behind k; omega
    have e1 : r.1 = s.1 := by
      have a := least ((h s.1).mpr (mem_cons.mpr (.inl ⟨Int.le_refl _, ls⟩)))
      have b := least' ((h r.1).mp (mem_cons.mpr (.inl ⟨Int.le_refl _, lr⟩)))
      omega
    have nr : ¬ mem (r :: l) (r.2 + 1) := fun k => by
      rcases mem_cons.mp k with k | k
      · omega
      · have := hl.behind k; omega
    have ns : ¬ mem (s :: m) (s.2 + 1) := fun k => by
      rcases mem_cons.mp k with k | k
      · omega
      · have := hm.behind k; omega
    have e2 : r.2 = s.2 := by
      rcases Int.lt_trichotomy r.2 s.2 with k | k | k
      · exact absurd ((h _).mpr (mem_cons.mpr (.inl ⟨by omega, by omega⟩))) nr
      · exact k
      · exact absurd ((h _).mp (mem_cons.mpr (.inl ⟨by omega, by omega⟩))) ns
    have e : r = s := Prod.ext e1 e2
    subst e
    congr 1
    refine Nf.unique hl.tail hm.tail fun x => ⟨fun k => ?_, fun k => ?_⟩
    · have b := hl.behind k
      rcases mem_cons.mp ((h x).mp (mem_cons.mpr (.inr k))) with z | z
      · omega
      · exact z
    · have b := hm.behind k
      rcases mem_cons.mp ((h x).mpr (mem_cons.mpr (.inr k))) with z | z
      · omega
      · exact z
/-- a row more behind rows in one form, which are written backwards -/
def jstep : List Row → Row → List Row
  | [], r => [r]
  | q :: t, r => if r.1 ≤ q.2 + 1 then (q.1, if r.2 > q.2 then r.2 else q.2) :: t else r :: q :: t
def jfold (l : List Row) : List Row := l.foldl jstep []
/-- what the fold keeps: acc stands backwards -/
structure Jn (acc : List Row) (done : List Row) (b : Int) : Prop where
  nf : Nf acc.reverse
  up : ∀ q ∈ acc, q.1 ≤ b
  me : ∀ x, mem acc x ↔ mem done x
theorem nf_snoc {l : List Row} {r : Row} (h : Nf l) (hr : r.1 ≤ r.2) (hg : ∀ q ∈ l, q.2 + 1 < r.1) : Nf (l ++ [r]) := by
  refine ⟨fun q hq => ?_, List.pairwise_append.mpr ⟨h.gap, List.pairwise_singleton _ _, fun a ha b hb => ?_⟩⟩
  · rcases List.mem_append.mp hq with k | k
    · exact h.ok q k
    · rw [List.mem_singleton.mp k]; exact hr
  · rw [List.mem_singleton.mp hb]; exact hg a ha
theorem nf_unsnoc {l : List Row} {r : Row} (h : Nf (l ++ [r])) : Nf l ∧ r.1 ≤ r.2 ∧ ∀ q ∈ l, q.2 + 1 < r.1 := by
  have g := List.pairwise_append.mp h.gap
  exact ⟨⟨fun q hq => h.ok q (List.mem_append_left _ hq), g.1⟩, h.ok r (List.mem_append_right _ (List.mem_singleton.mpr rfl)), fun q hq => g.2.2 q hq r (List.mem_singleton.mpr rfl)⟩
theorem Jn.step {acc done : List Row} {b : Int} {r : Row} (h : Jn acc done b) (hb : b ≤ r.1) (hr : r.1 ≤ r.2) : Jn (jstep acc r) (done ++ [r]) r.1 := by
  have tailm : ∀ x, mem [r] x ↔ (r.1 ≤ x ∧ x ≤ r.2) := fun x => by
    rw [mem_cons]
    exact ⟨fun k => k.elim id fun z => absurd z (mem_nil _), .inl⟩
  cases acc with
  | nil =>
    refine ⟨nf_snoc Nf.nil hr (fun _ z => nomatch z), fun q hq => ?_, fun x => ?_⟩
    · rw [List.mem_singleton.mp hq]; exact Int.le_refl _
    · rw [mem_append, ← h.me x]
      exact ⟨.inr, fun k => k.elim (fun z => absurd z (mem_nil _)) id⟩
  | cons q t =>
    have n := h.nf
    rw [List.reverse_cons] at n
    obtain ⟨nt, hq, gq⟩ := nf_unsnoc n
    have hqr : q.1 ≤ r.1 := Int.le_trans (h.up q List.mem_cons_self) hb
    show Jn (if r.1 ≤ q.2 + 1 then (q.1, if r.2 > q.2 then r.2 else q.2) :: t else r :: q :: t) (done ++ [r]) r.1
    by_cases c : r.1 ≤ q.2 + 1
    · rw [if_pos c]
      refine ⟨?_, fun z hz => ?_, fun x => ?_⟩
      · rw [List.reverse_cons]
        refine nf_snoc nt ?_ fun z hz => gq z hz
        show q.1 ≤ (if r.2 > q.2 then r.2 else q.2)
        split <;> omega
      · rcases List.mem_cons.mp hz with e | e
        · subst e; exact hqr
        · exact Int.le_trans (h.up z (List.mem_cons_of_mem _ e)) hb
      · rw [mem_append, ← h.me x, mem_cons, mem_cons, tailm]
        show ((q.1 ≤ x ∧ x ≤ (if r.2 > q.2 then r.2 else q.2)) ∨ mem t x) ↔ _
        constructor
        · rintro (⟨k1, k2⟩ | k)
          · by_cases hx : x ≤ q.2
            · exact .inl (.inl ⟨k1, hx⟩)
            · split at k2
              · exact .inr ⟨by omega, k2⟩
              · omega
          · exact .inl (.inr k)
        · rintro ((⟨k1, k2⟩ | k) | ⟨k1, k2⟩)
          · refine .inl ⟨k1, ?_⟩
            split <;> omega
          · exact .inr k
          · refine .inl ⟨by omega, ?_⟩
            split <;> omega
    · rw [if_neg c]
      refine ⟨?_, fun z hz => ?_, fun x => ?_⟩
      · rw [List.reverse_cons, List.reverse_cons]
        refine nf_snoc n hr fun z hz => ?_
        rcases List.mem_append.mp hz with k | k
        · have := gq z k; omega
        · rw [List.mem_singleton.mp k]; omega
      · rcases List.mem_cons.mp hz with e | e
        · subst e; exact Int.le_refl _
        · exact Int.le_trans (h.up z e) hb
      · rw [mem_append, ← h.me x, mem_cons, tailm]
        exact ⟨fun k => k.elim .inr .inl, fun k => k.elim .inr .inl⟩
theorem Jn.nil (b : Int) : Jn [] [] b := ⟨Nf.nil, fun _ h => (nomatch h), fun _ => Iff.rfl⟩
/-- the fold over rows that ascend -/
theorem jfold_go : ∀ (l acc done : List Row) (b : Int), Jn acc done b → (∀ r ∈ l, r.1 ≤ r.2) → (∀ r ∈ l, b ≤ r.1) → l.Pairwise (fun r s => r.1 ≤ s.1) → ∃ b', Jn (l.foldl jstep acc) (done ++ l) b'
  | [], acc, done, b, h, _, _, _ => ⟨b, by rw [List.append_nil]; exact h⟩
  | r :: l, acc, done, b, h, ho, hb, hs => by
    have p := List.pairwise_cons.mp hs
    obtain ⟨b', h'⟩ := jfold_go l (jstep acc r) (done ++ [r]) r.1 (h.step (hb r List.mem_cons_self) (ho r List.mem_cons_self)) (fun q hq => ho q (List.mem_cons_of_mem _ hq)) (fun q hq => p.1 q hq) p.2
    exact ⟨b', by rw [List.append_assoc] at h'; exact h'⟩
theorem jfold_ok {l : List Row} (ho : ∀ r ∈ l, r.1 ≤ r.2) (hs : l.Pairwise (fun r s => r.1 ≤ s.1)) : Nf (jfold l).reverse ∧ ∀ x, mem (jfold l).reverse x ↔ mem l x := by
  cases l with
  | nil => exact ⟨Nf.nil, fun _ => Iff.rfl⟩
  | cons r l =>
    have p := List.pairwise_cons.mp hs
    obtain ⟨b', h⟩ := jfold_go (r :: l) [] [] r.1 (Jn.nil _) ho (fun q hq => by
      rcases List.mem_cons.mp hq with e | e
      · subst e; exact Int.le_refl _
      · exact p.1 q e) hs
    exact ⟨h.nf, fun x => by rw [mem_reverse]; exact h.me x⟩
end OR

namespace OR
open PySem PySem.Spec PyProof.Rows L2
/-! ### the code of Places -/
def lastP : Int := 10 ^ 30
def placeB (n : Int) : Bool := decide (0 ≤ n) && decide (n ≤ lastP)
def okRow (r : Row) : Bool := placeB r.1 && (placeB r.2 && decide (r.1 ≤ r.2))
structure PTxt (K : PySem.W.Frag) (mg : Str → Option Value) (C : Addr) : Prop where
  cl : Cls K C
  nS : NoAttr K C "stretches"
  nF : NoAttr K C "_firsts"
  nB : NoAttr K C "_before"
  mgC : mg "Places" = some (.ref C)
  isi : SlX.SIsi K C
  kPP : PySem.W.kitOne K (.ref C) (.ref C) = some true
  zIsi : mg "isinstance" = none
  zInt : mg "int" = none
  zBool : mg "bool" = none
  zTup : mg "tuple" = none
  zList : mg "list" = none
  zLen : mg "len" = none
  zMax : mg "max" = none
  zSort : mg "sorted" = none
  zEnum : mg "enumerate" = none
  last : ∃ t, mg "LAST_PLACE" = some (.int lastP t)
theorem bt_isi : bootBuiltins ("isinstance" : Str) = some (.builtin "isinstance") := by decide +kernel
theorem bt_int : bootBuiltins ("int" : Str) = some (.type "int") := by decide +kernel
theorem bt_bool : bootBuiltins ("bool" : Str) = some (.type "bool") := by decide +kernel
theorem bt_tup : bootBuiltins ("tuple" : Str) = some (.type "tuple") := by decide +kernel
theorem bt_list : bootBuiltins ("list" : Str) = some (.type "list") := by decide +kernel
theorem bt_max : bootBuiltins ("max" : Str) = some (.builtin "max") := by decide +kernel
theorem bt_min : bootBuiltins ("min" : Str) = some (.builtin "min") := by decide +kernel
theorem bt_sorted : bootBuiltins ("sorted" : Str) = some (.builtin "sorted") := by decide +kernel
/-- any value whose type is known -/
def spIsIntG (K : PySem.W.Frag) : Sp := fun vs H Q _ => ∃ (x : V) (T : String) (b1 b2 : Bool), vs = [x] ∧ TyX K H x (.type T) ∧ kitB T "int" = some b1 ∧ kitB T "bool" = some b2 ∧ Q (.bl (b1 && !b2)) H
def spIsPlace (K : PySem.W.Frag) : Sp := fun vs H Q _ => ∃ x, vs = [x] ∧ ((∃ n, x = .int n ∧ Q (.bl (placeB n)) H) ∨ ∃ (T : String) (b1 b2 : Bool), TyX K H x (.type T) ∧ kitB T "int" = some b1 ∧ kitB T "bool" = some b2 ∧ (b1 && !b2) = false ∧ Q (.bl false) H)
/-- a pair of integers, a tuple or a list -/
def PairAt (H : Hp) (a : Addr) (r : Row) : Prop := H a = some (.tup [.int r.1, .int r.2]) ∨ H a = some (.lst [.int r.1, .int r.2])
def spIsStretchP : Sp := fun vs H Q _ => ∃ a r, vs = [.ref a] ∧ PairAt H a r ∧ ∀ H', Same H H' → Q (.bl (okRow r)) H'
section
variable {P : Program} {w : World} {K : PySem.W.Frag} {mg : Str → Option Value} {base : Heap}
theorem scIsI : FnScope ["value"] ["value"] (defScope sIsInt) := ⟨rfl, rfl, rfl, by decide +kernel, rfl, by decide +kernel, by decide +kernel⟩
theorem ok_isintG {f C : Addr} {fd : FuncData} (F : Fun K "is_integer" "is_integer" sIsInt f fd) (T : PTxt K mg C) : FnOk P w K mg base CX0 1 f fd ["value"] (spIsIntG K) := by
  refine F.ok scIsI (fun vs H Q E h => ?_) (fun cdv A outer s H vs Q E hr h => ?_)
  · obtain ⟨x, _, _, _, rfl, _⟩ := h
    rfl
  · obtain ⟨x, ty, b1, b2, rfl, hT, h1, h2, q⟩ := h
    refine ⟨_, pss_one (ps_ret (pe_and (pe_callB call_isi (by rfl) T.zIsi bt_isi (pa_cons (pv 0) (pa_cons (pe_bltn (v := .ty "int") (by rfl) T.zInt bt_int rfl) pa_nil)))
      (pe_one (pe_not (pe_callB call_isi (by rfl) T.zIsi bt_isi (pa_cons (pv 0) (pa_cons (pe_bltn (v := .ty "bool") (by rfl) T.zBool bt_bool rfl) pa_nil))))))), ?_⟩
    refine ⟨_, rfl, x, .ty "int", _, _, b1, rfl, .ty "int", hT, kit_ty h1, b1, rfl, ?_⟩
    cases b1 with
    | true => exact iteT ⟨_, rfl, x, .ty "bool", _, _, b2, rfl, .ty "bool", hT, kit_ty h2, b2, rfl, q⟩
    | false => exact iteF q
theorem scIsP : FnScope ["value"] ["value"] (defScope sIsPlace) := ⟨rfl, rfl, rfl, by decide +kernel, rfl, by decide +kernel, by decide +kernel⟩
theorem ok_isplace {f C : Addr} {fd : FuncData} (F : Fun K "is_place" "is_place" sIsPlace f fd) (T : PTxt K mg C) (I : Cl P w K mg base 1 "is_integer" ["value"] (spIsIntG K)) : FnOk P w K mg base CX0 2 f fd ["value"] (spIsPlace K) := by
  refine F.ok scIsP (fun vs H Q E h => ?_) (fun cdv A outer s H vs Q E hr h => ?_)
  · obtain ⟨x, rfl, _⟩ := h
    rfl
  · obtain ⟨x, rfl, h⟩ := h
    obtain ⟨tl, hl⟩ := T.last
    refine ⟨_, pss_one (ps_ret (pe_and (pe_cl I hr (by decide) (by rfl) (pa_cons (pv 0) pa_nil)) (pe_one (pe_chain op_le op_le pe_int (pv 0) (pe_glob (v := .int lastP) (by rfl) hl ⟨tl, rfl⟩))))), ?_⟩
    rcases h with ⟨n, rfl, q⟩ | ⟨ty, b1, b2, hT, h1, h2, hb, q⟩
    · refine ⟨_, rfl, .int n, "int", true, false, rfl, .base (.int n), by decide +kernel, by decide +kernel, true, rfl, iteT ?_⟩
      refine ⟨_, rfl, _, _, rfl, rfl, _, rfl, ?_⟩
      unfold placeB at q
      cases e : decide ((0 : Int) ≤ n) with
      | true =>
        rw [e] at q
        exact iteT ⟨_, _, rfl, rfl, q⟩
      | false =>
        rw [e] at q
        exact iteF q
    · exact ⟨_, rfl, x, ty, b1, b2, rfl, hT, h1, h2, _, rfl, by rw [hb]; exact iteF q⟩
theorem scIsS : FnScope ["value", "first", "last"] ["value"] (defScope sIsStretch) := ⟨rfl, rfl, rfl, by decide +kernel, rfl, by decide +kernel, by decide +kernel⟩
theorem ok_isstretch {f C : Addr} {fd : FuncData} (F : Fun K "_is_stretch" "_is_stretch" sIsStretch f fd) (T : PTxt K mg C) (I : Cl P w K mg base 2 "is_place" ["value"] (spIsPlace K)) : FnOk P w K mg base CX0 3 f fd ["value"] spIsStretchP := by
  refine F.ok scIsS (fun vs H Q E h => ?_) (fun cdv A outer s H vs Q E hr h => ?_)
  · obtain ⟨a, r, rfl, _⟩ := h
    rfl
  · obtain ⟨a, r, rfl, hp, q⟩ := h
    have nd := scIsS.nd
    refine ⟨_, pss_cons (ps_if (PW.pt (pw_or (pt_not (pt_val (pe_callB call_isiT (by rfl) T.zIsi bt_isi (pa_cons (pv 0) (pa_cons (pe_tup (pa_cons (pe_bltn (v := .ty "tuple") (by rfl) T.zTup bt_tup rfl) (pa_cons (pe_bltn (v := .ty "list") (by rfl) T.zList bt_list rfl) pa_nil))) pa_nil)))))
        (pw_or1 (pt_cmpR op_ne (pe_callB call_len_seq (by rfl) T.zLen PySem.boot_len (pa_cons (pv 0) pa_nil)) pe_int (nomark _))))) (pss_one (ps_ret pe_bl)) pss_nil)
      (pss_cons (ps_asg (pv 0) (pg_or (pg_tup rfl (pgs_cons (pg_name (i := 1) nd rfl (.inl rfl)) (pgs_cons (pg_name (i := 2) nd rfl (.inl rfl)) pgs_nil))) (pg_unl rfl (pgs_cons (pg_name (i := 1) nd rfl (.inl rfl)) (pgs_cons (pg_name (i := 2) nd rfl (.inl rfl)) pgs_nil)))))
      (pss_one (ps_ret (pe_and (pe_cl I hr (by decide) (by rfl) (pa_cons (pv 1) pa_nil)) (pe_and (pe_cl I hr (by decide) (by rfl) (pa_cons (pv 2) pa_nil)) (pe_one (pe_cmpR op_le (pv 1) (pv 2) (nomark _)))))))), ?_⟩
    refine ⟨_, rfl, by show 2 ≤ sizeLine; decide, fun t ht => ?_⟩
    have S1 : Same H (upd H t (.tup [.ty "tuple", .ty "list"])) := fun b o e => by rw [upd_ne (ne_of_none e ht)]; exact e
    have hp1 : PairAt (upd H t (.tup [.ty "tuple", .ty "list"])) a r := hp.elim (fun e => .inl (S1 _ _ e)) fun e => .inr (S1 _ _ e)
    have hseq : SqL K (upd H t (.tup [.ty "tuple", .ty "list"])) a [.int r.1, .int r.2] ∨ SqT K (upd H t (.tup [.ty "tuple", .ty "list"])) a [.int r.1, .int r.2] := hp1.elim (fun e => .inr (.inl (.inl e))) fun e => .inl (.inl (.inl e))
    have hty : ∃ T, TyX K (upd H t (.tup [.ty "tuple", .ty "list"])) (.ref a) (.type T) ∧ PySem.W.kitAny K (.type T) [.type "tuple", .type "list"] = some true := by
      rcases hp1 with e | e
      · exact ⟨"tuple", .base (.tup e), kitAny_cons (kit_ty (b := "tuple") (r := true) (by decide +kernel)) (fun z => nomatch z) fun _ => rfl⟩
      · exact ⟨"list", .base (.lst e), kitAny_cons (kit_ty (b := "tuple") (r := false) (by decide +kernel)) (fun _ => kitAny_cons (kit_ty (b := "list") (r := true) (by decide +kernel)) (fun z => nomatch z) fun _ => rfl) fun z => nomatch z⟩
    obtain ⟨ty, hT, hk⟩ := hty
    refine ⟨.ref a, t, _, .type ty, [.type "tuple", .type "list"], true, rfl, upd_same, .cons (.ty "tuple") (.cons (.ty "list") .nil), hT, hk, true, rfl, iteF ?_⟩
    refine ⟨_, rfl, a, _, rfl, hseq, rfl, _, rfl, iteNS rfl ?_⟩
    have fin : ∀ (Q' : Prop), (Q (.bl (okRow r)) (upd H t (.tup [.ty "tuple", .ty "list"])) → Q') → Q' := fun Q' k => k (q _ S1)
    have tail : ∀ σ : L2.St, σ = [some (.ref a), some (.int r.1), some (.int r.2)] → (tRet (tAndV (tCall (spIsPlace K) [] E0 (tCons (tVar 1) tNil)) (tAndV (tCall (spIsPlace K) [] E0 (tCons (tVar 2) tNil)) (tOp (rI0 fun i j => .bl (decide (i ≤ j))) (tVar 1) (tVar 2))))) { nx := fun _ H' => Q .non H', rt := Q } σ (upd H t (.tup [.ty "tuple", .ty "list"])) := by
      intro σ e
      subst e
      refine ⟨_, rfl, _, rfl, .inl ⟨r.1, rfl, _, rfl, ?_⟩⟩
      have q1 := q _ S1
      unfold okRow at q1
      cases e1 : placeB r.1 with
      | false => rw [e1] at q1; exact iteF q1
      | true =>
        rw [e1] at q1
        refine iteT ⟨_, rfl, _, rfl, .inl ⟨r.2, rfl, _, rfl, ?_⟩⟩
        cases e2 : placeB r.2 with
        | false => rw [e2] at q1; exact iteF q1
        | true =>
          rw [e2] at q1
          exact iteT ⟨_, rfl, _, rfl, _, _, rfl, rfl, q1⟩
    rcases hp1 with e | e
    · exact ⟨_, rfl, .inl ⟨a, _, rfl, .inl (.inl e), rfl, _, _, rfl, _, _, rfl, rfl, tail _ rfl⟩⟩
    · exact ⟨_, rfl, .inr ⟨a, _, rfl, .inl (.inl e), rfl, _, _, rfl, _, _, rfl, rfl, tail _ rfl⟩⟩
end
end OR

namespace OR
open PySem PySem.Spec PyProof.Rows L2
/-- all but what stands at p is as it was -/
def Fre (p : Addr) (H H' : Hp) : Prop := ∀ b o, H b = some o → b ≠ p → H' b = some o
theorem Fre.refl (p : Addr) (H : Hp) : Fre p H H := fun _ _ h _ => h
theorem Fre.trans {p : Addr} {H H1 H2 : Hp} (a : Fre p H H1) (b : Fre p H1 H2) : Fre p H H2 := fun c o h n => b c o (a c o h n) n
theorem Fre.put {p : Addr} {H : Hp} {o : HO} : Fre p H (upd H p o) := fun b x e n => by rw [upd_ne n]; exact e
/-! ### rows of pairs in the heap -/
abbrev ARow := Addr × Row
def refs (L : List ARow) : List V := L.map fun p => V.ref p.1
def rws (L : List ARow) : List Row := L.map (·.2)
def AtR (H : Hp) (L : List ARow) : Prop := ∀ p ∈ L, H p.1 = some (.tup [.int p.2.1, .int p.2.2])
def PairsAt (H : Hp) (L : List ARow) : Prop := ∀ p ∈ L, PairAt H p.1 p.2
theorem AtR.same {H H' : Hp} {L : List ARow} (h : AtR H L) (s : Same H H') : AtR H' L := fun p hp => s _ _ (h p hp)
theorem PairsAt.same {H H' : Hp} {L : List ARow} (h : PairsAt H L) (s : Same H H') : PairsAt H' L := fun p hp => (h p hp).elim (fun e => .inl (s _ _ e)) fun e => .inr (s _ _ e)
theorem AtR.pairs {H : Hp} {L : List ARow} (h : AtR H L) : PairsAt H L := fun p hp => .inl (h p hp)
theorem refs_len (L : List ARow) : (refs L).length = L.length := List.length_map ..
theorem rws_len (L : List ARow) : (rws L).length = L.length := List.length_map ..
theorem refs_snoc (L : List ARow) (p : ARow) : refs (L ++ [p]) = refs L ++ [.ref p.1] := by unfold refs; rw [List.map_append]; rfl
theorem rws_snoc (L : List ARow) (p : ARow) : rws (L ++ [p]) = rws L ++ [p.2] := by unfold rws; rw [List.map_append]; rfl
theorem refs_get {L : List ARow} {i : Nat} {v : V} (h : (refs L)[i]? = some v) : ∃ p, L[i]? = some p ∧ p ∈ L ∧ v = .ref p.1 := by
  unfold refs at h
  rw [List.getElem?_map] at h
  cases e : L[i]? with
  | none => rw [e] at h; cases h
  | some p => rw [e] at h; exact ⟨p, rfl, List.mem_of_getElem? e, (Option.some.inj h).symm⟩
theorem rws_get {L : List ARow} {i : Nat} {p : ARow} (h : L[i]? = some p) : (rws L)[i]? = some p.2 := by
  unfold rws
  rw [List.getElem?_map, h]
  rfl
theorem mem_rws {L : List ARow} {r : Row} : r ∈ rws L ↔ ∃ a, (a, r) ∈ L := by
  unfold rws
  rw [List.mem_map]
  exact ⟨fun ⟨p, hp, e⟩ => ⟨p.1, by rw [← e]; exact hp⟩, fun ⟨a, h⟩ => ⟨(a, r), h, rfl⟩⟩
/-- what a reference to a pair is worth -/
def kOf (H : Hp) : V → Int × Int
  | .ref a => match H a with
    | some (.tup [.int x, .int y]) => (x, y)
    | _ => (0, 0)
  | _ => (0, 0)
theorem kOf_at {H : Hp} {a : Addr} {x y : Int} (h : H a = some (.tup [.int x, .int y])) : kOf H (.ref a) = (x, y) := by
  show (match H a with
    | some (.tup [.int x, .int y]) => (x, y)
    | _ => (0, 0)) = (x, y)
  rw [h]
def adr : V → Addr
  | .ref a => a
  | _ => 0
/-- an arrangement of references is one of rows -/
theorem refs_perm {H : Hp} {M : List ARow} {ys : List V} (hM : AtR H M) (hp : ys.Perm (refs M)) : ∃ S : List ARow, ys = refs S ∧ AtR H S ∧ (∀ r, r ∈ rws S ↔ r ∈ rws M) ∧ S.length = M.length ∧ rws S = ys.map (kOf H) := by
  have each : ∀ y ∈ ys, ∃ p ∈ M, y = .ref p.1 ∧ kOf H y = p.2 := fun y hy => by
    have := hp.mem_iff.mp hy
    unfold refs at this
    obtain ⟨p, hpM, e⟩ := List.mem_map.mp this
    subst e
    exact ⟨p, hpM, rfl, kOf_at (hM p hpM)⟩
  have back : ∀ p ∈ M, V.ref p.1 ∈ ys := fun p hpM => hp.mem_iff.mpr (List.mem_map.mpr ⟨p, hpM, rfl⟩)
  refine ⟨ys.map fun y => (adr y, kOf H y), ?_, ?_, fun r => ?_, ?_, ?_⟩
  · unfold refs
    rw [List.map_map]
    refine Eq.trans (List.map_id ys).symm (List.map_congr_left fun y hy => ?_)
    obtain ⟨p, _, rfl, _⟩ := each y hy
    rfl
  · intro q hq
    obtain ⟨y, hy, e⟩ := List.mem_map.mp hq
    obtain ⟨p, hpM, rfl, k⟩ := each y hy
    subst e
    show H p.1 = some (.tup [.int (kOf H (.ref p.1)).1, .int (kOf H (.ref p.1)).2])
    rw [k]
    exact hM p hpM
  · unfold rws
    rw [List.map_map, List.mem_map, List.mem_map]
    constructor
    · rintro ⟨y, hy, e⟩
      obtain ⟨p, hpM, rfl, k⟩ := each y hy
      exact ⟨p, hpM, by rw [← e]; exact k.symm⟩
    · rintro ⟨p, hpM, e⟩
      exact ⟨.ref p.1, back p hpM, by rw [← e]; exact kOf_at (hM p hpM)⟩
  · rw [List.length_map, hp.length_eq, refs_len]
  · unfold rws
    rw [List.map_map]
    rfl
theorem jstep_len : ∀ (acc : List Row) (r : Row), (jstep acc r).length ≤ acc.length + 1
  | [], r => Nat.le_refl _
  | q :: t, r => by
    show (if r.1 ≤ q.2 + 1 then (q.1, if r.2 > q.2 then r.2 else q.2) :: t else r :: q :: t).length ≤ _
    split
    · exact Nat.le_succ _
    · exact Nat.le_refl _
theorem jfold_len : ∀ (l acc : List Row), (l.foldl jstep acc).length ≤ acc.length + l.length
  | [], acc => Nat.le_refl _
  | r :: l, acc => by
    have h1 := jfold_len l (jstep acc r)
    have h2 := jstep_len acc r
    show (l.foldl jstep (jstep acc r)).length ≤ _
    rw [List.length_cons]
    omega
theorem ixN_last (n : Nat) : ixN (n + 1) (-1) = some n := by
  unfold ixN
  rw [if_neg (by omega), if_pos (by omega)]
  congr 1
  omega
theorem set_last (xs : List V) (v u : V) : (xs ++ [v]).set xs.length u = xs ++ [u] := by
  rw [List.set_append_right _ _ (Nat.le_refl _), Nat.sub_self]
  rfl
def rTupOf (K : PySem.W.Frag) : List V → Hp → VK → Prop := fun xs H Q => ∃ p ys, xs = [.ref p] ∧ ((SqL K H p ys ∧ ∀ l, H l = none → Q (.ref l) (upd H l (.tup ys))) ∨ (SqT K H p ys ∧ Q (.ref p) H))
theorem call_tupOf {X : Cx} (K : PySem.W.Frag) (h : X.K = K) : CallR X (.type "tuple") (rTupOf K) := by
  subst h
  exact call_tuple_of
theorem yesT {σ : L2.St} {H : Hp} {A B : Hp → Prop} (h : A H) : tYes σ H (fun b H3 => if b = true then A H3 else B H3) := by
  show if true = true then A H else B H
  rw [if_pos rfl]
  exact h
theorem same_upd {H H' : Hp} {b : Addr} {u : HO} (s : Same H H') (h : H b = none) : Same H (upd H' b u) := fun c v e => by rw [upd_ne (ne_of_none e h)]; exact s c v e
theorem same_lay {H : Hp} {q : Addr} {o : HO} (h : H q = none) : Same H (upd H q o) := fun b x e => by rw [upd_ne (ne_of_none e h)]; exact e
theorem sameT {K : PySem.W.Frag} {H H' : Hp} {a : Addr} {xs : List V} (e : Same H H') (h : SqT K H a xs) : SqT K H' a xs := by
  rcases h with (h | ⟨o, h⟩) | h
  · exact .inl (.inl (e _ _ h))
  · exact .inl (.inr ⟨o, e _ _ h⟩)
  · exact .inr h
def spJoined (K : PySem.W.Frag) : Sp := fun vs H Q _ => ∃ (a : Addr) (L : List ARow), vs = [.ref a] ∧ (SqL K H a (refs L) ∨ SqT K H a (refs L)) ∧ L.length ≤ 1000 ∧ PairsAt H L ∧ (∀ r ∈ rws L, r.1 ≤ r.2) ∧
  ∀ (t : Addr) (M : List ARow) (H' : Hp), Same H H' → H t = none → H' t = some (.tup (refs M)) → AtR H' M → Nf (rws M) → (∀ x, mem (rws M) x ↔ mem (rws L) x) → M.length ≤ L.length → Q (.ref t) H'
section
variable {P : Program} {w : World} {K : PySem.W.Frag} {mg : Str → Option Value} {base : Heap}
theorem scJ : FnScope ["stretches", "rows", "first", "last", "stretch"] ["stretches"] (defScope sJoined) := ⟨rfl, rfl, rfl, by decide +kernel, rfl, by decide +kernel, by decide +kernel⟩
theorem small_l {n : Nat} (h : n ≤ 1000) : n ≤ sizeLine := Nat.le_of_lt (small1000 h)
theorem ok_joined {f C : Addr} {fd : FuncData} (F : Fun K "_joined" "_joined" sJoined f fd) (T : PTxt K mg C) : FnOk P w K mg base CX0 1 f fd ["stretches"] (spJoined K) := by
  refine F.ok scJ (fun vs H Q E h => ?_) (fun cdv A outer s H vs Q E hr h => ?_)
  · obtain ⟨a, L, rfl, _⟩ := h
    rfl
  · obtain ⟨a, L, rfl, hS, hlen, hP, hok, q⟩ := h
    have nd := scJ.nd
    refine ⟨_, pss_cons (ps_set (i := 1) nd rfl (.inl rfl) (pe_lst pa_nil))
      (pss_cons (ps_for PassesOwn.never rfl (pi_list (pe_callB cr_sortedPO (by rfl) T.zSort bt_sorted (pa_cons
            (pe_lc (own := [("stretch", 4)]) (g := gName 4) (tt := tYes) rfl nd (pi_or (pi_list (pv 0)) (pi_tup (pv 0))) (blkOk_by (N := ["stretches", "rows", "first", "last", "stretch"]) (sc := defScope sJoined) (by decide +kernel))
              (fun _ _ _ _ _ => pg_name (i := 4) nd rfl (.inl rfl)) (fun _ _ _ _ _ => pts_nil) (fun _ _ _ _ _ => pe_callTy (call_tupOf K rfl) (by rfl) T.zTup bt_tup (pa_cons (pv 4) pa_nil))) pa_nil)))
          (pg_tup rfl (pgs_cons (pg_name (i := 2) nd rfl (.inl rfl)) (pgs_cons (pg_name (i := 3) nd rfl (.inl rfl)) pgs_nil)))
        (pss_one (ps_if (PW.pt (pw_and (pt_truth (pv 1) (by intro _; rfl)) (pw_and1 (pt_cmpR op_le (pv 2) (pe_op op_add (pe_ix ix_tup (pe_ix ix_list (pv 1) (pe_un un_neg pe_int) (fun _ _ => rfl)) pe_int (fun _ _ => rfl)) pe_int) (nomark _)))))
          (pss_one (ps_asg (pe_tup (pa_cons (pe_ix ix_tup (pe_ix ix_list (pv 1) (pe_un un_neg pe_int) (fun _ _ => rfl)) pe_int (fun _ _ => rfl))
              (pa_cons (pe_callB (call_max2 rfl) (by rfl) T.zMax bt_max (pa_cons (pe_ix ix_tup (pe_ix ix_list (pv 1) (pe_un un_neg pe_int) (fun _ _ => rfl)) pe_int (fun _ _ => rfl)) (pa_cons (pv 3) pa_nil))) pa_nil)))
            (pg_sub (pv 1) (pe_un un_neg pe_int) set_list)))
          (pss_one (ps_expr (pe_bm PySem.F.plainAttrs_list PySem.F.slot_list_append PySem.F.type_list_append mt_append (pv 1) (pa_cons (pe_tup (pa_cons (pv 2) (pa_cons (pv 3) pa_nil))) pa_nil)))))))
      (pss_one (ps_ret (pe_callTy call_tuple_of (by rfl) T.zTup bt_tup (pa_cons (pv 1) pa_nil))))), ?_⟩
    refine ⟨Nat.zero_le _, fun o no => ?_⟩
    have S1 : Same H (upd H o (.lst [])) := fun b u e => by rw [upd_ne (ne_of_none e no)]; exact e
    rcases hS with hS | hS
    · refine .inl ⟨_, rfl, a, rfl, ⟨_, S1.seq hS⟩, fun D hD => lc_list (K := K) (a := a) (xs := refs L) (fun i H2 => ∃ M : List ARow, H2 D = some (.lst (refs M)) ∧ AtR H2 M ∧ rws M = (rws L).take i ∧ Same (upd H o (.lst [])) H2)
        ⟨[], upd_same, (fun _ z => nomatch z), rfl, same_lay hD⟩ (fun i H2 _ ⟨_, _, _, _, s⟩ => s.seq (S1.seq hS)) ?_ ?_⟩
      · intro i x H2 hx hI
        obtain ⟨M, hD2, hM, eM, s2⟩ := hI
        obtain ⟨p, hp, hpL, rfl⟩ := refs_get hx
        have hil : i < L.length := (List.getElem?_eq_some_iff.mp hp).1
        have hlM : M.length = i := by
          rw [← rws_len M, eM, List.length_take, rws_len]
          omega
        have e1 : (rws L).take (i + 1) = (rws L).take i ++ [p.2] := by rw [List.take_add_one, rws_get hp]; rfl
        have nDp : ∀ q ∈ M, q.1 ≠ D := fun q hq => ne_of (hM q hq) hD2 (by intro z; cases z)
        refine ⟨rfl, yesT ?_⟩
        refine ⟨_, rfl, p.1, [.int p.2.1, .int p.2.2], rfl, ?_⟩
        rcases hP p hpL with e | e
        · have e3 := s2 _ _ (S1 _ _ e)
          refine .inr ⟨.inl (.inl e3), refs M, hD2, small1000 (by rw [refs_len, hlM]; omega), M ++ [p], ?_, ?_, ?_, same_upd s2 hD⟩
          · rw [upd_same, refs_snoc]
          · intro q hq
            rcases List.mem_append.mp hq with k | k
            · rw [upd_ne (nDp q k)]; exact hM q k
            · rw [List.mem_singleton.mp k, upd_ne (ne_of e3 hD2 (by intro z; cases z))]; exact e3
          · rw [rws_snoc, eM, e1]
        · have e3 := s2 _ _ (S1 _ _ e)
          refine .inl ⟨.inl (.inl e3), fun l hl => ?_⟩
          have nDl : D ≠ l := ne_of_none hD2 hl
          have s3 := same_lay (o := .tup [.int p.2.1, .int p.2.2]) hl
          refine ⟨refs M, s3 _ _ hD2, small1000 (by rw [refs_len, hlM]; omega), M ++ [(l, p.2)], ?_, ?_, ?_, same_upd (s2.trans s3) hD⟩
          · rw [upd_same, refs_snoc]
          · intro q hq
            rcases List.mem_append.mp hq with k | k
            · rw [upd_ne (nDp q k)]; exact s3 _ _ (hM q k)
            · rw [List.mem_singleton.mp k, upd_ne nDl.symm, upd_same]
          · rw [rws_snoc, eM, e1]
      · intro H2 hI
        obtain ⟨M, hD2, hM, eM, s2⟩ := hI
        rw [refs_len, List.take_of_length_le (by rw [rws_len]; exact Nat.le_refl _)] at eM
        have no2 : H2 o = some (.lst []) := s2 _ _ upd_same
        have lM : M.length = L.length := by rw [← rws_len M, eM, rws_len]
        -- sorted
        refine ⟨D, refs M, kOf H2, rfl, .inl (.inl hD2), fun y hy => ?_, fun ys p hs hb np => ?_⟩
        · unfold refs at hy
          obtain ⟨z, hz, rfl⟩ := List.mem_map.mp hy
          exact ⟨z.1, rfl, by rw [kOf_at (hM z hz)]; exact hM z hz⟩
        obtain ⟨S, rfl, hSA, hSm, hSl, hSk⟩ := refs_perm hM hb.perm
        have hso : (rws S).Pairwise fun r s => r.1 ≤ s.1 := by
          rw [hSk]
          refine List.pairwise_map.mpr (hs.imp fun {x y} hxy => ?_)
          have := SrtO.lexB_no.mp hxy
          omega
        have hSok : ∀ r ∈ rws S, r.1 ≤ r.2 := fun r hr => hok r (by rw [← eM]; exact (hSm r).mp hr)
        obtain ⟨hnf, hme⟩ := jfold_ok hSok hso
        have s3 := same_lay (o := .lst (refs S)) np
        have nop : o ≠ p := ne_of_none no2 np
        refine ⟨p, rfl, ⟨_, .inl (.inl upd_same)⟩, for_list (K := K) (a := p) (xs := refs S) (fun i σ H' => ∃ f l, ∃ A : List ARow, σ = [some (.ref a), some (.ref o), f, l, none] ∧ H' o = some (.lst (refs A)) ∧ AtR H' A ∧ rws A = (((rws S).take i).foldl jstep []).reverse ∧ Fre o (upd H2 p (.lst (refs S))) H' ∧ A.length ≤ i)
          ⟨none, none, [], rfl, by rw [upd_ne nop]; exact no2, (fun _ z => nomatch z), rfl, Fre.refl _ _, Nat.le_refl _⟩ (fun i σ H' _ ⟨_, _, _, _, _, _, _, fr, _⟩ => .inl (.inl (fr _ _ upd_same nop.symm))) ?_ ?_⟩
        · rintro i y σ H' hy ⟨f, l, A, rfl, hoA, hA, eA, fr, hAl⟩
          obtain ⟨z, hz, hzS, rfl⟩ := refs_get hy
          have hil : i < S.length := (List.getElem?_eq_some_iff.mp hz).1
          have ez : H' z.1 = some (.tup [.int z.2.1, .int z.2.2]) := fr _ _ (s3 _ _ (hSA z hzS)) (ne_of (hSA z hzS) no2 (by intro q; cases q))
          have e1 : ((rws S).take (i + 1)).foldl jstep [] = jstep (((rws S).take i).foldl jstep []) z.2 := by
            rw [List.take_add_one, rws_get hz, List.foldl_append]
            rfl
          have nAo : ∀ q ∈ A, q.1 ≠ o := fun q hq => ne_of (hA q hq) hoA (by intro w; cases w)
          refine ⟨z.1, _, rfl, .inl (.inl ez), rfl, _, _, rfl, _, _, rfl, rfl, ?_⟩
          refine ⟨_, rfl, !(refs A).isEmpty, .inl ⟨refs A, .inl (.inl hoA), rfl⟩, ?_⟩
          -- the row goes to the end
          have app : ∀ (hj : jstep (((rws S).take i).foldl jstep []) z.2 = z.2 :: ((rws S).take i).foldl jstep []) (T : Addr), H' T = none →
              ∃ f' l', ∃ A' : List ARow, [some (V.ref a), some (.ref o), some (.int z.2.1), some (.int z.2.2), none] = [some (.ref a), some (.ref o), f', l', none] ∧ (upd (upd H' T (.tup [.int z.2.1, .int z.2.2])) o (.lst (refs A ++ [.ref T]))) o = some (.lst (refs A')) ∧ AtR (upd (upd H' T (.tup [.int z.2.1, .int z.2.2])) o (.lst (refs A ++ [.ref T]))) A' ∧
                rws A' = (((rws S).take (i + 1)).foldl jstep []).reverse ∧ Fre o (upd H2 p (.lst (refs S))) (upd (upd H' T (.tup [.int z.2.1, .int z.2.2])) o (.lst (refs A ++ [.ref T]))) ∧ A'.length ≤ i + 1 := by
            intro hj Tn hT
            have s4 := same_lay (o := .tup [.int z.2.1, .int z.2.2]) hT
            have noT : Tn ≠ o := by
              intro e
              rw [e] at hT
              rw [hT] at hoA
              cases hoA
            refine ⟨_, _, A ++ [(Tn, z.2)], rfl, by rw [upd_same, refs_snoc], ?_, ?_, (fr.trans (fun b u e _ => s4 b u e)).trans Fre.put, by rw [List.length_append]; exact Nat.succ_le_succ hAl⟩
            · intro q hq
              rcases List.mem_append.mp hq with k | k
              · rw [upd_ne (nAo q k)]; exact s4 _ _ (hA q k)
              · rw [List.mem_singleton.mp k, upd_ne noT, upd_same]
            · rw [rws_snoc, eA, e1, hj, List.reverse_cons]
          have alen : (refs A).length < sizeLine := small1000 (by rw [refs_len]; omega)
          have two : 2 ≤ sizeLine := by decide
          cases hacc : ((rws S).take i).foldl jstep [] with
          | nil =>
            have eA0 : A = [] := by
              rw [hacc] at eA
              exact List.map_eq_nil_iff.mp eA
            refine ite2 (fun k => ?_) (fun _ => iteF ?_)
            · rw [eA0] at k
              exact absurd k (by decide)
            · refine ⟨_, rfl, .inl ⟨rfl, _, .inl (.inl hoA)⟩, _, rfl, _, rfl, two, fun Tn hT => ?_⟩
              refine ⟨o, refs A, _, rfl, rfl, same_lay hT _ _ hoA, alen, ?_⟩
              exact app (by rw [hacc]; rfl) Tn hT
          | cons q0 t0 =>
            have eA1 : rws A = t0.reverse ++ [q0] := by rw [eA, hacc, List.reverse_cons]
            obtain ⟨B, A2, rfl, eB, eA2⟩ := List.map_eq_append_iff.mp eA1
            obtain ⟨⟨aq, q1⟩, A3, rfl, eq1, eA3⟩ := List.map_eq_cons_iff.mp eA2
            obtain rfl := List.map_eq_nil_iff.mp eA3
            obtain rfl : q1 = q0 := eq1
            have haq : H' aq = some (.tup [.int q1.1, .int q1.2]) := hA (aq, q1) (List.mem_append_right _ (List.mem_singleton.mpr rfl))
            rw [refs_snoc] at hoA
            have hSo : SqL K H' o (refs B ++ [.ref aq]) := .inl (.inl hoA)
            have hSq : SqT K H' aq [.int q1.1, .int q1.2] := .inl (.inl haq)
            have g0 : atI [V.int q1.1, .int q1.2] 0 = some (.int q1.1) := atI_nat (j := 0) rfl
            have g1 : atI [V.int q1.1, .int q1.2] 1 = some (.int q1.2) := atI_nat (j := 1) rfl
            have gl : atI (refs B ++ [V.ref aq]) (-1) = some (.ref aq) := atI_last _ _
            refine ite2 (fun _ => ?_) (fun k => ?_)
            · refine ⟨_, rfl, _, rfl, 1, rfl, o, _, -1, _, rfl, rfl, hSo, gl, aq, _, 1, _, rfl, rfl, hSq, g1, _, _, rfl, rfl, _, _, rfl, rfl, _, rfl, ite2 (fun c => ?_) (fun c => ?_)⟩
              · have hc : z.2.1 ≤ q1.2 + 1 := of_decide_eq_true c
                refine ⟨_, rfl, 1, rfl, o, _, -1, _, rfl, rfl, hSo, gl, aq, _, 0, _, rfl, rfl, hSq, g0, _, rfl, 1, rfl, o, _, -1, _, rfl, rfl, hSo, gl, aq, _, 1, _, rfl, rfl, hSq, g1, _, rfl, _, _, rfl, two, fun Tn hT => ?_⟩
                have s4 := same_lay (o := .tup [.int q1.1, .int (if z.2.2 > q1.2 then z.2.2 else q1.2)]) hT
                have noT : Tn ≠ o := by
                  intro e
                  rw [e] at hT
                  rw [hT] at hoA
                  cases hoA
                have ixe : ixN (refs B ++ [V.ref aq]).length (-1) = some (refs B).length := by
                  rw [List.length_append]
                  exact ixN_last _
                refine ⟨_, rfl, 1, rfl, o, _, -1, _, rfl, rfl, s4 _ _ hoA, ixe, ?_⟩
                refine ⟨_, _, B ++ [(Tn, (q1.1, if z.2.2 > q1.2 then z.2.2 else q1.2))], rfl, by rw [upd_same, set_last, refs_snoc], ?_, ?_, (fr.trans (fun b u e _ => s4 b u e)).trans Fre.put, ?_⟩
                · intro q hq
                  rcases List.mem_append.mp hq with k | k
                  · rw [upd_ne (nAo q (List.mem_append_left _ k))]; exact s4 _ _ (hA q (List.mem_append_left _ k))
                  · rw [List.mem_singleton.mp k, upd_ne noT, upd_same]
                · rw [rws_snoc, e1, hacc]
                  show rws B ++ [(q1.1, if z.2.2 > q1.2 then z.2.2 else q1.2)] = (if z.2.1 ≤ q1.2 + 1 then (q1.1, if z.2.2 > q1.2 then z.2.2 else q1.2) :: t0 else z.2 :: q1 :: t0).reverse
                  rw [if_pos hc, List.reverse_cons]
                  exact congrArg (· ++ [(q1.1, if z.2.2 > q1.2 then z.2.2 else q1.2)]) eB
                · rw [List.length_append] at hAl ⊢
                  exact Nat.le_succ_of_le hAl
              · have hc : ¬ z.2.1 ≤ q1.2 + 1 := fun w => c (decide_eq_true w)
                refine ⟨_, rfl, .inl ⟨rfl, _, .inl (.inl hoA)⟩, _, rfl, _, rfl, two, fun Tn hT => ?_⟩
                refine ⟨o, _, _, rfl, rfl, same_lay hT _ _ hoA, by rw [← refs_snoc]; exact alen, ?_⟩
                rw [← refs_snoc]
                refine app ?_ Tn hT
                rw [hacc]
                show (if z.2.1 ≤ q1.2 + 1 then (q1.1, if z.2.2 > q1.2 then z.2.2 else q1.2) :: t0 else z.2 :: q1 :: t0) = z.2 :: q1 :: t0
                rw [if_neg hc]
            · exfalso
              apply k
              rw [refs_snoc]
              simp
        · rintro σ H' ⟨f, l, A, rfl, hoA, hA, eA, fr, hAl⟩
          rw [refs_len, List.take_of_length_le (by rw [rws_len]; exact Nat.le_refl _)] at eA
          have eN : rws A = (jfold (rws S)).reverse := eA
          refine ⟨_, rfl, o, refs A, rfl, .inl ⟨.inl (.inl hoA), fun t ht => ?_⟩⟩
          have s5 := same_lay (o := .tup (refs A)) ht
          have s6 : Same H H' := fun b u e => fr b u (s3 b u (s2 b u (S1 b u e))) (ne_of_none e no)
          refine q t A _ (s6.trans s5) (s6.free ht) upd_same (hA.same s5) (by rw [eN]; exact hnf) (fun x => ?_) ?_
          · rw [eN, hme x, ← eM]
            exact mem_same hSm x
          · rw [refs_len] at hAl
            omega
    · refine .inr ⟨_, rfl, a, rfl, ⟨_, sameT S1 hS⟩, fun D hD => lc_tup (K := K) (a := a) (xs := refs L) (fun i H2 => ∃ M : List ARow, H2 D = some (.lst (refs M)) ∧ AtR H2 M ∧ rws M = (rws L).take i ∧ Same (upd H o (.lst [])) H2)
        ⟨[], upd_same, (fun _ z => nomatch z), rfl, same_lay hD⟩ (fun i H2 _ ⟨_, _, _, _, s⟩ => sameT s (sameT S1 hS)) ?_ ?_⟩
      · intro i x H2 hx hI
        obtain ⟨M, hD2, hM, eM, s2⟩ := hI
        obtain ⟨p, hp, hpL, rfl⟩ := refs_get hx
        have hil : i < L.length := (List.getElem?_eq_some_iff.mp hp).1
        have hlM : M.length = i := by
          rw [← rws_len M, eM, List.length_take, rws_len]
          omega
        have e1 : (rws L).take (i + 1) = (rws L).take i ++ [p.2] := by rw [List.take_add_one, rws_get hp]; rfl
        have nDp : ∀ q ∈ M, q.1 ≠ D := fun q hq => ne_of (hM q hq) hD2 (by intro z; cases z)
        refine ⟨rfl, yesT ?_⟩
        refine ⟨_, rfl, p.1, [.int p.2.1, .int p.2.2], rfl, ?_⟩
        rcases hP p hpL with e | e
        · have e3 := s2 _ _ (S1 _ _ e)
          refine .inr ⟨.inl (.inl e3), refs M, hD2, small1000 (by rw [refs_len, hlM]; omega), M ++ [p], ?_, ?_, ?_, same_upd s2 hD⟩
          · rw [upd_same, refs_snoc]
          · intro q hq
            rcases List.mem_append.mp hq with k | k
            · rw [upd_ne (nDp q k)]; exact hM q k
            · rw [List.mem_singleton.mp k, upd_ne (ne_of e3 hD2 (by intro z; cases z))]; exact e3
          · rw [rws_snoc, eM, e1]
        · have e3 := s2 _ _ (S1 _ _ e)
          refine .inl ⟨.inl (.inl e3), fun l hl => ?_⟩
          have nDl : D ≠ l := ne_of_none hD2 hl
          have s3 := same_lay (o := .tup [.int p.2.1, .int p.2.2]) hl
          refine ⟨refs M, s3 _ _ hD2, small1000 (by rw [refs_len, hlM]; omega), M ++ [(l, p.2)], ?_, ?_, ?_, same_upd (s2.trans s3) hD⟩
          · rw [upd_same, refs_snoc]
          · intro q hq
            rcases List.mem_append.mp hq with k | k
            · rw [upd_ne (nDp q k)]; exact s3 _ _ (hM q k)
            · rw [List.mem_singleton.mp k, upd_ne nDl.symm, upd_same]
          · rw [rws_snoc, eM, e1]
      · intro H2 hI
        obtain ⟨M, hD2, hM, eM, s2⟩ := hI
        rw [refs_len, List.take_of_length_le (by rw [rws_len]; exact Nat.le_refl _)] at eM
        have no2 : H2 o = some (.lst []) := s2 _ _ upd_same
        have lM : M.length = L.length := by rw [← rws_len M, eM, rws_len]
        -- sorted
        refine ⟨D, refs M, kOf H2, rfl, .inl (.inl hD2), fun y hy => ?_, fun ys p hs hb np => ?_⟩
        · unfold refs at hy
          obtain ⟨z, hz, rfl⟩ := List.mem_map.mp hy
          exact ⟨z.1, rfl, by rw [kOf_at (hM z hz)]; exact hM z hz⟩
        obtain ⟨S, rfl, hSA, hSm, hSl, hSk⟩ := refs_perm hM hb.perm
        have hso : (rws S).Pairwise fun r s => r.1 ≤ s.1 := by
          rw [hSk]
          refine List.pairwise_map.mpr (hs.imp fun {x y} hxy => ?_)
          have := SrtO.lexB_no.mp hxy
          omega
        have hSok : ∀ r ∈ rws S, r.1 ≤ r.2 := fun r hr => hok r (by rw [← eM]; exact (hSm r).mp hr)
        obtain ⟨hnf, hme⟩ := jfold_ok hSok hso
        have s3 := same_lay (o := .lst (refs S)) np
        have nop : o ≠ p := ne_of_none no2 np
        refine ⟨p, rfl, ⟨_, .inl (.inl upd_same)⟩, for_list (K := K) (a := p) (xs := refs S) (fun i σ H' => ∃ f l, ∃ A : List ARow, σ = [some (.ref a), some (.ref o), f, l, none] ∧ H' o = some (.lst (refs A)) ∧ AtR H' A ∧ rws A = (((rws S).take i).foldl jstep []).reverse ∧ Fre o (upd H2 p (.lst (refs S))) H' ∧ A.length ≤ i)
          ⟨none, none, [], rfl, by rw [upd_ne nop]; exact no2, (fun _ z => nomatch z), rfl, Fre.refl _ _, Nat.le_refl _⟩ (fun i σ H' _ ⟨_, _, _, _, _, _, _, fr, _⟩ => .inl (.inl (fr _ _ upd_same nop.symm))) ?_ ?_⟩
        · rintro i y σ H' hy ⟨f, l, A, rfl, hoA, hA, eA, fr, hAl⟩
          obtain ⟨z, hz, hzS, rfl⟩ := refs_get hy
          have hil : i < S.length := (List.getElem?_eq_some_iff.mp hz).1
          have ez : H' z.1 = some (.tup [.int z.2.1, .int z.2.2]) := fr _ _ (s3 _ _ (hSA z hzS)) (ne_of (hSA z hzS) no2 (by intro q; cases q))
          have e1 : ((rws S).take (i + 1)).foldl jstep [] = jstep (((rws S).take i).foldl jstep []) z.2 := by
            rw [List.take_add_one, rws_get hz, List.foldl_append]
            rfl
          have nAo : ∀ q ∈ A, q.1 ≠ o := fun q hq => ne_of (hA q hq) hoA (by intro w; cases w)
          refine ⟨z.1, _, rfl, .inl (.inl ez), rfl, _, _, rfl, _, _, rfl, rfl, ?_⟩
          refine ⟨_, rfl, !(refs A).isEmpty, .inl ⟨refs A, .inl (.inl hoA), rfl⟩, ?_⟩
          -- the row goes to the end
          have app : ∀ (hj : jstep (((rws S).take i).foldl jstep []) z.2 = z.2 :: ((rws S).take i).foldl jstep []) (T : Addr), H' T = none →
              ∃ f' l', ∃ A' : List ARow, [some (V.ref a), some (.ref o), some (.int z.2.1), some (.int z.2.2), none] = [some (.ref a), some (.ref o), f', l', none] ∧ (upd (upd H' T (.tup [.int z.2.1, .int z.2.2])) o (.lst (refs A ++ [.ref T]))) o = some (.lst (refs A')) ∧ AtR (upd (upd H' T (.tup [.int z.2.1, .int z.2.2])) o (.lst (refs A ++ [.ref T]))) A' ∧
                rws A' = (((rws S).take (i + 1)).foldl jstep []).reverse ∧ Fre o (upd H2 p (.lst (refs S))) (upd (upd H' T (.tup [.int z.2.1, .int z.2.2])) o (.lst (refs A ++ [.ref T]))) ∧ A'.length ≤ i + 1 := by
            intro hj Tn hT
            have s4 := same_lay (o := .tup [.int z.2.1, .int z.2.2]) hT
            have noT : Tn ≠ o := by
              intro e
              rw [e] at hT
              rw [hT] at hoA
              cases hoA
            refine ⟨_, _, A ++ [(Tn, z.2)], rfl, by rw [upd_same, refs_snoc], ?_, ?_, (fr.trans (fun b u e _ => s4 b u e)).trans Fre.put, by rw [List.length_append]; exact Nat.succ_le_succ hAl⟩
            · intro q hq
              rcases List.mem_append.mp hq with k | k
              · rw [upd_ne (nAo q k)]; exact s4 _ _ (hA q k)
              · rw [List.mem_singleton.mp k, upd_ne noT, upd_same]
            · rw [rws_snoc, eA, e1, hj, List.reverse_cons]
          have alen : (refs A).length < sizeLine := small1000 (by rw [refs_len]; omega)
          have two : 2 ≤ sizeLine := by decide
          cases hacc : ((rws S).take i).foldl jstep [] with
          | nil =>
            have eA0 : A = [] := by
              rw [hacc] at eA
              exact List.map_eq_nil_iff.mp eA
            refine ite2 (fun k => ?_) (fun _ => iteF ?_)
            · rw [eA0] at k
              exact absurd k (by decide)
            · refine ⟨_, rfl, .inl ⟨rfl, _, .inl (.inl hoA)⟩, _, rfl, _, rfl, two, fun Tn hT => ?_⟩
              refine ⟨o, refs A, _, rfl, rfl, same_lay hT _ _ hoA, alen, ?_⟩
              exact app (by rw [hacc]; rfl) Tn hT
          | cons q0 t0 =>
            have eA1 : rws A = t0.reverse ++ [q0] := by rw [eA, hacc, List.reverse_cons]
            obtain ⟨B, A2, rfl, eB, eA2⟩ := List.map_eq_append_iff.mp eA1
            obtain ⟨⟨aq, q1⟩, A3, rfl, eq1, eA3⟩ := List.map_eq_cons_iff.mp eA2
            obtain rfl := List.map_eq_nil_iff.mp eA3
            obtain rfl : q1 = q0 := eq1
            have haq : H' aq = some (.tup [.int q1.1, .int q1.2]) := hA (aq, q1) (List.mem_append_right _ (List.mem_singleton.mpr rfl))
            rw [refs_snoc] at hoA
            have hSo : SqL K H' o (refs B ++ [.ref aq]) := .inl (.inl hoA)
            have hSq : SqT K H' aq [.int q1.1, .int q1.2] := .inl (.inl haq)
            have g0 : atI [V.int q1.1, .int q1.2] 0 = some (.int q1.1) := atI_nat (j := 0) rfl
            have g1 : atI [V.int q1.1, .int q1.2] 1 = some (.int q1.2) := atI_nat (j := 1) rfl
            have gl : atI (refs B ++ [V.ref aq]) (-1) = some (.ref aq) := atI_last _ _
            refine ite2 (fun _ => ?_) (fun k => ?_)
            · refine ⟨_, rfl, _, rfl, 1, rfl, o, _, -1, _, rfl, rfl, hSo, gl, aq, _, 1, _, rfl, rfl, hSq, g1, _, _, rfl, rfl, _, _, rfl, rfl, _, rfl, ite2 (fun c => ?_) (fun c => ?_)⟩
              · have hc : z.2.1 ≤ q1.2 + 1 := of_decide_eq_true c
                refine ⟨_, rfl, 1, rfl, o, _, -1, _, rfl, rfl, hSo, gl, aq, _, 0, _, rfl, rfl, hSq, g0, _, rfl, 1, rfl, o, _, -1, _, rfl, rfl, hSo, gl, aq, _, 1, _, rfl, rfl, hSq, g1, _, rfl, _, _, rfl, two, fun Tn hT => ?_⟩
                have s4 := same_lay (o := .tup [.int q1.1, .int (if z.2.2 > q1.2 then z.2.2 else q1.2)]) hT
                have noT : Tn ≠ o := by
                  intro e
                  rw [e] at hT
                  rw [hT] at hoA
                  cases hoA
                have ixe : ixN (refs B ++ [V.ref aq]).length (-1) = some (refs B).length := by
                  rw [List.length_append]
                  exact ixN_last _
                refine ⟨_, rfl, 1, rfl, o, _, -1, _, rfl, rfl, s4 _ _ hoA, ixe, ?_⟩
                refine ⟨_, _, B ++ [(Tn, (q1.1, if z.2.2 > q1.2 then z.2.2 else q1.2))], rfl, by rw [upd_same, set_last, refs_snoc], ?_, ?_, (fr.trans (fun b u e _ => s4 b u e)).trans Fre.put, ?_⟩
                · intro q hq
                  rcases List.mem_append.mp hq with k | k
                  · rw [upd_ne (nAo q (List.mem_append_left _ k))]; exact s4 _ _ (hA q (List.mem_append_left _ k))
                  · rw [List.mem_singleton.mp k, upd_ne noT, upd_same]
                · rw [rws_snoc, e1, hacc]
                  show rws B ++ [(q1.1, if z.2.2 > q1.2 then z.2.2 else q1.2)] = (if z.2.1 ≤ q1.2 + 1 then (q1.1, if z.2.2 > q1.2 then z.2.2 else q1.2) :: t0 else z.2 :: q1 :: t0).reverse
                  rw [if_pos hc, List.reverse_cons]
                  exact congrArg (· ++ [(q1.1, if z.2.2 > q1.2 then z.2.2 else q1.2)]) eB
                · rw [List.length_append] at hAl ⊢
                  exact Nat.le_succ_of_le hAl
              · have hc : ¬ z.2.1 ≤ q1.2 + 1 := fun w => c (decide_eq_true w)
                refine ⟨_, rfl, .inl ⟨rfl, _, .inl (.inl hoA)⟩, _, rfl, _, rfl, two, fun Tn hT => ?_⟩
                refine ⟨o, _, _, rfl, rfl, same_lay hT _ _ hoA, by rw [← refs_snoc]; exact alen, ?_⟩
                rw [← refs_snoc]
                refine app ?_ Tn hT
                rw [hacc]
                show (if z.2.1 ≤ q1.2 + 1 then (q1.1, if z.2.2 > q1.2 then z.2.2 else q1.2) :: t0 else z.2 :: q1 :: t0) = z.2 :: q1 :: t0
                rw [if_neg hc]
            · exfalso
              apply k
              rw [refs_snoc]
              simp
        · rintro σ H' ⟨f, l, A, rfl, hoA, hA, eA, fr, hAl⟩
          rw [refs_len, List.take_of_length_le (by rw [rws_len]; exact Nat.le_refl _)] at eA
          have eN : rws A = (jfold (rws S)).reverse := eA
          refine ⟨_, rfl, o, refs A, rfl, .inl ⟨.inl (.inl hoA), fun t ht => ?_⟩⟩
          have s5 := same_lay (o := .tup (refs A)) ht
          have s6 : Same H H' := fun b u e => fr b u (s3 b u (s2 b u (S1 b u e))) (ne_of_none e no)
          refine q t A _ (s6.trans s5) (s6.free ht) upd_same (hA.same s5) (by rw [eN]; exact hnf) (fun x => ?_) ?_
          · rw [eN, hme x, ← eM]
            exact mem_same hSm x
          · rw [refs_len] at hAl
            omega
end
end OR

namespace OR
open PySem PySem.Spec PyProof.Rows L2
/-! ### counts before, and __init__ -/
def tot (l : List Row) : Int := l.foldl (fun t r => t + r.2 - r.1 + 1) 0
def befs (l : List Row) : List Int := (List.range l.length).map fun j => tot (l.take j)
theorem tot_snoc (l : List Row) (r : Row) : tot (l ++ [r]) = tot l + r.2 - r.1 + 1 := by
  unfold tot
  rw [List.foldl_append]
  rfl
def spCounts (K : PySem.W.Frag) : Sp := fun vs H Q _ => ∃ (t : Addr) (M : List ARow), vs = [.ref t] ∧ H t = some (.tup (refs M)) ∧ AtR H M ∧ M.length ≤ 1000 ∧
  ∀ (b : Addr) (H' : Hp), Same H H' → H b = none → H' b = some (.tup ((befs (rws M)).map V.int)) → Q (.ref b) H'
/-- an instance of Places with these rows -/
theorem kFS : ¬ (("_firsts" : Str) = "stretches") := by decide +kernel
theorem kBS : ¬ (("_before" : Str) = "stretches") := by decide +kernel
theorem kBF : ¬ (("_before" : Str) = "_firsts") := by decide +kernel
def pFl (t f b : Addr) : List (Str × V) := putF "_before" (.ref b) (putF "_firsts" (.ref f) (putF "stretches" (.ref t) []))
theorem pFl_s (t f b : Addr) : (pFl t f b).lookup ("stretches" : Str) = some (.ref t) := by
  unfold pFl
  rw [lookup_putF, if_neg (fun e => kBS e.symm), lookup_putF, if_neg (fun e => kFS e.symm), lookup_putF, if_pos rfl]
theorem pFl_f (t f b : Addr) : (pFl t f b).lookup ("_firsts" : Str) = some (.ref f) := by
  unfold pFl
  rw [lookup_putF, if_neg (fun e => kBF e.symm), lookup_putF, if_pos rfl]
theorem pFl_b (t f b : Addr) : (pFl t f b).lookup ("_before" : Str) = some (.ref b) := by
  unfold pFl
  rw [lookup_putF, if_pos rfl]
theorem pFl_no (t f b : Addr) {m : Str} (h1 : ¬ m = "_before") (h2 : ¬ m = "_firsts") (h3 : ¬ m = "stretches") : (pFl t f b).lookup m = none := by
  unfold pFl
  rw [lookup_putF, if_neg h1, lookup_putF, if_neg h2, lookup_putF, if_neg h3]
  rfl
structure IsP (C : Addr) (H : Hp) (x : Addr) (l : List Row) : Prop where
  nf : Nf l
  ex : ∃ (dx t f b : Addr) (M : List ARow), H x = some (.ins C dx (pFl t f b)) ∧ H t = some (.tup (refs M)) ∧ AtR H M ∧ rws M = l ∧ H f = some (.tup (l.map fun r => V.int r.1)) ∧ H b = some (.tup ((befs l).map V.int)) ∧ M.length ≤ 1000
theorem IsP.same {C : Addr} {H H' : Hp} {x : Addr} {l : List Row} (h : IsP C H x l) (s : Same H H') : IsP C H' x l := by
  obtain ⟨nf, dx, t, f, b, M, h1, h2, h3, h4, h5, h6, h7⟩ := h
  exact ⟨nf, dx, t, f, b, M, s _ _ h1, s _ _ h2, h3.same s, h4, s _ _ h5, s _ _ h6, h7⟩
/-- enumerate, turn by turn -/
theorem for_enum {K : PySem.W.Frag} {a : Addr} {xs : List V} {g : TG} {tb : TS} {D : Ends} {σ : L2.St} {H : Hp} (Pv : Nat → L2.St → Hp → Prop) (h0 : Pv 0 σ H) (hl : ∀ i σ H, i ≤ xs.length → Pv i σ H → SqL K H a xs)
    (hs : ∀ i x σ H T, xs[i]? = some x → Pv i σ H → H T = none → g (.ref T) σ (upd H T (.tup [.int (i : Nat), x])) fun σ2 H2 => tb { D with nx := Pv (i + 1), ct := Pv (i + 1), bk := D.nx } σ2 H2) (hd : ∀ σ H, Pv xs.length σ H → D.nx σ H) :
    ∃ W : Nat → Nat → L2.St → Hp → Prop, (∃ m, W 0 m σ H) ∧ ∀ i m σ H, W i m σ H →
      ((Ite K a).stop i H ∧ D.nx σ H) ∨ ((Ite K a).go i H ∧ ∃ N : L2.St → Hp → Prop, (∀ σ' H', N σ' H' → ∃ m', m' < m ∧ W (i + 1) m' σ' H') ∧ ∀ x H', (Ite K a).yld i H x H' → g x σ H' fun σ2 H2 => tb { D with nx := N, ct := N, bk := D.nx } σ2 H2) := by
  refine ⟨fun i m σ H => m = xs.length - i ∧ i ≤ xs.length ∧ Pv i σ H, ⟨xs.length, by simp, Nat.zero_le _, h0⟩, ?_⟩
  rintro i m σ H ⟨rfl, hi, p⟩
  have q := hl i σ H hi p
  by_cases hlt : i < xs.length
  · refine .inr ⟨⟨xs, xs[i], q, by simp [hlt]⟩, Pv (i + 1), fun σ' H' p' => ⟨xs.length - (i + 1), by omega, rfl, hlt, p'⟩, fun v H' y => ?_⟩
    obtain ⟨T, x, rfl, hT, rfl, hx⟩ := y
    exact hs i x σ H T (hx xs q) p hT
  · obtain rfl : i = xs.length := by omega
    exact .inl ⟨⟨xs, q, Nat.le_refl _⟩, hd σ H p⟩
theorem for_enumT {K : PySem.W.Frag} {a : Addr} {xs : List V} {g : TG} {tb : TS} {D : Ends} {σ : L2.St} {H : Hp} (Pv : Nat → L2.St → Hp → Prop) (h0 : Pv 0 σ H) (hl : ∀ i σ H, i ≤ xs.length → Pv i σ H → SqT K H a xs)
    (hs : ∀ i x σ H T, xs[i]? = some x → Pv i σ H → H T = none → g (.ref T) σ (upd H T (.tup [.int (i : Nat), x])) fun σ2 H2 => tb { D with nx := Pv (i + 1), ct := Pv (i + 1), bk := D.nx } σ2 H2) (hd : ∀ σ H, Pv xs.length σ H → D.nx σ H) :
    ∃ W : Nat → Nat → L2.St → Hp → Prop, (∃ m, W 0 m σ H) ∧ ∀ i m σ H, W i m σ H →
      ((IteT K a).stop i H ∧ D.nx σ H) ∨ ((IteT K a).go i H ∧ ∃ N : L2.St → Hp → Prop, (∀ σ' H', N σ' H' → ∃ m', m' < m ∧ W (i + 1) m' σ' H') ∧ ∀ x H', (IteT K a).yld i H x H' → g x σ H' fun σ2 H2 => tb { D with nx := N, ct := N, bk := D.nx } σ2 H2) := by
  refine ⟨fun i m σ H => m = xs.length - i ∧ i ≤ xs.length ∧ Pv i σ H, ⟨xs.length, by simp, Nat.zero_le _, h0⟩, ?_⟩
  rintro i m σ H ⟨rfl, hi, p⟩
  have q := hl i σ H hi p
  by_cases hlt : i < xs.length
  · refine .inr ⟨⟨xs, xs[i], q, by simp [hlt]⟩, Pv (i + 1), fun σ' H' p' => ⟨xs.length - (i + 1), by omega, rfl, hlt, p'⟩, fun v H' y => ?_⟩
    obtain ⟨T, x, rfl, hT, rfl, hx⟩ := y
    exact hs i x σ H T (hx xs q) p hT
  · obtain rfl : i = xs.length := by omega
    exact .inl ⟨⟨xs, q, Nat.le_refl _⟩, hd σ H p⟩
def spPlInit (K : PySem.W.Frag) (C : Addr) : Sp := fun vs H Q _ => ∃ (x dx a : Addr) (L : List ARow), vs = [.ref x, .ref a] ∧ H x = some (.ins C dx []) ∧ (SqL K H a (refs L) ∨ SqT K H a (refs L)) ∧ L.length ≤ 1000 ∧ PairsAt H L ∧ (∀ r ∈ rws L, okRow r = true) ∧
  ∀ (l : List Row) (H' : Hp), (∀ c o, H c = some o → c ≠ x → H' c = some o) → IsP C H' x l → (∀ z, mem l z ↔ mem (rws L) z) → l.length ≤ L.length → Q .non H'
theorem okRow_le {r : Row} (h : okRow r = true) : r.1 ≤ r.2 := by
  unfold okRow at h
  simp only [Bool.and_eq_true, decide_eq_true_eq] at h
  exact h.2.2
section
variable {P : Program} {w : World} {K : PySem.W.Frag} {mg : Str → Option Value} {base : Heap}
theorem scC : FnScope ["stretches", "counts", "total", "first", "last"] ["stretches"] (defScope sCounts) := ⟨rfl, rfl, rfl, by decide +kernel, rfl, by decide +kernel, by decide +kernel⟩
theorem ok_counts {f C : Addr} {fd : FuncData} (F : Fun K "_counts_before" "_counts_before" sCounts f fd) (T : PTxt K mg C) : FnOk P w K mg base CX0 1 f fd ["stretches"] (spCounts K) := by
  refine F.ok scC (fun vs H Q E h => ?_) (fun cdv A outer s H vs Q E hr h => ?_)
  · obtain ⟨t, M, rfl, _⟩ := h
    rfl
  · obtain ⟨t, M, rfl, ht, hM, hlen, q⟩ := h
    have nd := scC.nd
    refine ⟨_, pss_cons (ps_set (i := 1) nd rfl (.inl rfl) (pe_lst pa_nil))
      (pss_cons (ps_set (i := 2) nd rfl (.inl rfl) pe_int)
      (pss_cons (ps_for PassesOwn.never rfl (pi_tup (pv 0)) (pg_tup rfl (pgs_cons (pg_name (i := 3) nd rfl (.inl rfl)) (pgs_cons (pg_name (i := 4) nd rfl (.inl rfl)) pgs_nil)))
        (pss_cons (ps_expr (pe_bm PySem.F.plainAttrs_list PySem.F.slot_list_append PySem.F.type_list_append mt_append (pv 1) (pa_cons (pv 2) pa_nil)))
        (pss_one (ps_set (i := 2) nd rfl (.inl rfl) (pe_op op_add (pe_op op_sub (pe_op op_add (pv 2) (pv 4)) (pv 3)) pe_int)))))
      (pss_one (ps_ret (pe_callTy call_tuple_of (by rfl) T.zTup bt_tup (pa_cons (pv 1) pa_nil)))))), ?_⟩
    refine ⟨Nat.zero_le _, fun o no => ?_⟩
    have s1 := same_lay (o := .lst []) no
    refine ⟨_, rfl, t, rfl, ⟨_, .inl (.inl (s1 _ _ ht))⟩, for_tup (K := K) (a := t) (xs := refs M) (fun i σ H' => ∃ f l, σ = [some (.ref t), some (.ref o), some (.int (tot ((rws M).take i))), f, l] ∧ H' o = some (.lst (((List.range i).map fun j => tot ((rws M).take j)).map V.int)) ∧ Fre o (upd H o (.lst [])) H')
      ⟨none, none, rfl, upd_same, Fre.refl _ _⟩ (fun i σ H' _ ⟨_, _, _, _, fr⟩ => .inl (.inl (fr _ _ (s1 _ _ ht) (ne_of_none ht no)))) ?_ ?_⟩
    · rintro i y σ H' hy ⟨f, l, rfl, ho, fr⟩
      obtain ⟨z, hz, hzM, rfl⟩ := refs_get hy
      have hil : i < M.length := (List.getElem?_eq_some_iff.mp hz).1
      have ez : H' z.1 = some (.tup [.int z.2.1, .int z.2.2]) := fr _ _ (s1 _ _ (hM z hzM)) (ne_of_none (hM z hzM) no)
      refine ⟨z.1, _, rfl, .inl (.inl ez), rfl, _, _, rfl, _, _, rfl, rfl, ?_⟩
      refine ⟨_, rfl, .inl ⟨rfl, _, .inl (.inl ho)⟩, _, rfl, o, _, _, rfl, rfl, ho, small1000 (by rw [List.length_map, List.length_map, List.length_range]; omega), ?_⟩
      refine ⟨_, rfl, _, rfl, _, _, rfl, rfl, _, rfl, _, _, rfl, rfl, _, _, rfl, rfl, ?_⟩
      have e1 : (rws M).take (i + 1) = (rws M).take i ++ [z.2] := by rw [List.take_add_one, rws_get hz]; rfl
      refine ⟨some (.int z.2.1), some (.int z.2.2), ?_, ?_, fr.trans Fre.put⟩
      · rw [e1, tot_snoc]
        rfl
      · rw [upd_same, List.range_succ, List.map_append, List.map_append]
        rfl
    · rintro σ H' ⟨f, l, rfl, ho, fr⟩
      refine ⟨_, rfl, o, _, rfl, .inl ⟨.inl (.inl ho), fun b hb => ?_⟩⟩
      have s2 := same_lay (o := .tup (((List.range (refs M).length).map fun j => tot ((rws M).take j)).map V.int)) hb
      have s3 : Same H H' := fun c u e => fr c u (s1 c u e) (ne_of_none e no)
      refine q b _ (s3.trans s2) (s3.free hb) ?_
      rw [upd_same]
      unfold befs
      rw [rws_len, refs_len]
theorem scPI : FnScope ["self", "stretches", "index", "stretch", "first", "_"] ["self", "stretches"] (defScope sPlInit) := ⟨rfl, rfl, rfl, by decide +kernel, rfl, by decide +kernel, by decide +kernel⟩
theorem ok_plinit {f C : Addr} {fd : FuncData} {dvs : List V} (F : FunD K "__init__" "Places.__init__" (defArgs sPlInit) (defBody sPlInit) (defScope sPlInit) dvs [] f fd) (T : PTxt K mg C) (S : Cl P w K mg base 3 "_is_stretch" ["value"] spIsStretchP)
    (J : Cl P w K mg base 1 "_joined" ["stretches"] (spJoined K)) (B : Cl P w K mg base 1 "_counts_before" ["stretches"] (spCounts K)) : FnOk P w K mg base CX0 4 f fd ["self", "stretches"] (spPlInit K C) := by
  refine F.ok scPI (fun vs H Q E h => ?_) (fun cdv A outer s H vs Q E hr h => ?_)
  · obtain ⟨x, dx, a, L, rfl, _⟩ := h
    rfl
  · obtain ⟨x, dx, a, L, rfl, hx, hS, hlen, hP, hok, q⟩ := h
    have nd := scPI.nd
    have hb := PSs.nox (X := cxOf CX0 P w K mg base ["self", "stretches", "index", "stretch", "first", "_"] "Places.__init__" (defScope sPlInit) f cdv A outer s H E) (st := defBody sPlInit) (pss_cons (ps_for PassesOwn.never rfl (pi_or (pi_enum (by rfl) T.zEnum (pa_cons (pv 1) pa_nil)) (pi_enumT (by rfl) T.zEnum (pa_cons (pv 1) pa_nil)))
          (pg_tup rfl (pgs_cons (pg_name (i := 2) nd rfl (.inl rfl)) (pgs_cons (pg_name (i := 3) nd rfl (.inl rfl)) pgs_nil)))
        (pss_one (ps_if (pt_not (pt_val (pe_cl S hr (by decide) (by rfl) (pa_cons (pv 3) pa_nil)))) (pss_one ps_never) pss_nil)))
      (pss_cons (ps_fld (pv 0) (pe_cl J hr (by decide) (by rfl) (pa_cons (pv 1) pa_nil)) rfl)
      (pss_cons (ps_fld (pv 0) (pe_callTy call_tuple_of (by rfl) T.zTup bt_tup (pa_cons
          (pe_lc (own := [("first", 4), ("_", 5)]) (g := gTup K 2 (gCons (gName 4) (gCons (gName 5) gNil))) (tt := tYes) rfl nd (pi_tup (pe_fld (pv 0) rfl)) (blkOk_by (N := ["self", "stretches", "index", "stretch", "first", "_"]) (sc := defScope sPlInit) (by decide +kernel))
            (fun _ _ _ _ _ => pg_tup rfl (pgs_cons (pg_name (i := 4) nd rfl (.inl rfl)) (pgs_cons (pg_name (i := 5) nd rfl (.inl rfl)) pgs_nil))) (fun _ _ _ _ _ => pts_nil) (fun _ _ _ _ _ => pv 4)) pa_nil)) rfl)
      (pss_one (ps_fld (pv 0) (pe_cl B hr (by decide) (by rfl) (pa_cons (pe_fld (pv 0) rfl) pa_nil)) rfl)))))
    refine ⟨_, hb, ?_⟩
    clear hb
    -- what follows the loop
    have after : ∀ (σ : L2.St) (H1 : Hp) (i1 s1 : Option V), σ = [some (.ref x), some (.ref a), i1, s1, none, none] → Same H H1 → (tSeq (sFld K (tVar 0) (tCall (spJoined K) [] E0 (tCons (tVar 1) tNil)) "stretches")
        (tSeq (sFld K (tVar 0) (tCB (fun xs H Q => ∃ p ys, xs = [V.ref p] ∧ ((SqL K H p ys ∧ ∀ l, H l = none → Q (.ref l) (upd H l (.tup ys))) ∨ (SqT K H p ys ∧ Q (.ref p) H))) (tCons (tLc (iTup K (tFld K (tVar 0) "stretches")) (gTup K 2 (gCons (gName 4) (gCons (gName 5) gNil))) tYes (tVar 4) [4, 5]) tNil)) "_firsts")
        (sFld K (tVar 0) (tCall (spCounts K) [] E0 (tCons (tFld K (tVar 0) "stretches") tNil)) "_before"))) { nx := fun _ H' => Q .non H', rt := Q } σ H1 := by
      rintro σ H1 i1 s1 rfl S1
      have hS1 : SqL K H1 a (refs L) ∨ SqT K H1 a (refs L) := hS.elim (fun e => .inl (S1.seq e)) fun e => .inr (sameT S1 e)
      refine ⟨_, rfl, a, L, rfl, hS1, hlen, hP.same S1, fun r hr => okRow_le (hok r hr), fun t M H2 S2 nt ht hM hnf hme hlM => ?_⟩
      have hx2 := S2 _ _ (S1 _ _ hx)
      refine ⟨_, rfl, x, C, dx, [], rfl, hx2, T.cl, T.nS, (by show 0 < 1000; decide), ?_⟩
      have ntx : t ≠ x := ne_of ht hx2 (by intro z; cases z)
      have nMx : ∀ p ∈ M, p.1 ≠ x := fun p hp => ne_of (hM p hp) hx2 (by intro z; cases z)
      -- firsts
      generalize hH3 : upd H2 x (.ins C dx (putF "stretches" (.ref t) [])) = H3
      have hx3 : H3 x = some (.ins C dx (putF "stretches" (.ref t) [])) := by rw [← hH3, upd_same]
      have ht3 : H3 t = some (.tup (refs M)) := by rw [← hH3, upd_ne ntx]; exact ht
      have hM3 : AtR H3 M := fun p hp => by rw [← hH3, upd_ne (nMx p hp)]; exact hM p hp
      have f3 : ∀ c o, H c = some o → c ≠ x → H3 c = some o := fun c o e n => by rw [← hH3, upd_ne n]; exact S2 _ _ (S1 _ _ e)
      have lk : (putF "stretches" (V.ref t) []).lookup ("stretches" : Str) = some (V.ref t) := by rw [lookup_putF, if_pos rfl]
      refine ⟨_, rfl, x, C, dx, _, _, rfl, hx3, T.cl, T.nS, lk, t, rfl, ⟨_, .inl (.inl ht3)⟩, fun D hD => lc_tup (K := K) (a := t) (xs := refs M) (fun i H4 => H4 D = some (.lst ((rws M).take i |>.map fun r => V.int r.1)) ∧ Same H3 H4)
        ⟨upd_same, same_lay hD⟩ (fun i H4 _ ⟨_, s⟩ => .inl (.inl (s _ _ ht3))) ?_ ?_⟩
      · rintro i y H4 hy ⟨hD4, s4⟩
        obtain ⟨z, hz, hzM, rfl⟩ := refs_get hy
        have hil : i < M.length := (List.getElem?_eq_some_iff.mp hz).1
        have ez := s4 _ _ (hM3 z hzM)
        refine ⟨z.1, _, rfl, .inl (.inl ez), rfl, _, _, rfl, _, _, rfl, rfl, rfl, yesT ?_⟩
        refine ⟨_, rfl, _, hD4, small1000 (by rw [List.length_map, List.length_take]; omega), ?_, same_upd s4 hD⟩
        have e1 : (rws M).take (i + 1) = (rws M).take i ++ [z.2] := by rw [List.take_add_one, rws_get hz]; rfl
        rw [upd_same, e1, List.map_append]
        rfl
      · rintro H4 ⟨hD4, s4⟩
        rw [refs_len, List.take_of_length_le (by rw [rws_len]; exact Nat.le_refl _)] at hD4
        refine ⟨D, _, rfl, .inl ⟨.inl (.inl hD4), fun f nf => ?_⟩⟩
        have s5 := same_lay (o := .tup ((rws M).map fun r => V.int r.1)) nf
        have s35 := s4.trans s5
        have hx5 := s35 _ _ hx3
        refine ⟨_, rfl, x, C, dx, _, rfl, hx5, T.cl, T.nF, (by show 1 < 1000; decide), ?_⟩
        have nfx : f ≠ x := by
          intro e
          rw [e] at nf
          rw [s4 _ _ hx3] at nf
          cases nf
        generalize hH6 : upd (upd H4 f (.tup ((rws M).map fun r => V.int r.1))) x (.ins C dx (putF "_firsts" (.ref f) (putF "stretches" (.ref t) []))) = H6
        have hx6 : H6 x = some (.ins C dx (putF "_firsts" (.ref f) (putF "stretches" (.ref t) []))) := by rw [← hH6, upd_same]
        have ht6 : H6 t = some (.tup (refs M)) := by rw [← hH6, upd_ne ntx]; exact s35 _ _ ht3
        have hM6 : AtR H6 M := fun p hp => by rw [← hH6, upd_ne (nMx p hp)]; exact s35 _ _ (hM3 p hp)
        have hf6 : H6 f = some (.tup ((rws M).map fun r => V.int r.1)) := by rw [← hH6, upd_ne nfx, upd_same]
        have f6 : ∀ c o, H c = some o → c ≠ x → H6 c = some o := fun c o e n => by rw [← hH6, upd_ne n]; exact s35 _ _ (f3 c o e n)
        have lk6 : (putF "_firsts" (V.ref f) (putF "stretches" (V.ref t) [])).lookup ("stretches" : Str) = some (V.ref t) := by
          rw [lookup_putF, if_neg (fun e => kFS e.symm), lookup_putF, if_pos rfl]
        refine ⟨_, rfl, x, C, dx, _, _, rfl, hx6, T.cl, T.nS, lk6, t, M, rfl, ht6, hM6, Nat.le_trans hlM hlen, fun b H7 s7 nb hb => ?_⟩
        have hx7 := s7 _ _ hx6
        refine ⟨_, rfl, x, C, dx, _, rfl, hx7, T.cl, T.nB, (by show 2 < 1000; decide), ?_⟩
        have nbx : b ≠ x := ne_of hb hx7 (by intro z; cases z)
        refine q (rws M) _ (fun c o e n => by rw [upd_ne n]; exact s7 _ _ (f6 c o e n)) ⟨hnf, dx, t, f, b, M, upd_same, ?_, fun p hp => ?_, rfl, ?_, ?_, Nat.le_trans hlM hlen⟩ hme (by rw [rws_len]; exact hlM)
        · rw [upd_ne ntx]; exact s7 _ _ ht6
        · rw [upd_ne (nMx p hp)]; exact s7 _ _ (hM6 p hp)
        · rw [upd_ne nfx]; exact s7 _ _ hf6
        · rw [upd_ne nbx]; exact hb
    rcases hS with hS' | hS'
    · refine .inl ⟨_, rfl, a, refs L, rfl, hS', for_enum (K := K) (a := a) (xs := refs L) (fun i σ H' => ∃ i1 s1, σ = [some (.ref x), some (.ref a), i1, s1, none, none] ∧ Same H H')
        ⟨none, none, rfl, Same.refl _⟩ (fun i σ H' _ ⟨_, _, _, s⟩ => s.seq hS') ?_ ?_⟩
      · rintro i y σ H' Tn hy ⟨i1, s1, rfl, S1⟩ hT
        obtain ⟨z, hz, hzL, rfl⟩ := refs_get hy
        have s2 := same_lay (o := .tup [.int (i : Nat), .ref z.1]) hT
        have pz := (hP.same (S1.trans s2)) z hzL
        have okz : okRow z.2 = true := hok z.2 (mem_rws.mpr ⟨z.1, hzL⟩)
        refine ⟨Tn, _, rfl, .inl (.inl upd_same), rfl, _, _, rfl, _, _, rfl, rfl, ?_⟩
        refine ⟨_, rfl, z.1, z.2, rfl, pz, fun H'' S3 => ⟨_, rfl, ?_⟩⟩
        rw [okz]
        exact iteF ⟨_, _, rfl, (S1.trans s2).trans S3⟩
      · rintro σ H' ⟨i1, s1, rfl, S1⟩
        exact after _ _ i1 s1 rfl S1
    · refine .inr ⟨_, rfl, a, refs L, rfl, hS', for_enumT (K := K) (a := a) (xs := refs L) (fun i σ H' => ∃ i1 s1, σ = [some (.ref x), some (.ref a), i1, s1, none, none] ∧ Same H H')
        ⟨none, none, rfl, Same.refl _⟩ (fun i σ H' _ ⟨_, _, _, s⟩ => sameT s hS') ?_ ?_⟩
      · rintro i y σ H' Tn hy ⟨i1, s1, rfl, S1⟩ hT
        obtain ⟨z, hz, hzL, rfl⟩ := refs_get hy
        have s2 := same_lay (o := .tup [.int (i : Nat), .ref z.1]) hT
        have pz := (hP.same (S1.trans s2)) z hzL
        have okz : okRow z.2 = true := hok z.2 (mem_rws.mpr ⟨z.1, hzL⟩)
        refine ⟨Tn, _, rfl, .inl (.inl upd_same), rfl, _, _, rfl, _, _, rfl, rfl, ?_⟩
        refine ⟨_, rfl, z.1, z.2, rfl, pz, fun H'' S3 => ⟨_, rfl, ?_⟩⟩
        rw [okz]
        exact iteF ⟨_, _, rfl, (S1.trans s2).trans S3⟩
      · rintro σ H' ⟨i1, s1, rfl, S1⟩
        exact after _ _ i1 s1 rfl S1
end
end OR

namespace OR
open PySem PySem.Spec PyProof.Rows L2
/-! ### deep data made of rows -/
def rowD (r : Row) : PyData := .tuple [.int r.1, .int r.2]
theorem dp_row {K : PySem.W.Frag} {H : Hp} {a : Addr} {r : Row} (h : H a = some (.tup [.int r.1, .int r.2])) : Dp K H (.ref a) (rowD r) := .tup (.inl (.inl h)) (.cons (.int _) (.cons (.int _) .nil))
theorem dp_rows {K : PySem.W.Frag} {H : Hp} : ∀ {L : List ARow}, AtR H L → DpAll K H (refs L) ((rws L).map rowD)
  | [], _ => .nil
  | p :: L, h => .cons (dp_row (h p List.mem_cons_self)) (dp_rows fun q hq => h q (List.mem_cons_of_mem _ hq))
theorem lay_rows : ∀ l : List Row, PyData.canLayAll0 (l.map rowD) = true
  | [] => rfl
  | r :: l => by
    show (PyData.canLay0 (rowD r) && PyData.canLayAll0 (l.map rowD)) = true
    rw [lay_rows l]
    rfl
theorem dep_rows : ∀ l : List Row, PyData.depthAll (l.map rowD) ≤ 1
  | [] => Nat.zero_le _
  | r :: l => by
    show max (PyData.depth (rowD r)) (PyData.depthAll (l.map rowD)) ≤ 1
    have := dep_rows l
    have e : PyData.depth (rowD r) = 1 := rfl
    omega
theorem shp_tup (l : List Row) : SeqAt.shaped (.tuple (l.map rowD)) = true := by
  unfold SeqAt.shaped
  rw [show PyData.canLay0 (.tuple (l.map rowD)) = true from lay_rows l, Bool.true_and]
  refine decide_eq_true ?_
  show PyData.depthAll (l.map rowD) + 1 ≤ 64
  have := dep_rows l
  omega
theorem shp_lst (l : List Row) : SeqAt.shaped (.list (l.map rowD)) = true := by
  unfold SeqAt.shaped
  rw [show PyData.canLay0 (.list (l.map rowD)) = true from lay_rows l, Bool.true_and]
  refine decide_eq_true ?_
  show PyData.depthAll (l.map rowD) + 1 ≤ 64
  have := dep_rows l
  omega
theorem eqv_row (r s : Row) : PyData.eqv (rowD r) (rowD s) = decide (r = s) := by
  show ((r.1 == s.1) && ((r.2 == s.2) && true)) = decide (r = s)
  rw [Bool.and_true]
  by_cases h : r = s
  · subst h
    simp
  · rw [decide_eq_false h]
    by_cases h1 : r.1 = s.1
    · have h2 : r.2 ≠ s.2 := fun e => h (Prod.ext h1 e)
      simp [h2]
    · simp [h1]
theorem eqv_rows : ∀ l m : List Row, PyData.eqvAll (l.map rowD) (m.map rowD) = decide (l = m)
  | [], [] => by simp [PyData.eqvAll]
  | [], _ :: _ => by simp [PyData.eqvAll]
  | _ :: _, [] => by simp [PyData.eqvAll]
  | r :: l, s :: m => by
    show (PyData.eqv (rowD r) (rowD s) && PyData.eqvAll (l.map rowD) (m.map rowD)) = decide (r :: l = s :: m)
    rw [eqv_row, eqv_rows l m]
    by_cases h1 : r = s
    · by_cases h2 : l = m
      · simp [h1, h2]
      · simp [h1, h2]
    · simp [h1]
theorem AtR.frm {H H' : Hp} {L : List ARow} {p : Addr} {n : Nat} (h : AtR H L) (f : Frm p H H') (P : Pen H p n) : AtR H' L := fun q hq => by
  obtain ⟨c, ns, k, l, hp, _⟩ := P
  exact f _ _ (h q hq) (ne_of (h q hq) hp (by intro z; cases z))
theorem Frm.free {p q : Addr} {H H' : Hp} {n : Nat} (f : Frm p H H') (P : Pen H' p n) (h : H' q = none) : H q = none := by
  obtain ⟨c, ns, k, l, hp, _⟩ := P
  cases e : H q with
  | none => rfl
  | some o =>
    by_cases ep : q = p
    · rw [ep, hp] at h
      cases h
    · rw [f q o e ep] at h
      cases h
theorem frmS {p : Addr} {H H' : Hp} (s : Same H H') : Frm p H H' := ⟨fun b o e _ => s b o e, fun c ⟨k, l, e⟩ => ⟨k, l, s _ _ e⟩⟩
theorem Pen.same' {H H' : Hp} {p : Addr} {n : Nat} (P : Pen H p n) (s : Same H H') : Pen H' p n := by
  obtain ⟨c, ns, k, l, h1, h2, h⟩ := P
  exact ⟨c, ns, k, l, s _ _ h1, s _ _ h2, h⟩
/-! ### the law's drawing of rows -/
def spSpot : Sp := fun vs H Q _ => ∃ (p : Addr) (n : Nat), vs = [.ref p] ∧ Pen H p n ∧ n ≤ 900000 ∧ ∀ (r : Int) (H' : Hp), placeB r = true → Pen H' p (n + 2) → Frm p H H' → Q (.int r) H'
def spDrawn : Sp := fun vs H Q _ => ∃ (p : Addr) (m n : Nat), vs = [.ref p, .int m] ∧ m ≤ 20 ∧ Pen H p n ∧ n ≤ 700000 ∧
  ∀ (a : Addr) (L : List ARow) (H' : Hp), H a = none → H' a = some (.lst (refs L)) → AtR H' L → (∀ r ∈ rws L, okRow r = true) → L.length ≤ m → Pen H' p (n + 1000) → Frm p H H' → Q (.ref a) H'
theorem place_of {r : Int} (h0 : 0 ≤ r) (h1 : r ≤ lastP) : placeB r = true := by
  unfold placeB
  rw [decide_eq_true h0, decide_eq_true h1]
  rfl
theorem place_iff {r : Int} (h : placeB r = true) : 0 ≤ r ∧ r ≤ lastP := by
  unfold placeB at h
  simp only [Bool.and_eq_true, decide_eq_true_eq] at h
  exact h
theorem okRow_of {a b : Int} (h0 : 0 ≤ a) (h1 : a ≤ b) (h2 : b ≤ lastP) : okRow (a, b) = true := by
  unfold okRow
  rw [place_of (r := a) h0 (Int.le_trans h1 h2), place_of (r := b) (Int.le_trans h0 h1) h2, Bool.true_and, Bool.true_and]
  exact decide_eq_true h1
theorem okRow_iff {r : Row} (h : okRow r = true) : 0 ≤ r.1 ∧ r.1 ≤ r.2 ∧ r.2 ≤ lastP := by
  unfold okRow at h
  rw [Bool.and_eq_true, Bool.and_eq_true, decide_eq_true_eq] at h
  exact ⟨(place_iff h.1).1, h.2.2, (place_iff h.2.1).2⟩
structure Bd (mg : Str → Option Value) : Prop where
  range : mg "range" = none
  min : mg "min" = none
  max : mg "max" = none
  int : mg "int" = none
  len : mg "len" = none
  list : mg "list" = none
  set : mg "set" = none
  sorted : mg "sorted" = none
section
variable {P : Program} {w : World} {K : PySem.W.Frag} {mg : Str → Option Value} {base : Heap}
theorem scSpot : FnScope ["_law_pen_here", "_law_way"] ["_law_pen_here"] (defScope sSpot) := ⟨rfl, rfl, rfl, by decide +kernel, rfl, by decide +kernel, by decide +kernel⟩
theorem ok_spot {f : Addr} {fd : FuncData} (F : Fun K "_law_spot" "_law_spot" sSpot f fd) (D : Cl P w K mg base 1 "_law_draw" ["_law_pen_here", "_law_many"] spDraw) : FnOk P w K mg base CX0 2 f fd ["_law_pen_here"] spSpot := by
  refine F.ok scSpot (fun vs H Q E h => ?_) (fun cdv A outer s H vs Q E hr h => ?_)
  · obtain ⟨p, n, rfl, _⟩ := h
    rfl
  · obtain ⟨p, n, rfl, hP, hn, q⟩ := h
    have nd := scSpot.nd
    refine ⟨_, pss_cons (ps_set (i := 1) nd rfl (.inl rfl) (pe_cl D hr (by decide) (by rfl) (pa_cons (pv 0) (pa_cons pe_int pa_nil))))
      (pss_cons (ps_if (pt_cmpR op_lt (pv 1) pe_int (nomark _)) (pss_one (ps_ret (pe_cl D hr (by decide) (by rfl) (pa_cons (pv 0) (pa_cons (pe_ix ix_list (pe_lst (pa_cons pe_int (pa_cons pe_int pa_nil))) (pv 1) (fun _ _ => rfl)) pa_nil))))) pss_nil)
      (pss_cons (ps_if (pt_cmpR op_eq (pv 1) pe_int (nomark _)) (pss_one (ps_ret (pe_cl D hr (by decide) (by rfl) (pa_cons (pv 0) (pa_cons (pe_op op_add (pe_op op_pow pe_int pe_int) pe_int) pa_nil))))) pss_nil)
      (pss_one (ps_ret (pe_ifExp (pt_cmpR op_eq (pv 1) pe_int (nomark _)) (pe_op op_sub (pe_op op_pow pe_int pe_int) (pe_cl D hr (by decide) (by rfl) (pa_cons (pv 0) (pa_cons pe_int pa_nil))))
        (pe_op op_add (pe_op op_pow pe_int pe_int) (pe_cl D hr (by decide) (by rfl) (pa_cons (pv 0) (pa_cons pe_int pa_nil))))))))), ?_⟩
    have hpow : CPow 10 30 := ⟨by decide, by decide, by decide⟩
    have hpow15 : CPow 10 15 := ⟨by decide, by decide, by decide⟩
    have eL : lastP = 10 ^ 30 := rfl
    refine ⟨_, rfl, p, 5, n, rfl, by decide, by decide, hP, by omega, fun way H1 w0 w5 P1 F1 => ?_⟩
    refine ⟨_, rfl, _, _, rfl, rfl, _, rfl, ite2 (fun c => ?_) (fun _ => ?_)⟩
    · have hw : way < 2 := of_decide_eq_true c
      refine ⟨_, rfl, by show 2 ≤ sizeLine; decide, fun l hl => ?_⟩
      obtain ⟨m, hm, hm0, hm1⟩ : ∃ m : Int, atI [V.int 9, V.int 60] way = some (.int m) ∧ 0 < m ∧ m ≤ 60 := by
        have : way = 0 ∨ way = 1 := by omega
        rcases this with e | e <;> subst e
        · exact ⟨9, atI_nat (j := 0) rfl, by decide, by decide⟩
        · exact ⟨60, atI_nat (j := 1) rfl, by decide, by decide⟩
      have hmb : m.natAbs < 2 ^ 200 := Nat.lt_of_le_of_lt (show m.natAbs ≤ 60 by omega) (by decide)
      refine ⟨_, rfl, l, _, way, _, rfl, rfl, .inl (.inl upd_same), hm, p, m, n + 1, rfl, hm0, hmb, P1.new hl, by omega, fun r H2 r0 r1 P2 F2 => ?_⟩
      exact q r H2 (place_of r0 (by rw [eL]; omega)) P2 (F1.trans ((Frm.new hl).trans F2))
    refine ⟨_, rfl, rfl, _, rfl, ite2 (fun _ => ?_) (fun _ => ?_)⟩
    · refine ⟨_, rfl, _, _, rfl, rfl, hpow, _, _, rfl, rfl, p, _, n + 1, rfl, by decide, by decide, P1, by omega, fun r H2 r0 r1 P2 F2 => ?_⟩
      have r1' : r < 10 ^ 30 + 1 := r1
      exact q r H2 (place_of r0 (by rw [eL]; omega)) P2 (F1.trans F2)
    refine ⟨_, rfl, rfl, _, rfl, ite2 (fun _ => ?_) (fun _ => ?_)⟩
    · refine ⟨_, _, rfl, rfl, hpow, _, rfl, p, 9, n + 1, rfl, by decide, by decide, P1, by omega, fun r H2 r0 r1 P2 F2 => ⟨_, _, rfl, rfl, ?_⟩⟩
      refine q _ H2 (place_of ?_ ?_) P2 (F1.trans F2)
      · show (0 : Int) ≤ 10 ^ 30 - r
        omega
      · show (10 : Int) ^ 30 - r ≤ 10 ^ 30
        omega
    · refine ⟨_, _, rfl, rfl, hpow15, _, rfl, p, 99, n + 1, rfl, by decide, by decide, P1, by omega, fun r H2 r0 r1 P2 F2 => ⟨_, _, rfl, rfl, ?_⟩⟩
      refine q _ H2 (place_of ?_ ?_) P2 (F1.trans F2)
      · show (0 : Int) ≤ 10 ^ 15 + r
        omega
      · show (10 : Int) ^ 15 + r ≤ 10 ^ 30
        omega
theorem scDn : FnScope ["_law_pen_here", "_law_most", "_law_found", "_law_k", "_law_first", "_law_size"] ["_law_pen_here", "_law_most"] (defScope sDrawn) := ⟨rfl, rfl, rfl, by decide +kernel, rfl, by decide +kernel, by decide +kernel⟩
theorem ok_drawn {f : Addr} {fd : FuncData} (F : Fun K "_law_drawn" "_law_drawn" sDrawn f fd) (B : Bd mg) (D : Cl P w K mg base 1 "_law_draw" ["_law_pen_here", "_law_many"] spDraw) (C : Cl P w K mg base 2 "_law_pick" ["_law_pen_here", "_law_items"] (spPick K))
    (S : Cl P w K mg base 2 "_law_spot" ["_law_pen_here"] spSpot) : FnOk P w K mg base CX0 3 f fd ["_law_pen_here", "_law_most"] spDrawn := by
  refine F.ok scDn (fun vs H Q E h => ?_) (fun cdv A outer s H vs Q E hr h => ?_)
  · obtain ⟨p, m, n, rfl, _⟩ := h
    rfl
  · obtain ⟨p, m, n, rfl, hm, hP, hn, q⟩ := h
    have nd := scDn.nd
    have hu64 : (A.deeper (envOfC "_law_drawn" (defScope sDrawn) s.heap.objs.size f cdv)).units + 64 < cLine := hr.units
    refine ⟨_, pss_cons (ps_set (i := 2) nd rfl (.inl rfl) (pe_lst pa_nil))
      (pss_cons (ps_for PassesOwn.never rfl (pi_range1 (by rfl) B.range (pa_cons (pe_cl D hr (by decide) (by rfl) (pa_cons (pv 0) (pa_cons (pe_op op_add (pv 1) pe_int) pa_nil))) pa_nil)) (pg_name (i := 3) nd rfl (.inl rfl))
        (pss_cons (ps_set (i := 4) nd rfl (.inl rfl) (pe_cl S hr (by decide) (by rfl) (pa_cons (pv 0) pa_nil)))
        (Evl.pss_cut (ps_if (PW.pt (pw_and (pt_cmpR (op_neD hu64) (pv 2) (pe_lst pa_nil) (nomark _)) (pw_and1 (pt_cmpR op_eq (pe_cl D hr (by decide) (by rfl) (pa_cons (pv 0) (pa_cons pe_int pa_nil))) pe_int (nomark _)))))
          (pss_one (ps_set (i := 4) nd rfl (.inl rfl) (pe_callB (call_min2 rfl) (by rfl) B.min bt_min (pa_cons (pe_op op_pow pe_int pe_int) (pa_cons (pe_callTy call_int1 (by rfl) B.int bt_int (pa_cons
            (pe_op op_add (pe_ix ix_tup (pe_cl C hr (by decide) (by rfl) (pa_cons (pv 0) (pa_cons (pv 2) pa_nil))) pe_int (fun _ _ => rfl)) (pe_cl C hr (by decide) (by rfl) (pa_cons (pv 0) (pa_cons (pe_lst (pa_cons pe_int (pa_cons pe_int (pa_cons pe_int (pa_cons pe_int (pa_cons pe_int pa_nil)))))) pa_nil)))) pa_nil)) pa_nil))))) pss_nil)
        (pss_cons (ps_set (i := 5) nd rfl (.inl rfl) (pe_cl C hr (by decide) (by rfl) (pa_cons (pv 0) (pa_cons (pe_lst (pa_cons pe_int (pa_cons pe_int (pa_cons pe_int (pa_cons pe_int (pa_cons (pe_cl D hr (by decide) (by rfl) (pa_cons (pv 0) (pa_cons pe_int pa_nil)))
            (pa_cons (pe_cl D hr (by decide) (by rfl) (pa_cons (pv 0) (pa_cons (pe_op op_pow pe_int pe_int) pa_nil))) pa_nil))))))) pa_nil))))
        (pss_one (ps_expr (pe_bm PySem.F.plainAttrs_list PySem.F.slot_list_append PySem.F.type_list_append mt_append (pv 2) (pa_cons (pe_tup (pa_cons (pv 4) (pa_cons (pe_callB (call_min2 rfl) (by rfl) B.min bt_min (pa_cons (pe_op op_pow pe_int pe_int)
            (pa_cons (pe_callTy call_int1 (by rfl) B.int bt_int (pa_cons (pe_op op_add (pv 4) (pv 5)) pa_nil)) pa_nil))) pa_nil))) pa_nil))))))))
      (pss_one (ps_ret (pv 2)))), ?_⟩
    have hpow : CPow 10 30 := ⟨by decide, by decide, by decide⟩
    have eL : lastP = 10 ^ 30 := rfl
    obtain ⟨c0, hc0, hcn⟩ := hP.cells
    refine ⟨Nat.zero_le _, fun a0 na => ?_⟩
    have nca0 : c0 ≠ a0 := fun e => hcn (by rw [e]; exact na)
    have P0 := hP.new (o := .lst []) na
    refine ⟨_, rfl, _, rfl, _, _, rfl, rfl, p, _, n, rfl, by omega, Nat.lt_of_le_of_lt (show ((m : Int) + 1).natAbs ≤ 21 by omega) (by decide), P0, by omega, fun r H1 r0 r1 P1 F1 => ?_⟩
    have a1 : H1 a0 = some (.lst []) := F1.lst P0 upd_same
    refine ⟨r, rfl, by omega, by omega, for_range (n := r.toNat) (fun i σ H' => ∃ s3 s4 s5, ∃ L : List ARow, σ = [some (.ref p), some (.int m), some (.ref a0), s3, s4, s5] ∧ H' a0 = some (.lst (refs L)) ∧ AtR H' L ∧ (∀ r ∈ rws L, okRow r = true) ∧ L.length = i ∧ Pen H' p (n + 1 + 20 * i) ∧ Frm p H H')
      ⟨none, none, none, [], rfl, a1, (fun _ z => nomatch z), (fun _ z => nomatch z), rfl, P1, (Frm.new na).trans F1⟩ ?_ ?_⟩
    · rintro i σ H' hi ⟨s3, s4, s5, L, rfl, ha, hA, hok, hlen, hPn, hF⟩
      have hi20 : i < 20 := by omega
      -- first
      refine ⟨_, rfl, p, _, rfl, hPn, by omega, fun fst H2 hf P2 F2 => ?_⟩
      have ha2 : H2 a0 = some (.lst (refs L)) := F2.lst hPn ha
      have hA2 := hA.frm F2 hPn
      have hF2 := hF.trans F2
      refine ⟨fun σ'' H'' => ∃ fst : Int, σ'' = [some (.ref p), some (.int m), some (.ref a0), some (.int (0 + i)), some (.int fst), s5] ∧ placeB fst = true ∧ H'' a0 = some (.lst (refs L)) ∧ AtR H'' L ∧ Pen H'' p (n + 1 + 20 * i + 5) ∧ Frm p H H'', ?_, ?_⟩
      · refine ⟨_, rfl, Nat.zero_le _, fun e he => ?_⟩
        have se := same_lay (o := .lst []) he
        have ha3 := se _ _ ha2
        have hA3 := hA2.same se
        have P3 := P2.same' se
        have hF3 := hF2.trans (frmS se)
        refine ⟨.list ((rws L).map rowD), .list [], .lst (.inl (.inl ha3)) (dp_rows hA3), .lst (.inl (.inl upd_same)) .nil, shp_lst _, rfl, _, rfl, ?_⟩
        refine ite2 (fun hne => ?_) (fun _ => iteF ⟨fst, rfl, hf, ha3, hA3, P3.mono (by omega), hF3⟩)
        have hL0 : 0 < L.length := by
          cases L with
          | nil => exact absurd hne (by decide)
          | cons _ _ => exact Nat.succ_pos _
        refine ⟨_, rfl, p, 2, _, rfl, by decide, by decide, P3, by omega, fun c H4 _ _ P4 F4 => ?_⟩
        have ha4 : H4 a0 = some (.lst (refs L)) := F4.lst P3 ha3
        have hA4 := hA3.frm F4 P3
        have hF4 := hF3.trans F4
        refine ⟨rfl, _, rfl, ite2 (fun _ => ?_) (fun _ => ⟨fst, rfl, hf, ha4, hA4, P4.mono (by omega), hF4⟩)⟩
        refine ⟨_, _, rfl, rfl, hpow, _, rfl, _, rfl, p, a0, refs L, _, rfl, .inl (.inl ha4), by rw [refs_len]; exact hL0, by rw [refs_len]; omega, P4, by omega, fun v H5 hv P5 F5 => ?_⟩
        obtain ⟨z, hz, rfl⟩ := List.mem_map.mp hv
        have ha5 : H5 a0 = some (.lst (refs L)) := F5.lst P4 ha4
        have hA5 := hA4.frm F5 P4
        have okz := okRow_iff (hok z.2 (mem_rws.mpr ⟨z.1, hz⟩))
        refine ⟨z.1, _, 1, .int z.2.2, rfl, rfl, .inl (.inl (hA5 z hz)), atI_nat (j := 1) rfl, _, rfl, by show 5 ≤ sizeLine; decide, fun l2 hl2 => ?_⟩
        refine ⟨p, l2, _, _, rfl, .inl (.inl upd_same), by show 0 < 5; decide, by show 5 ≤ 1000; decide, P5.new hl2, by omega, fun v2 H6 hv2 P6 F6 => ?_⟩
        obtain ⟨j, rfl, hj0, hj1⟩ : ∃ j : Int, v2 = .int j ∧ 0 ≤ j ∧ j ≤ 3 := by
          simp only [List.mem_cons, List.not_mem_nil, or_false] at hv2
          rcases hv2 with e | e | e | e | e <;> subst e <;> exact ⟨_, rfl, by decide, by decide⟩
        have s2 := same_lay (o := .lst [.int 0, .int 1, .int 1, .int 2, .int 3]) hl2
        have ha6 : H6 a0 = some (.lst (refs L)) := F6.lst (P5.new hl2) (s2 _ _ ha5)
        refine ⟨_, _, rfl, rfl, .inl ⟨_, rfl, _, _, rfl, ?_⟩⟩
        refine ⟨_, rfl, place_of ?_ ?_, ha6, (hA5.same s2).frm F6 (P5.new hl2), P6.mono (by omega), ((hF4.trans F5).trans (frmS s2)).trans F6⟩
        · show (0 : Int) ≤ (if z.2.2 + j < 10 ^ 30 then z.2.2 + j else 10 ^ 30)
          split <;> omega
        · show (if z.2.2 + j < 10 ^ 30 then z.2.2 + j else 10 ^ 30) ≤ (10 : Int) ^ 30
          split <;> omega
      clear hf ha2 hA2 hF2 F2 P2
      rintro σ'' H3 ⟨fst, rfl, hf, ha3, hA3, P3, hF3⟩
      -- size
      refine ⟨_, rfl, _, rfl, p, 9, _, rfl, by decide, by decide, P3, by omega, fun r1 H4 h10 _ P4 F4 => ?_⟩
      refine ⟨_, rfl, _, _, rfl, rfl, hpow, p, _, _, rfl, by decide, by decide, P4, by omega, fun r2 H5 h20 _ P5 F5 => ?_⟩
      refine ⟨by show 6 ≤ sizeLine; decide, fun l hl => ?_⟩
      refine ⟨p, l, _, _, rfl, .inl (.inl upd_same), by show 0 < 6; decide, by show 6 ≤ 1000; decide, P5.new hl, by omega, fun v H6 hv P6 F6 => ?_⟩
      obtain ⟨sz, rfl, hsz⟩ : ∃ sz : Int, v = .int sz ∧ 0 ≤ sz := by
        simp only [List.mem_cons, List.not_mem_nil, or_false] at hv
        rcases hv with e | e | e | e | e | e <;> subst e <;> exact ⟨_, rfl, by omega⟩
      have sl := same_lay (o := .lst [.int 0, .int 0, .int 1, .int 2, .int r1, .int r2]) hl
      have FF : Frm p H3 H6 := ((F4.trans F5).trans (frmS sl)).trans F6
      have ha6 : H6 a0 = some (.lst (refs L)) := FF.lst P3 ha3
      have hA6 := hA3.frm FF P3
      have hf2 := place_iff hf
      have hfe : fst ≤ 10 ^ 30 := hf2.2
      refine ⟨_, rfl, .inl ⟨rfl, _, .inl (.inl ha6)⟩, _, rfl, _, _, rfl, rfl, hpow, _, rfl, _, rfl, _, _, rfl, rfl, .inl ⟨_, rfl, _, _, rfl, by show 2 ≤ sizeLine; decide, fun T hT => ?_⟩⟩
      have sT := same_lay (o := .tup [.int fst, .int (if fst + sz < 10 ^ (30 : Int).toNat then fst + sz else 10 ^ (30 : Int).toNat)]) hT
      have nTa : T ≠ a0 := by
        intro e
        rw [e, ha6] at hT
        cases hT
      refine ⟨a0, _, _, rfl, rfl, sT _ _ ha6, small1000 (by rw [refs_len]; omega), ?_⟩
      have nLa : ∀ q ∈ L, q.1 ≠ a0 := fun q hq => ne_of (hA6 q hq) ha6 (by intro z; cases z)
      refine ⟨_, _, _, L ++ [(T, (fst, if fst + sz < 10 ^ (30 : Int).toNat then fst + sz else 10 ^ (30 : Int).toNat))], rfl, by rw [upd_same, refs_snoc], ?_, ?_, by rw [List.length_append, hlen]; rfl, ?_, ?_⟩
      · intro q hq
        rcases List.mem_append.mp hq with k | k
        · rw [upd_ne (nLa q k)]; exact sT _ _ (hA6 q k)
        · rw [List.mem_singleton.mp k, upd_ne nTa, upd_same]
      · intro x hx
        rw [rws_snoc] at hx
        rcases List.mem_append.mp hx with k | k
        · exact hok x k
        · rw [List.mem_singleton.mp k]
          refine okRow_of hf2.1 ?_ ?_
          · show fst ≤ (if fst + sz < 10 ^ 30 then fst + sz else 10 ^ 30)
            split <;> omega
          · show (if fst + sz < 10 ^ 30 then fst + sz else 10 ^ 30) ≤ (10 : Int) ^ 30
            split <;> omega
      · exact ((P6.same' sT).put (((hF3.trans FF).trans (frmS sT)).ce c0 hc0) (sT _ _ ha6) nca0).mono (by omega)
      · refine ⟨fun b o e nb => ?_, fun c hc => ?_⟩
        · rw [upd_ne (ne_of_none e na)]
          exact sT _ _ (FF _ _ (hF3 _ _ e nb) nb)
        · obtain ⟨k, l', e⟩ := ((hF3.trans FF).trans (frmS sT)).ce c hc
          exact ⟨k, l', by rw [upd_ne (ne_of e (sT _ _ ha6) (by intro z; cases z))]; exact e⟩
    · rintro σ H' ⟨s3, s4, s5, L, rfl, ha, hA, hok, hl, hPn, hF⟩
      exact ⟨_, rfl, q a0 L H' na ha hA hok (by omega) (hPn.mono (by omega)) hF⟩
end
end OR

namespace OR
open PySem PySem.Spec PyProof.Rows L2
/-! ### the law's own merging -/
theorem bt_set : bootBuiltins ("set" : Str) = some (.type "set") := by decide +kernel
theorem ok_of_mem {l m : List Row} (hn : Nf m) (h : ∀ x, mem m x ↔ mem l x) (hl : ∀ r ∈ l, okRow r = true) : ∀ r ∈ m, okRow r = true := fun r hr => by
  have hle := hn.ok r hr
  obtain ⟨q1, hq1, a1, b1⟩ := (h r.1).mp ⟨r, hr, Int.le_refl _, hle⟩
  obtain ⟨q2, hq2, a2, b2⟩ := (h r.2).mp ⟨r, hr, hle, Int.le_refl _⟩
  have o1 := okRow_iff (hl q1 hq1)
  have o2 := okRow_iff (hl q2 hq2)
  exact okRow_of (a := r.1) (b := r.2) (by omega) hle (by omega)
theorem call_setO {X : Cx} (K : PySem.W.Frag) (P : Program) (w : World) (hK : X.K = K) (hP : X.prog = P) (hw : X.w = w) (hc : X.calm = true) (hu : X.A.units + 64 < cLine) : CallR X (.type "set") (rSetOfT K P w) := by
  subst hK hP hw
  exact cr_setOfT hc hu
def spMerged (K : PySem.W.Frag) : Sp := fun vs H Q _ => ∃ (a : Addr) (L : List ARow), vs = [.ref a] ∧ SqL K H a (refs L) ∧ AtR H L ∧ (∀ r ∈ rws L, okRow r = true) ∧ L.length < 64 ∧
  ∀ (o : Addr) (M : List ARow) (H' : Hp), Same H H' → H o = none → H' o = some (.lst (refs M)) → AtR H' M → Nf (rws M) → (∀ x, mem (rws M) x ↔ mem (rws L) x) → M.length < 64 → Q (.ref o) H'
/-- an arrangement of some of the rows, as lists of integers -/
def ilist (L : List ARow) : List (Addr × List Int) := L.map fun p => (p.1, [p.2.1, p.2.2])
theorem refs_ilist (L : List ARow) : (ilist L).map (fun p => V.ref p.1) = refs L := by
  unfold ilist refs
  rw [List.map_map]
  rfl
theorem of_ilist : ∀ {L' : List (Addr × List Int)} {L : List ARow}, (∀ q ∈ L', q ∈ ilist L) → ∃ S : List ARow, L' = ilist S ∧ ∀ p ∈ S, p ∈ L
  | [], _, _ => ⟨[], rfl, fun _ z => nomatch z⟩
  | q :: L', L, h => by
    obtain ⟨S, e, hS⟩ := of_ilist (L' := L') (L := L) fun z hz => h z (List.mem_cons_of_mem _ hz)
    have hq := h q List.mem_cons_self
    unfold ilist at hq
    obtain ⟨p, hp, rfl⟩ := List.mem_map.mp hq
    refine ⟨p :: S, by rw [e]; rfl, fun z hz => ?_⟩
    rcases List.mem_cons.mp hz with k | k
    · rw [k]; exact hp
    · exact hS z k
theorem bd_row {r : Row} (h : okRow r = true) : TS.Bd (lastP + 1) [r.1, r.2] := fun m hm => by
  have o := okRow_iff h
  simp only [List.mem_cons, List.not_mem_nil, or_false] at hm
  rcases hm with rfl | rfl <;> constructor <;> omega
section
variable {P : Program} {w : World} {K : PySem.W.Frag} {mg : Str → Option Value} {base : Heap}
theorem scMg : FnScope ["_law_rows", "_law_found", "_law_first", "_law_last", "_law_before"] ["_law_rows"] (defScope sMerged) := ⟨rfl, rfl, rfl, by decide +kernel, rfl, by decide +kernel, by decide +kernel⟩
theorem ok_merged {f : Addr} {fd : FuncData} (F : Fun K "_law_merged" "_law_merged" sMerged f fd) (B : Bd mg) : FnOk P w K mg base CX0 1 f fd ["_law_rows"] (spMerged K) := by
  refine F.ok scMg (fun vs H Q E h => ?_) (fun cdv A outer s H vs Q E hr h => ?_)
  · obtain ⟨a, L, rfl, _⟩ := h
    rfl
  · obtain ⟨a, L, rfl, hS, hA0, hok, hlen, q⟩ := h
    have nd := scMg.nd
    have hu64 : (A.deeper (envOfC "_law_merged" (defScope sMerged) s.heap.objs.size f cdv)).units + 64 < cLine := hr.units
    refine ⟨_, pss_cons (ps_set (i := 1) nd rfl (.inl rfl) (pe_lst pa_nil))
      (pss_cons (ps_for PassesOwn.never rfl (pi_list (pe_callB (cr_sortedT rfl) (by rfl) B.sorted bt_sorted (pa_cons (pe_callTy (call_setO K P w rfl rfl rfl rfl hu64) (by rfl) B.set bt_set (pa_cons (pv 0) pa_nil)) pa_nil)))
          (pg_tup rfl (pgs_cons (pg_name (i := 2) nd rfl (.inl rfl)) (pgs_cons (pg_name (i := 3) nd rfl (.inl rfl)) pgs_nil)))
        (pss_one (ps_if (PW.pt (pw_and (pt_cmpR (op_neD hu64) (pv 1) (pe_lst pa_nil) (nomark _)) (pw_and1 (pt_cmpR op_le (pv 2) (pe_op op_add (pe_ix ix_tup (pe_ix ix_list (pv 1) (pe_un un_neg pe_int) (fun _ _ => rfl)) pe_int (fun _ _ => rfl)) pe_int) (nomark _)))))
          (pss_cons (ps_set (i := 4) nd rfl (.inl rfl) (pe_bm0 PySem.F.plainAttrs_list PySem.F.slot_list_pop PySem.F.type_list_pop mt_pop (pv 1)))
          (pss_one (ps_expr (pe_bm PySem.F.plainAttrs_list PySem.F.slot_list_append PySem.F.type_list_append mt_append (pv 1) (pa_cons (pe_tup (pa_cons (pe_ix ix_tup (pv 4) pe_int (fun _ _ => rfl))
              (pa_cons (pe_callB (call_max2 rfl) (by rfl) B.max bt_max (pa_cons (pe_callTy call_int1 (by rfl) B.int bt_int (pa_cons (pe_ix ix_tup (pv 4) pe_int (fun _ _ => rfl)) pa_nil)) (pa_cons (pe_callTy call_int1 (by rfl) B.int bt_int (pa_cons (pv 3) pa_nil)) pa_nil))) pa_nil))) pa_nil)))))
          (pss_one (ps_expr (pe_bm PySem.F.plainAttrs_list PySem.F.slot_list_append PySem.F.type_list_append mt_append (pv 1) (pa_cons (pe_tup (pa_cons (pv 2) (pa_cons (pv 3) pa_nil))) pa_nil)))))))
      (pss_one (ps_ret (pv 1)))), ?_⟩
    refine ⟨Nat.zero_le _, fun o no => ?_⟩
    have S1 := same_lay (o := .lst []) no
    have hA1 := hA0.same S1
    refine ⟨_, rfl, a, ilist L, rfl, by rw [refs_ilist]; exact S1.seq hS, fun p hp => ?_, by unfold ilist; rw [List.length_map]; exact hlen, fun u L1 nu h1 h2 => ?_⟩
    · unfold ilist at hp
      obtain ⟨z, hz, rfl⟩ := List.mem_map.mp hp
      exact .inl (.inl (hA1 z hz))
    have S2 := S1.trans (same_lay (o := SetTO P w u L1) nu)
    have hA2 := hA0.same S2
    obtain ⟨Z, rfl, hZ⟩ := of_ilist h1
    refine ⟨u, ilist Z, 2, lastP + 1, rfl, upd_same, fun p hp => ?_, by decide, fun p hp => ?_, fun L' d hperm hnd hlt hsort nd2 => ?_⟩
    · unfold ilist at hp
      obtain ⟨z, hz, rfl⟩ := List.mem_map.mp hp
      exact .inl (.inl (hA2 z (hZ z hz)))
    · unfold ilist at hp
      obtain ⟨z, hz, rfl⟩ := List.mem_map.mp hp
      exact ⟨rfl, bd_row (hok z.2 (mem_rws.mpr ⟨z.1, hZ z hz⟩))⟩
    obtain ⟨S, rfl, hSL⟩ := of_ilist (L := L) fun y hy => h1 y (hperm.mem_iff.mp hy)
    have S3 := S2.trans (same_lay (o := .lst ((ilist S).map fun q => V.ref q.1)) nd2)
    have hSA : AtR (upd (upd (upd H o (.lst [])) u (SetTO P w u (ilist Z))) d (.lst ((ilist S).map fun q => V.ref q.1))) S := fun p hp => S3 _ _ (hA0 p (hSL p hp))
    have hSlen : S.length < 64 := by
      unfold ilist at hlt
      rw [List.length_map] at hlt
      exact hlt
    have hSm : ∀ r, r ∈ rws S ↔ r ∈ rws L := fun r => by
      constructor
      · intro hr
        obtain ⟨a', ha'⟩ := mem_rws.mp hr
        exact mem_rws.mpr ⟨a', hSL _ ha'⟩
      · intro hr
        obtain ⟨a', ha'⟩ := mem_rws.mp hr
        have k1 := h2 (a', [r.1, r.2]) (by unfold ilist; exact List.mem_map.mpr ⟨(a', r), ha', rfl⟩)
        obtain ⟨y, hy, e⟩ := List.mem_map.mp k1
        have hy2 := hperm.mem_iff.mpr hy
        unfold ilist at hy2
        obtain ⟨z, hz, rfl⟩ := List.mem_map.mp hy2
        injection e with e1 e2
        injection e2 with e2 _
        exact mem_rws.mpr ⟨z.1, by rw [← Prod.ext e1 e2]; exact hz⟩
    have hso : (rws S).Pairwise fun r s => r.1 ≤ s.1 := by
      unfold ilist at hsort
      have := List.pairwise_map.mp hsort
      unfold rws
      refine List.pairwise_map.mpr (List.Pairwise.imp_of_mem (fun {x y} hx hy hxy => ?_) this)
      exact code_first (bd_row (hok x.2 ((hSm x.2).mp (mem_rws.mpr ⟨x.1, hx⟩)))) (bd_row (hok y.2 ((hSm y.2).mp (mem_rws.mpr ⟨y.1, hy⟩)))) hxy
    have hSok : ∀ r ∈ rws S, r.1 ≤ r.2 := fun r hr => okRow_le (hok r ((hSm r).mp hr))
    obtain ⟨hnf, hme⟩ := jfold_ok hSok hso
    rw [refs_ilist] at S3 hSA ⊢
    generalize hH5 : upd (upd (upd H o (.lst [])) u (SetTO P w u (ilist Z))) d (.lst (refs S)) = H5
    rw [hH5] at S3 hSA
    have nuo : o ≠ u := ne_of_none upd_same nu
    have nod : o ≠ d := by
      intro e
      rw [← e, upd_ne nuo, upd_same] at nd2
      cases nd2
    have ho5 : H5 o = some (.lst []) := by rw [← hH5, upd_ne nod, upd_ne nuo, upd_same]
    have hd5 : H5 d = some (.lst (refs S)) := by rw [← hH5, upd_same]
    have two : 2 ≤ sizeLine := by decide
    refine ⟨d, rfl, ⟨_, .inl (.inl hd5)⟩, for_list (K := K) (a := d) (xs := refs S) (fun i σ H' => ∃ f l b, ∃ A : List ARow, σ = [some (.ref a), some (.ref o), f, l, b] ∧ H' o = some (.lst (refs A)) ∧ AtR H' A ∧ rws A = (((rws S).take i).foldl jstep []).reverse ∧ Fre o H5 H' ∧ A.length ≤ i)
      ⟨none, none, none, [], rfl, ho5, (fun _ z => nomatch z), rfl, Fre.refl _ _, Nat.le_refl _⟩ (fun i σ H' _ ⟨_, _, _, _, _, _, _, _, fr, _⟩ => .inl (.inl (fr _ _ hd5 nod.symm))) ?_ ?_⟩
    · rintro i y σ H' hy ⟨f, l, b, A, rfl, hoA, hA, eA, fr, hAl⟩
      obtain ⟨z, hz, hzS, rfl⟩ := refs_get hy
      have hil : i < S.length := (List.getElem?_eq_some_iff.mp hz).1
      have ez : H' z.1 = some (.tup [.int z.2.1, .int z.2.2]) := fr _ _ (hSA z hzS) (ne_of (hSA z hzS) ho5 (by intro q; cases q))
      have e1 : ((rws S).take (i + 1)).foldl jstep [] = jstep (((rws S).take i).foldl jstep []) z.2 := by
        rw [List.take_add_one, rws_get hz, List.foldl_append]
        rfl
      have nAo : ∀ q ∈ A, q.1 ≠ o := fun q hq => ne_of (hA q hq) hoA (by intro w; cases w)
      refine ⟨z.1, _, rfl, .inl (.inl ez), rfl, _, _, rfl, _, _, rfl, rfl, ?_⟩
      -- found != []
      refine ⟨_, rfl, Nat.zero_le _, fun v hv => ?_⟩
      have sv := same_lay (o := .lst []) hv
      have hoV := sv _ _ hoA
      have hAV := hA.same sv
      have frV : Fre o H5 (upd H' v (.lst [])) := fr.trans fun b u e _ => sv b u e
      refine ⟨.list ((rws A).map rowD), .list [], .lst (.inl (.inl hoV)) (dp_rows hAV), .lst (.inl (.inl upd_same)) .nil, shp_lst _, rfl, _, rfl, ?_⟩
      generalize hHv : upd H' v (.lst []) = Hv
      rw [hHv] at hoV hAV frV
      have nAv : ∀ q ∈ A, q.1 ≠ o := nAo
      have alen : (refs A).length < sizeLine := small1000 (by rw [refs_len]; omega)
      have app : ∀ (b' : Option V) (_ : jstep (((rws S).take i).foldl jstep []) z.2 = z.2 :: ((rws S).take i).foldl jstep []) (T : Addr), Hv T = none →
          ∃ f' l' b'', ∃ A' : List ARow, [some (V.ref a), some (.ref o), some (.int z.2.1), some (.int z.2.2), b'] = [some (.ref a), some (.ref o), f', l', b''] ∧ (upd (upd Hv T (.tup [.int z.2.1, .int z.2.2])) o (.lst (refs A ++ [.ref T]))) o = some (.lst (refs A')) ∧ AtR (upd (upd Hv T (.tup [.int z.2.1, .int z.2.2])) o (.lst (refs A ++ [.ref T]))) A' ∧
            rws A' = (((rws S).take (i + 1)).foldl jstep []).reverse ∧ Fre o H5 (upd (upd Hv T (.tup [.int z.2.1, .int z.2.2])) o (.lst (refs A ++ [.ref T]))) ∧ A'.length ≤ i + 1 := by
        intro b' hj Tn hT
        have s4 := same_lay (o := .tup [.int z.2.1, .int z.2.2]) hT
        have noT : Tn ≠ o := by
          intro e
          rw [e, hoV] at hT
          cases hT
        refine ⟨_, _, _, A ++ [(Tn, z.2)], rfl, by rw [upd_same, refs_snoc], ?_, ?_, (frV.trans (fun b u e _ => s4 b u e)).trans Fre.put, by rw [List.length_append]; exact Nat.succ_le_succ hAl⟩
        · intro q hq
          rcases List.mem_append.mp hq with k | k
          · rw [upd_ne (nAo q k)]; exact s4 _ _ (hAV q k)
          · rw [List.mem_singleton.mp k, upd_ne noT, upd_same]
        · rw [rws_snoc, eA, e1, hj, List.reverse_cons]
      cases hacc : ((rws S).take i).foldl jstep [] with
      | nil =>
        have eA0 : A = [] := by
          rw [hacc] at eA
          exact List.map_eq_nil_iff.mp eA
        refine ite2 (fun k => ?_) (fun _ => iteF ?_)
        · rw [eA0] at k
          exact absurd k (by decide)
        · refine ⟨_, rfl, .inl ⟨rfl, _, .inl (.inl hoV)⟩, _, rfl, _, rfl, two, fun Tn hT => ?_⟩
          refine ⟨o, refs A, _, rfl, rfl, same_lay hT _ _ hoV, alen, ?_⟩
          exact app b (by rw [hacc]; rfl) Tn hT
      | cons q0 t0 =>
        have eA1 : rws A = t0.reverse ++ [q0] := by rw [eA, hacc, List.reverse_cons]
        obtain ⟨B', A2, rfl, eB, eA2⟩ := List.map_eq_append_iff.mp eA1
        obtain ⟨⟨aq, q1⟩, A3, rfl, eq1, eA3⟩ := List.map_eq_cons_iff.mp eA2
        obtain rfl := List.map_eq_nil_iff.mp eA3
        obtain rfl : q1 = q0 := eq1
        have haq : Hv aq = some (.tup [.int q1.1, .int q1.2]) := hAV (aq, q1) (List.mem_append_right _ (List.mem_singleton.mpr rfl))
        have hoW := hoV
        rw [refs_snoc] at hoV
        have hSo : SqL K Hv o (refs B' ++ [.ref aq]) := .inl (.inl hoV)
        have hSq : SqT K Hv aq [.int q1.1, .int q1.2] := .inl (.inl haq)
        have g0 : atI [V.int q1.1, .int q1.2] 0 = some (.int q1.1) := atI_nat (j := 0) rfl
        have g1 : atI [V.int q1.1, .int q1.2] 1 = some (.int q1.2) := atI_nat (j := 1) rfl
        have gl : atI (refs B' ++ [V.ref aq]) (-1) = some (.ref aq) := atI_last _ _
        refine ite2 (fun _ => ?_) (fun k => ?_)
        · refine ⟨_, rfl, _, rfl, 1, rfl, o, _, -1, _, rfl, rfl, hSo, gl, aq, _, 1, _, rfl, rfl, hSq, g1, _, _, rfl, rfl, _, _, rfl, rfl, _, rfl, ite2 (fun c => ?_) (fun c => ?_)⟩
          · have hc : z.2.1 ≤ q1.2 + 1 := of_decide_eq_true c
            -- before = found.pop()
            refine ⟨_, rfl, .inl ⟨rfl, _, .inl (.inl hoV)⟩, o, _, .ref aq, rfl, rfl, hoV, ?_, ?_⟩
            · rw [List.length_append, List.getElem?_append_right (by simp)]
              simp
            rw [List.dropLast_concat]
            have nqo : aq ≠ o := ne_of haq hoV (by intro w; cases w)
            have haq2 : (upd Hv o (.lst (refs B'))) aq = some (.tup [.int q1.1, .int q1.2]) := by rw [upd_ne nqo]; exact haq
            have hSq2 : SqT K (upd Hv o (.lst (refs B'))) aq [.int q1.1, .int q1.2] := .inl (.inl haq2)
            refine ⟨_, rfl, .inl ⟨rfl, _, .inl (.inl upd_same)⟩, _, rfl, aq, _, 0, _, rfl, rfl, hSq2, g0, _, rfl, aq, _, 1, _, rfl, rfl, hSq2, g1, .inl ⟨_, rfl, _, rfl, .inl ⟨_, rfl, _, _, rfl, two, fun Tn hT => ?_⟩⟩⟩
            have s4 := same_lay (o := .tup [.int q1.1, .int (if z.2.2 > q1.2 then z.2.2 else q1.2)]) hT
            have noT : Tn ≠ o := by
              intro e
              rw [e, upd_same] at hT
              cases hT
            refine ⟨o, _, _, rfl, rfl, s4 _ _ upd_same, small1000 (by rw [refs_len]; rw [List.length_append] at hAl; omega), ?_⟩
            refine ⟨_, _, _, B' ++ [(Tn, (q1.1, if z.2.2 > q1.2 then z.2.2 else q1.2))], rfl, by rw [upd_same, refs_snoc], ?_, ?_, ((frV.trans Fre.put).trans (fun b u e _ => s4 b u e)).trans Fre.put, ?_⟩
            · intro q hq
              rcases List.mem_append.mp hq with k | k
              · have nq := nAo q (List.mem_append_left _ k)
                rw [upd_ne nq]
                refine s4 _ _ ?_
                rw [upd_ne nq]
                exact hAV q (List.mem_append_left _ k)
              · rw [List.mem_singleton.mp k, upd_ne noT, upd_same]
            · rw [rws_snoc, e1, hacc]
              show rws B' ++ [(q1.1, if z.2.2 > q1.2 then z.2.2 else q1.2)] = (if z.2.1 ≤ q1.2 + 1 then (q1.1, if z.2.2 > q1.2 then z.2.2 else q1.2) :: t0 else z.2 :: q1 :: t0).reverse
              rw [if_pos hc, List.reverse_cons]
              exact congrArg (· ++ [(q1.1, if z.2.2 > q1.2 then z.2.2 else q1.2)]) eB
            · rw [List.length_append] at hAl ⊢
              exact Nat.le_succ_of_le hAl
          · have hc : ¬ z.2.1 ≤ q1.2 + 1 := fun w => c (decide_eq_true w)
            refine ⟨_, rfl, .inl ⟨rfl, _, .inl (.inl hoV)⟩, _, rfl, _, rfl, two, fun Tn hT => ?_⟩
            refine ⟨o, _, _, rfl, rfl, same_lay hT _ _ hoV, by rw [← refs_snoc]; exact alen, ?_⟩
            rw [← refs_snoc]
            refine app b ?_ Tn hT
            rw [hacc]
            show (if z.2.1 ≤ q1.2 + 1 then (q1.1, if z.2.2 > q1.2 then z.2.2 else q1.2) :: t0 else z.2 :: q1 :: t0) = z.2 :: q1 :: t0
            rw [if_neg hc]
        · exfalso
          apply k
          show (!PyData.eqvAll ((rws (B' ++ [(aq, q1)])).map rowD) []) = true
          rw [rws_snoc, List.map_append]
          cases (rws B').map rowD <;> rfl
    · rintro σ H' ⟨f, l, b, A, rfl, hoA, hA, eA, fr, hAl⟩
      rw [refs_len, List.take_of_length_le (by rw [rws_len]; exact Nat.le_refl _)] at eA
      have eN : rws A = (jfold (rws S)).reverse := eA
      have s6 : Same H H' := fun b u e => fr b u (S3 b u e) (ne_of_none e no)
      refine ⟨_, rfl, q o A H' s6 no hoA hA (by rw [eN]; exact hnf) (fun x => ?_) ?_⟩
      · rw [eN, hme x]
        exact mem_same hSm x
      · rw [refs_len] at hAl
        omega
end
end OR

namespace OR
open PySem PySem.Spec PyProof.Rows L2
/-! ### own ==, !=, bool -/
section
variable {prog : Program} {w : World} {A : Around} {E : Value → Shared → Prop} {s : Shared} {K : PySem.W.Frag} {x C L f : Addr} {h₀ : Heap} {m : Str → Option Value} {ox : Obj} {od : Option Obj} {b tb : Value}
theorem ifBound_ne {M : Model} {args : List Value} {Q : Option Value → Shared → Prop} (X : K.In s.heap) (I : PySem.W.InstAt s.heap x ox C od) (hs : PySem.W.findIn K (.ref C) "__ne__" = some (some (.builtin "object.__ne__")))
    (h : wpAny M A (call (.builtin "object.__ne__") (.ref x :: args)) (fun v => Q (some v)) E s) : wpAny M A (callSpecialIfBound? (.ref x) "__ne__" args) Q E s := by
  simp only [callSpecialIfBound?, bindSpecialIfBound?]
  refine wpAny_holding (wpAny_bind (wpAny_bind (wpAny_bind (I.type.here ((PySem.W.looks_findIn X hs).here ?_)))))
  simp only [PySem.F.cmp_object.ne.bind]
  refine wpAny_bind (wpAny_askSetting (wpAny_ite ?_))
  have fin : wpAny M A (call (.builtin "object.__ne__") ([.ref x] ++ args) >>= fun v => pure (some v)) Q E s := wpAny_bind (wpAny_mono h (fun v s' h' => wpAny_pure h') fun _ _ h' => h')
  split
  · exact wpAny_bind (wpAny_pure (wpAny_pure fin))
  · exact wpAny_tryCatch (wpAny_bind (wpAny_pure (wpAny_pure fin)))
theorem check_ne {M : Model} {Q : Unit → Shared → Prop} (X : K.In s.heap) (I : PySem.W.InstAt s.heap x ox C od) (hm : PySem.W.mroIn K C (.type "object") = some true) (hq : Q () s) :
    wpAny M A (PySem.checkBuiltinCall "object.__ne__" ⟨[.ref x, b], []⟩) Q E s := by
  have hsig : ∃ sig, Manifest.signature? "object.__ne__" = sig := ⟨_, rfl⟩
  obtain ⟨sig, hsig⟩ := hsig
  have ha := PySem.F.cmpArgs_ne (.ref x) b
  unfold argsOk at ha
  simp only [PySem.checkBuiltinCall, PySem.F.cmpKind_ne, PySem.F.cmpSplit_ne]
  refine wpAny_bind (m := PySem.isInstance _ _) ?_
  unfold PySem.isInstance
  refine wpAny_bind (I.type.here ((PySem.W.looks_mroIn X hm).here ?_))
  rw [hsig] at ha ⊢
  cases sig with
  | none => exact wpAny_pure hq
  | some sg =>
    have h2 : Bind.checkArgs "object.__ne__" sg ⟨[.ref x, b], []⟩ = pure () := ha
    show wpAny M A (Bind.checkArgs "object.__ne__" sg ⟨[.ref x, b], []⟩) Q E _
    rw [h2]; exact wpAny_pure hq
/-- x != b by the own == of x -/
theorem ne_K {Q : Value → Shared → Prop} (hu : A.units + 1 < cLine) (F : PyProof.Rows.Fr h₀ L s.heap m) (X₀ : K.In h₀) (I : PySem.W.InstAt s.heap x ox C od) (hb : PySem.W.Looks (model prog w) s.heap (typeOf b) tb) (hn : PySem.W.notFirst K C tb = true)
    (h1 : PySem.W.findIn K (.ref C) "__ne__" = some (some (.builtin "object.__ne__"))) (hm : PySem.W.mroIn K C (.type "object") = some true) (hs : PySem.W.findIn K (.ref C) "__eq__" = some (some (.ref f))) (hf : PySem.W.isFn K (.ref f) = true)
    (h : wpAny (model prog w) A.in1 (call (.ref f) [.ref x, b]) (fun v s' => ∃ k, v = .bool k ∧ Q (.bool (!k)) s') E s) : wpAny (model prog w) A (richCompare .NotEq (.ref x) b) Q E s := by
  have X := X₀.keeps F.keep
  have entry : wpAny (model prog w) A.in1 (Builtin.«object.__ne__» ⟨[.ref x, b], []⟩) (fun r s' => ∃ k, r = .done (.ret (.bool (!k))) ∧ Q (.bool (!k)) s') E s := by
    unfold Builtin.«object.__ne__»
    refine wpAny_bind (m := PySem.slotArgs "__ne__" 1 _) (wpAny_pure ?_)
    refine wpAny_bind (wpAny_cRoomFor hu ?_)
    refine wpAny_bind (m := callSpecialIfBound? (.ref x) (Str.ofString "__eq__") [b]) (PySem.W.ifBound_K X I hs hf (wpAny_mono h (fun r s' hr => ?_) fun _ _ e => e))
    obtain ⟨k, rfl, hq⟩ := hr
    refine wpAny_bind (m := truthy (.bool k)) (wpAny_truthy_bool ?_)
    exact wpAny_pure ⟨k, rfl, hq⟩
  have one : wpAny (model prog w) A (tryCompare (.ref x) "__ne__" b) (fun r s' => ∃ v, r = some v ∧ Q v s') E s := by
    unfold tryCompare
    refine wpAny_bind (ifBound_ne X I h1 (wpAny_call (codeAny_call_builtin PySem.F.cmp_object.ne.plain PySem.F.cmpEntry_ne (check_ne X I hm (wpAny_mono entry (fun r s' z => ?_) fun _ _ e => e)))))
    obtain ⟨k, rfl, hq⟩ := z
    exact wpAny_pure ⟨_, rfl, hq⟩
  unfold richCompare
  simp only [oneThing_ref]
  refine wpAny_holding (wpAny_bind (wpAny_cRoomFor (by omega) ?_))
  refine wpAny_bind (I.type.here (wpAny_bind (hb.here ?_)))
  split
  · rename_i q
    have e : PySem.W.subIn K tb (.ref C) = some false := by
      rcases Bool.or_eq_true_iff.mp hn with e | e
      · rw [beq_iff_eq.mp e] at q; simp at q
      · exact beq_iff_eq.mp e
    refine wpAny_bind ((PySem.W.looks_subIn X e).here ?_)
    simp only [Bool.false_eq_true, if_false]
    refine wpAny_bind (wpAny_mono one (fun r s' z => ?_) fun _ _ e => e)
    obtain ⟨v, rfl, hq⟩ := z
    exact wpAny_pure hq
  · refine wpAny_bind (wpAny_pure ?_)
    simp only [Bool.false_eq_true, if_false]
    refine wpAny_bind (wpAny_mono one (fun r s' z => ?_) fun _ _ e => e)
    obtain ⟨v, rfl, hq⟩ := z
    exact wpAny_pure hq
theorem bool_truth {v : Value} {Q : Value → Shared → Prop} (h : wpAny (model prog w) A.in1.in1 (truthy v) (fun b s' => Q (.bool b) s') E s) : wpAny (model prog w) A (call (.type "bool") [v]) Q E s := by
  refine PySem.callType_codes (T := "bool") (Bi := Builtin.«object.__init__») (Q₁ := fun r s₁ => ∃ b, r = Value.bool b ∧ Q r s₁) PySem.F.called_bool (PySem.F.typeCall_bool_1 _) PySem.F.entry_object_init ?_ ?_
  · refine codeAny_of_tree ?_
    show wpAny _ A.in1.in1 (do checkBuiltinCall "bool.__new__" ⟨[.type "bool", v], []⟩; again (.builtin "bool.__new__" ⟨[.type "bool", v], []⟩)) _ _ s
    refine wpAny_bind (wpAny_of_eq (PySem.F.newCall_bool_1 _) (wpAny_pure ⟨plainId_quiet (by decide +kernel) _, codeAny_builtin PySem.F.entry_bool_new ?_⟩))
    rw [Around.under_plainId (by decide +kernel) _]
    unfold Builtin.«bool.__new__»
    refine wpAny_bind (wpAny_of_eq (a := true) (by first | rfl | kernel_rfl | (unfold isType; rw [isSubtype_type]; kernel_rfl)) ?_)
    refine PySem.W.KFB.if_not rfl ?_
    refine wpAny_bind (wpAny_of_eq (a := true) PySem.F.conv_sub_bool ?_)
    refine PySem.W.KFB.if_not rfl ?_
    refine wpAny_bind (wpAny_of_eq (a := [v]) rfl ?_)
    refine wpAny_bind (wpAny_mono h (fun b s' hq => ?_) fun _ _ e => e)
    exact wpAny_pure ⟨b, rfl, hq⟩
  · rintro obj s₁ ⟨b, rfl, hq⟩
    exact ⟨rfl, PySem.F.args_object_init_2 _ _, object_init_meets PySem.F.called_bool.init.lookup PySem.F.called_bool.made (by decide) prog w A.in1 _ s₁ ⟨rfl, rfl, hq⟩⟩
end
section
variable {X : Cx} {n : Nat} {C : Addr} {sp : Sp}
/-- what stands on the right: an instance of the class, or a value of a type that is no class below -/
def RightOf (K : PySem.W.Frag) (C : Addr) (H : Hp) (y : V) : Prop := ∃ tb, TyX K H y tb ∧ PySem.W.notFirst K C tb = true
/-- x == y by the own == of x -/
def rEqO (K : PySem.W.Frag) (C : Addr) (sp : Sp) : R2 := fun x y H Q => ∃ a dx fs, x = .ref a ∧ H a = some (.ins C dx fs) ∧ RightOf K C H y ∧ sp [x, y] H Q E0
theorem op_eqO (K : PySem.W.Frag) (hK : X.K = K) (m : Md X.prog X.w X.K X.mg X.base n C "__eq__" sp) (hr : Room n X.A) : OpR X (compareOp .Eq) (rEqO K C sp) := by
  subst hK
  intro pins s σ H x y v u Q I rx ry h
  obtain ⟨f, F, hs, hf, _⟩ := m.ex
  obtain ⟨a, dx, fs, rfl, ha, ⟨tb, hy, hn⟩, q⟩ := h
  cases (show v = Value.ref a from rx)
  obtain ⟨mA, J, _⟩ := ins_get I.hok ha
  obtain ⟨od, J, _⟩ := J.look
  obtain ⟨Pk, hk, hp, _⟩ := kit_of I ry hy
  obtain ⟨m, hF⟩ := I.fr
  refine PySem.W.cmp_K (op := .Eq) (tb := tb) hr.units0 hF I.ok.mod.kin J (hk.ty _ _ I.kIn hp) hn hs hf ?_
  refine wpAny_mono (wpAny_call (run_fnR (us := [.ref a, u]) (vs := [.ref a, y]) F hr pass0 I (.cons rfl (.cons ry .nil)) q)) (fun w s' z => ?_) fun _ _ x => x
  obtain ⟨z', H', I', rz, qz⟩ := z
  exact SlX.cmpback rz ⟨z', H', I', rz, qz⟩
/-- x != y by the own == of x -/
def rNeO (K : PySem.W.Frag) (C : Addr) (sp : Sp) : R2 := fun x y H Q => ∃ a dx fs, x = .ref a ∧ H a = some (.ins C dx fs) ∧ RightOf K C H y ∧ sp [x, y] H (fun z H' => ∃ k, z = .bl k ∧ Q (.bl (!k)) H') E0
theorem op_neO (K : PySem.W.Frag) (hK : X.K = K) (m : Md X.prog X.w X.K X.mg X.base n C "__eq__" sp) (h1 : PySem.W.findIn X.K (.ref C) "__ne__" = some (some (.builtin "object.__ne__"))) (hm : PySem.W.mroIn X.K C (.type "object") = some true) (hr : Room (n + 1) X.A) : OpR X (compareOp .NotEq) (rNeO K C sp) := by
  subst hK
  intro pins s σ H x y v u Q I rx ry h
  obtain ⟨f, F, hs, hf, _⟩ := m.ex
  obtain ⟨a, dx, fs, rfl, ha, ⟨tb, hy, hn⟩, q⟩ := h
  cases (show v = Value.ref a from rx)
  obtain ⟨mA, J, _⟩ := ins_get I.hok ha
  obtain ⟨od, J, _⟩ := J.look
  obtain ⟨Pk, hk, hp, _⟩ := kit_of I ry hy
  obtain ⟨m, hF⟩ := I.fr
  refine ne_K (tb := tb) (by have := hr.units; omega) hF I.ok.mod.kin J (hk.ty _ _ I.kIn hp) hn h1 hm hs hf ?_
  refine wpAny_mono (wpAny_call (SlX.run_at (us := [.ref a, u]) (ws := [.ref a, y]) F hr.in1 I.env0.in1 pass0 I (.cons rfl (.cons ry .nil)) q)) (fun w s' z => ?_) fun _ _ x => x
  obtain ⟨z', H', I', rz, k, ek, qz⟩ := z
  subst ek
  cases (show w = Value.bool k from rz)
  exact ⟨k, rfl, .bl (!k), H', I', rfl, qz⟩
/-- the truth of x by its own bool -/
def rTruO (C : Addr) (sp : Sp) : V → Hp → (Bool → Hp → Prop) → Prop := fun x H Q => ∃ a dx fs, x = .ref a ∧ H a = some (.ins C dx fs) ∧ sp [x] H (fun z H' => ∃ k, z = .bl k ∧ Q k H') E0
theorem tru_own (m : Md X.prog X.w X.K X.mg X.base n C "__bool__" sp) (hr : Room n X.A) : TruR X (rTruO C sp) := by
  intro pins s σ H x v Q I rx h
  obtain ⟨f, F, hs, hf, _⟩ := m.ex
  obtain ⟨a, dx, fs, rfl, ha, q⟩ := h
  cases (show v = Value.ref a from rx)
  obtain ⟨mA, J, _⟩ := ins_get I.hok ha
  obtain ⟨od, J, _⟩ := J.look
  obtain ⟨m, hF⟩ := I.fr
  refine PySem.W.truthy_K hF I.ok.mod.kin J hs hf ?_
  refine wpAny_mono (wpAny_call (run_fnR (us := [.ref a]) (vs := [.ref a]) F hr pass0 I (.cons rfl .nil) q)) (fun w s' z => ?_) fun _ _ x => x
  obtain ⟨z', H', I', rz, k, ek, qz⟩ := z
  subst ek
  cases (show w = Value.bool k from rz)
  exact ⟨H', I', qz⟩
/-- bool(x) by its own bool -/
def rBoolO (C : Addr) (sp : Sp) : List V → Hp → VK → Prop := fun xs H Q => ∃ a dx fs, xs = [.ref a] ∧ H a = some (.ins C dx fs) ∧ sp xs H (fun z H' => ∃ k, z = .bl k ∧ Q z H') E0
theorem call_boolO (m : Md X.prog X.w X.K X.mg X.base n C "__bool__" sp) (hr : Room (n + 2) X.A) : CallR X (.type "bool") (rBoolO C sp) := by
  intro pins s σ H xs us Q I r h
  obtain ⟨f, F, hs, hf, _⟩ := m.ex
  obtain ⟨a, dx, fs, rfl, ha, q⟩ := h
  obtain ⟨u, rfl, ru⟩ := r.one
  cases (show u = Value.ref a from ru)
  obtain ⟨mA, J, _⟩ := ins_get I.hok ha
  obtain ⟨od, J, _⟩ := J.look
  obtain ⟨m, hF⟩ := I.fr
  have hr2 : Room n X.A.in1.in1 := (show Room (n + 1) X.A.in1 from Room.in1 hr).in1
  refine bool_truth (PySem.W.truthy_K hF I.ok.mod.kin J hs hf ?_)
  refine wpAny_mono (wpAny_call (SlX.run_at (us := [.ref a]) (ws := [.ref a]) F hr2 I.env0.in1.in1 pass0 I (.cons rfl .nil) q)) (fun w s' z => ?_) fun _ _ x => x
  obtain ⟨z', H', I', rz, k, ek, qz⟩ := z
  subst ek
  cases (show w = Value.bool k from rz)
  exact ⟨.bl k, H', I', rfl, qz⟩
/-- bool(a tuple) -/
theorem call_boolT (K : PySem.W.Frag) (hK : X.K = K) : CallR X (.type "bool") (fun xs H Q => ∃ (a : Addr) (zs : List V), xs = [.ref a] ∧ SqT K H a zs ∧ Q (.bl (!zs.isEmpty)) H) := by
  subst hK
  intro pins s σ H xs us Q I r h
  obtain ⟨a, zs, rfl, hq, q⟩ := h
  obtain rfl := Vals.ref1 r
  obtain ⟨its, rv, pl, hz⟩ := I.tuple hq
  have hl := line63
  have hlen := rv.length
  exact bool_truth (truthy_tuple pl (by simp only [List.size_toArray]; omega) ⟨.bl (!zs.isEmpty), H, I.tok _, by rw [isEmpty_of rv]; rfl, q⟩)
end
end OR

namespace OR
open PySem PySem.Spec PyProof.Rows L2
/-! ### Places: made, compared, its truth -/
structure PMk' (P : Program) (w : World) (K : PySem.W.Frag) (mg : Str → Option Value) (base : Heap) (C : Addr) : Prop where
  T : PTxt K mg C
  made : ∃ f fd t0, Mk K C f ∧ FnOk P w K mg base CX0 4 f fd ["self", "stretches"] (spPlInit K C) ∧ Binds K fd ["self", "stretches"] [] ∧ Binds K fd ["self", "stretches"] [.ref t0] ∧ ∀ H : Hp, SqT K H t0 []
def tMkP (K : PySem.W.Frag) (C : Addr) (t : TA) : TE := fun σ H Q => t σ H fun vs H1 => ∃ (a : Addr) (L : List ARow), vs = [.ref a] ∧ (SqL K H1 a (refs L) ∨ SqT K H1 a (refs L)) ∧ L.length ≤ 1000 ∧ PairsAt H1 L ∧ (∀ r ∈ rws L, okRow r = true) ∧
  ∀ (x : Addr) (l : List Row) (H' : Hp), H1 x = none → IsP C H' x l → (∀ z, mem l z ↔ mem (rws L) z) → l.length ≤ L.length → Same H1 H' → Q (.ref x) H'
def tMkP0 (C : Addr) : TE := fun σ H Q => ∀ (x : Addr) (H' : Hp), H x = none → IsP C H' x [] → Same H H' → Q (.ref x) H'
theorem made_same {C x dx : Addr} {H H' : Hp} (nx : H x = none) (ndx : H dx = none) (hs : ∀ c o, (upd (upd H dx (.own x)) x (.ins C dx [])) c = some o → c ≠ x → H' c = some o) : Same H H' := fun c o e => by
  have ncx : c ≠ x := ne_of_none e nx
  refine hs c o ?_ ncx
  rw [upd_ne ncx, upd_ne (ne_of_none e ndx)]
  exact e
theorem pe_mkP {X : Cx} (K : PySem.W.Frag) (hK : X.K = K) {C : Addr} {j : Nat} {e : Expr} {es : List Expr} {t : TA} {p pos : Pos} (M : PMk' X.prog X.w X.K X.mg X.base C) (hr : Room j X.A) (hj : 5 ≤ j) (hg : Gl X "Places") (ha : PA X (e :: es) t)
    (he : starEach (e :: es) X.env = (false, eval e X.env) :: starEach es X.env := by rfl) (hpl : (backTo pos (starEach es X.env)).any (·.1) = false := by rfl) : PE X (.Call (.Name "Places" p) (e :: es) [] pos) (tMkP K C t) := by
  subst hK
  obtain ⟨f, fd, t0, mk, F, hb, _⟩ := M.made
  refine ⟨fun pins s σ H Q I h => ?_⟩
  refine wpAny_Call_Name_kw (ld_glob I hg M.T.mgC ?_ (by decide))
  refine PySem.W.callWith_K (h₀ := X.base) I.ok.mod.kin mk.kp (thn (ha.run pos pins s σ H _ I h) fun us s1 ⟨vs, H1, I1, r, q⟩ => ⟨I1.kIn, ?_⟩) he hpl
  obtain ⟨a, L, rfl, hS, hlen, hP, hok, q⟩ := q
  refine run_make mk F (hr.mono hj) hb .nil pass0 I1 r fun x dx nx ndx nex => ?_
  have S1 : Same H1 (upd (upd H1 dx (.own x)) x (.ins C dx [])) := fun c o e => by rw [upd_ne (ne_of_none e nx), upd_ne (ne_of_none e ndx)]; exact e
  exact ⟨x, dx, a, L, rfl, upd_same, hS.elim (fun e => .inl (S1.seq e)) (fun e => .inr (sameT S1 e)), hlen, hP.same S1, hok, fun l H' hs hp hme hle => ⟨rfl, q x l H' nx hp hme hle (made_same nx ndx hs)⟩⟩
theorem pe_mkP0 {X : Cx} {C : Addr} {j : Nat} {p pos : Pos} (M : PMk' X.prog X.w X.K X.mg X.base C) (hr : Room j X.A) (hj : 5 ≤ j) (hg : Gl X "Places") : PE X (.Call (.Name "Places" p) [] [] pos) (tMkP0 C) := by
  obtain ⟨f, fd, t0, mk, F, _, hb, ht⟩ := M.made
  refine ⟨fun pins s σ H Q I q => ?_⟩
  refine wpAny_Call_Name_kw (ld_glob I hg M.T.mgC ?_ (by decide))
  refine PySem.W.callWith_K0 I.kIn mk.kp (run_make (us := []) (vs := []) (dvs := [.ref t0]) mk F (hr.mono hj) hb (.cons rfl .nil) pass0 I .nil fun x dx nx ndx nex => ?_)
  refine ⟨x, dx, t0, [], rfl, upd_same, .inr (ht _), Nat.zero_le _, (fun _ z => nomatch z), (fun _ z => nomatch z), fun l H' hs hp hme _ => ⟨rfl, ?_⟩⟩
  have el : l = [] := Nf.unique hp.nf Nf.nil hme
  subst el
  exact q x H' nx hp (made_same nx ndx hs)
def spPlEq (K : PySem.W.Frag) (C : Addr) : Sp := fun vs H Q _ => ∃ x l y, vs = [.ref x, y] ∧ IsP C H x l ∧ ((∃ b m, y = .ref b ∧ IsP C H b m ∧ Q (.bl (decide (l = m))) H) ∨ (∃ T : String, TyX K H y (.type T) ∧ PySem.W.kitOne K (.type T) (.ref C) = some false ∧ Q (.bl false) H))
def spPlBool (C : Addr) : Sp := fun vs H Q _ => ∃ x l, vs = [.ref x] ∧ IsP C H x l ∧ Q (.bl (!l.isEmpty)) H
section
variable {P : Program} {w : World} {K : PySem.W.Frag} {mg : Str → Option Value} {base : Heap}
theorem tyP {C : Addr} (T : PTxt K mg C) {H : Hp} {x dx : Addr} {fs : List (Str × V)} (hx : H x = some (.ins C dx fs)) : TyX K H (.ref x) (.ref C) := .base (.ins hx T.cl T.isi.ca T.isi.cn T.isi.ct T.isi.cm)
theorem scEq : FnScope ["self", "other"] ["self", "other"] (defScope sPlEq) := ⟨rfl, rfl, rfl, by decide +kernel, rfl, by decide +kernel, by decide +kernel⟩
theorem ok_pleq {f C : Addr} {fd : FuncData} (F : Fun K "__eq__" "Places.__eq__" sPlEq f fd) (T : PTxt K mg C) : FnOk P w K mg base CX0 1 f fd ["self", "other"] (spPlEq K C) := by
  refine F.ok scEq (fun vs H Q E h => ?_) (fun cdv A outer s H vs Q E hr h => ?_)
  · obtain ⟨x, l, y, rfl, _⟩ := h
    rfl
  · obtain ⟨x, l, y, rfl, ⟨_, dx, t, fi, b, M, hx, ht, hM, rfl, _⟩, h⟩ := h
    have hu64 : (A.deeper (envOfC "Places.__eq__" (defScope sPlEq) s.heap.objs.size f cdv)).units + 64 < cLine := hr.units
    refine ⟨_, pss_one (ps_ret (pe_and (pe_callB call_isi (by rfl) T.zIsi bt_isi (pa_cons (pv 1) (pa_cons (pe_glob (v := .ref C) (by rfl) T.mgC rfl) pa_nil)))
      (pe_one (pe_cmpR (op_eqD hu64) (pe_fld (pv 0) rfl) (pe_fld (pv 1) rfl) (nomark _))))), ?_⟩
    rcases h with ⟨y, m, rfl, ⟨_, dy, t2, f2, b2, M2, hy, ht2, hM2, rfl, _⟩, q⟩ | ⟨ty, hT, hk, q⟩
    · refine ⟨_, rfl, .ref y, .ref C, _, _, true, rfl, .own C, tyP T hy, T.kPP, true, rfl, iteT ?_⟩
      refine ⟨_, rfl, x, C, dx, _, _, rfl, hx, T.cl, T.nS, pFl_s _ _ _, _, rfl, y, C, dy, _, _, rfl, hy, T.cl, T.nS, pFl_s _ _ _, .tuple ((rws M).map rowD), .tuple ((rws M2).map rowD), .tup (.inl (.inl ht)) (dp_rows hM), .tup (.inl (.inl ht2)) (dp_rows hM2), shp_tup _, shp_tup _, ?_⟩
      have e : PyData.eqv (.tuple ((rws M).map rowD)) (.tuple ((rws M2).map rowD)) = decide (rws M = rws M2) := eqv_rows _ _
      rw [e]
      exact q
    · exact ⟨_, rfl, y, .ref C, _, _, false, rfl, .own C, hT, hk, false, rfl, iteF q⟩
theorem scBo : FnScope ["self"] ["self"] (defScope sPlBool) := ⟨rfl, rfl, rfl, by decide +kernel, rfl, by decide +kernel, by decide +kernel⟩
theorem ok_plbool {f C : Addr} {fd : FuncData} (F : Fun K "__bool__" "Places.__bool__" sPlBool f fd) (T : PTxt K mg C) : FnOk P w K mg base CX0 1 f fd ["self"] (spPlBool C) := by
  refine F.ok scBo (fun vs H Q E h => ?_) (fun cdv A outer s H vs Q E hr h => ?_)
  · obtain ⟨x, l, rfl, _⟩ := h
    rfl
  · obtain ⟨x, l, rfl, ⟨_, dx, t, fi, b, M, hx, ht, hM, rfl, _⟩, q⟩ := h
    refine ⟨_, pss_one (ps_ret (pe_callTy (call_boolT K rfl) (by rfl) T.zBool bt_bool (pa_cons (pe_fld (pv 0) rfl) pa_nil))), ?_⟩
    refine ⟨_, rfl, x, C, dx, _, _, rfl, hx, T.cl, T.nS, pFl_s _ _ _, t, refs M, rfl, .inl (.inl ht), ?_⟩
    have e : (refs M).isEmpty = (rws M).isEmpty := by cases M <;> rfl
    rw [e]
    exact q
end
end OR

namespace OR
open PySem PySem.Spec PyProof.Rows L2
open TL (tl numL)
/-! ### words of places -/
def dT (n : Int) : Str := Str.ofString (toString n)
theorem str_ext {a b : Str} (h : tl a = tl b) : a = b := TL.ext_tl h
theorem app_assoc (a b c : Str) : (a ++ b) ++ c = a ++ (b ++ c) := str_ext (by rw [TL.tl_append, TL.tl_append, TL.tl_append, TL.tl_append, List.append_assoc])
theorem len_app (a b : Str) : (a ++ b).length = a.length + b.length := by rw [TL.len_tl, TL.len_tl, TL.len_tl, TL.tl_append, List.length_append]
theorem tl_dT {n : Int} (h : 0 ≤ n) : tl (dT n) = numL n.toNat := by
  have e : n = ((n.toNat : Nat) : Int) := (Int.toNat_of_nonneg h).symm
  unfold dT
  rw [e]
  exact TL.tl_num _
theorem dT_len {n : Int} {k : Nat} (h0 : 0 ≤ n) (hk : 0 < k) (h : n < 10 ^ k) : (dT n).length ≤ k := by
  rw [TL.len_tl, tl_dT h0]
  refine TL.numL_len hk ?_
  have : ((n.toNat : Nat) : Int) < ((10 ^ k : Nat) : Int) := by
    rw [Int.toNat_of_nonneg h0]
    have e : ((10 ^ k : Nat) : Int) = (10 : Int) ^ k := by simp
    rw [e]
    exact h
  exact Int.ofNat_lt.mp this
theorem dT_free {n : Int} {s : Nat} (h0 : 0 ≤ n) (h : s < 48 ∨ 57 < s) : s ∉ tl (dT n) := by
  rw [tl_dT h0]
  exact TL.numL_free h
theorem dT_digits {n : Int} (h0 : 0 ≤ n) : ∀ c ∈ tl (dT n), 48 ≤ c ∧ c ≤ 57 := by
  rw [tl_dT h0]
  exact fun c hc => TL.numL_digits _ c hc
theorem dT_ne {n : Int} (h0 : 0 ≤ n) : tl (dT n) ≠ [] := by
  rw [tl_dT h0]
  exact TL.numL_ne _
theorem numL_head (n : Nat) : (numL n).head? = some 48 → n = 0 := by
  induction n using Nat.strongRecOn with
  | _ n ih =>
    intro h
    by_cases hn : n < 10
    · rw [TL.numL_lt hn] at h
      have : 48 + n = 48 := Option.some.inj h
      omega
    · rw [TL.numL_step (by omega)] at h
      have hne := TL.numL_ne (n / 10)
      cases hl : numL (n / 10) with
      | nil => exact absurd hl hne
      | cons c r =>
        rw [hl] at h
        have := ih (n / 10) (by omega) (by rw [hl]; exact h)
        omega
theorem dT_int {n : Int} (h0 : 0 ≤ n) (h : n < 10 ^ 60) : intText? (dT n) = some n := by
  have e : n = ((n.toNat : Nat) : Int) := (Int.toNat_of_nonneg h0).symm
  have hl : (numL n.toNat).length ≤ 4300 := by
    have := dT_len h0 (by decide) h
    rw [TL.len_tl, tl_dT h0] at this
    omega
  have := TL.int_num hl
  unfold dT
  rw [e]
  exact this
theorem digit_asc {s : Str} (h : ∀ c ∈ tl s, 48 ≤ c ∧ c ≤ 57) : Txt.isascii s = true := by
  unfold Txt.isascii
  rw [← Array.all_toList, List.all_eq_true]
  intro c hc
  have := h c hc
  exact decide_eq_true (by omega)
theorem isD : ∀ c : Nat, 48 ≤ c → c ≤ 57 → Unicode.isDigit c = true := by
  intro c h1 h2
  have : c = 48 ∨ c = 49 ∨ c = 50 ∨ c = 51 ∨ c = 52 ∨ c = 53 ∨ c = 54 ∨ c = 55 ∨ c = 56 ∨ c = 57 := by omega
  rcases this with e | e | e | e | e | e | e | e | e | e <;> subst e <;> decide +kernel
theorem digit_dig {s : Str} (h : ∀ c ∈ tl s, 48 ≤ c ∧ c ≤ 57) (hn : tl s ≠ []) : Txt.isdigit s = true := by
  unfold Txt.isdigit
  rw [TL.len_tl, ← Array.all_toList]
  have : 0 < (tl s).length := List.length_pos_iff.mpr hn
  rw [decide_eq_true this, Bool.true_and, List.all_eq_true]
  intro c hc
  exact isD c (h c hc).1 (h c hc).2
theorem not_dig {s : Str} {c : Nat} (hc : c ∈ tl s) (h : Unicode.isDigit c = false) : Txt.isdigit s = false := by
  unfold Txt.isdigit
  rw [← Array.all_toList]
  have : (s.cps.toList.all Unicode.isDigit) = false := by
    rw [List.all_eq_false]
    exact ⟨c, hc, by rw [h]; decide⟩
  rw [this, Bool.and_false]
/-- what is no place, as it is read -/
def BadPl (s : Str) : Prop := Txt.isdigit s = false ∨ (∃ r, tl s = 48 :: r ∧ r ≠ []) ∨ ∃ n : Int, s = dT n ∧ lastP < n ∧ n ≤ lastP + 5
/-- the word of a stretch -/
def sT (r : Row) : Str := if r.1 = r.2 then dT r.1 else (dT r.1 ++ ("-" : Str)) ++ dT r.2
def noDash (s : Str) : Prop := 45 ∉ tl s
def BadW (w : Str) : Prop := (noDash w ∧ BadPl w) ∨ (∃ s e, w = (s ++ ("-" : Str)) ++ e ∧ noDash s ∧ BadPl s) ∨ (∃ (a : Int) (e : Str), w = (dT a ++ ("-" : Str)) ++ e ∧ 0 ≤ a ∧ a ≤ lastP ∧ BadPl e) ∨
  ∃ a b : Int, w = (dT a ++ ("-" : Str)) ++ dT b ∧ 0 ≤ a ∧ a ≤ lastP ∧ 0 ≤ b ∧ b ≤ a
def noBlank (w : Str) : Prop := 32 ∉ tl w
theorem dash_tl : tl ("-" : Str) = [45] := by decide
theorem blank_tl : tl (" " : Str) = [32] := by decide
theorem part_app {a b : Str} (h : noDash a) : Txt.partition ((a ++ ("-" : Str)) ++ b) ("-" : Str) = (a, ("-" : Str), b) := TL.partition_app dash_tl h
theorem part_none {a : Str} (h : noDash a) : Txt.partition a ("-" : Str) = (a, Str.empty, Str.empty) := TL.partition_none dash_tl h
theorem dT_noDash {n : Int} (h : 0 ≤ n) : noDash (dT n) := dT_free h (.inl (by decide))
theorem dT_noBlank {n : Int} (h : 0 ≤ n) : noBlank (dT n) := dT_free h (.inl (by decide))
theorem noBlank_app {a b : Str} (ha : noBlank a) (hb : noBlank b) : noBlank (a ++ b) := by
  unfold noBlank
  rw [TL.tl_append]
  exact fun h => (List.mem_append.mp h).elim ha hb
theorem nbs {s : Str} (h : (tl s).all (· != 32) = true) : noBlank s := fun hm => by
  have := List.all_eq_true.mp h 32 hm
  exact absurd this (by decide)
theorem sT_noBlank {r : Row} (h : 0 ≤ r.1) (h2 : 0 ≤ r.2) : noBlank (sT r) := by
  unfold sT
  split
  · exact dT_noBlank h
  · exact noBlank_app (noBlank_app (dT_noBlank h) (nbs (by decide))) (dT_noBlank h2)
theorem len_s {s : Str} {k : Nat} (h : (tl s).length ≤ k) : s.length ≤ k := by rw [TL.len_tl]; exact h
theorem lastP_lt {n : Int} (h : n ≤ lastP + 5) : n < 10 ^ 31 := by
  have : lastP = 10 ^ 30 := rfl
  omega
theorem sT_len {r : Row} (h : okRow r = true) : (sT r).length ≤ 70 := by
  obtain ⟨h1, h2, h3⟩ := okRow_iff h
  have a := dT_len (k := 31) (n := r.1) (by omega) (by decide) (lastP_lt (by omega))
  have b := dT_len (k := 31) (n := r.2) (by omega) (by decide) (lastP_lt (by omega))
  unfold sT
  split
  · omega
  · rw [len_app, len_app]
    show (dT r.1).length + 1 + (dT r.2).length ≤ 70
    omega
/-- a word that is wrong, and short, and without a blank -/
structure BadS (w : Str) : Prop where
  bad : BadW w
  nb : noBlank w
  len : w.length ≤ 100
theorem nd_empty : noDash Str.empty := fun (h : 45 ∈ ([] : List Nat)) => nomatch h
theorem bad_empty : BadPl (Str.empty) := .inl rfl
theorem badS_lit {w : Str} (h : Txt.isdigit w = false) (nd : (tl w).all (· != 45) = true) (nb : (tl w).all (· != 32) = true) (l : w.length ≤ 100) : BadS w := ⟨.inl ⟨fun hm => by
  have := List.all_eq_true.mp nd 45 hm
  exact absurd this (by decide), .inl h⟩, nbs nb, l⟩
section
variable {x : Int}
theorem xl (h0 : 0 ≤ x) (h1 : x ≤ lastP + 5) : (dT x).length ≤ 31 := dT_len h0 (by decide) (lastP_lt h1)
/-- the wrong words of the law -/
theorem bad1 : BadS ("" : Str) := badS_lit (by decide +kernel) (by decide) (by decide) (by decide)
theorem bad2 (h0 : 0 ≤ x) (h1 : x ≤ lastP) : BadS (("0" : Str) ++ dT x) := by
  have e : tl (("0" : Str) ++ dT x) = 48 :: tl (dT x) := by rw [TL.tl_append]; rfl
  refine ⟨.inl ⟨?_, .inr (.inl ⟨_, e, dT_ne h0⟩)⟩, noBlank_app (nbs (by decide)) (dT_noBlank h0), ?_⟩
  · unfold noDash
    rw [e]
    intro h
    rcases List.mem_cons.mp h with k | k
    · exact absurd k (by decide)
    · exact dT_noDash h0 k
  · rw [len_app]
    have := xl h0 (by omega)
    show 1 + (dT x).length ≤ 100
    omega
theorem bad3 (h0 : 0 ≤ x) (h1 : x ≤ lastP) : BadS ((dT x ++ ("-" : Str)) ++ dT x) := by
  refine ⟨.inr (.inr (.inr ⟨x, x, rfl, h0, h1, h0, Int.le_refl _⟩)), noBlank_app (noBlank_app (dT_noBlank h0) (nbs (by decide))) (dT_noBlank h0), ?_⟩
  rw [len_app, len_app]
  have := xl h0 (by omega)
  show (dT x).length + 1 + (dT x).length ≤ 100
  omega
theorem bad4 (h0 : 0 ≤ x) (h1 : x ≤ lastP) : BadS ((dT (x + 1) ++ ("-" : Str)) ++ dT x) := by
  refine ⟨?_, noBlank_app (noBlank_app (dT_noBlank (by omega)) (nbs (by decide))) (dT_noBlank h0), ?_⟩
  · by_cases h : x + 1 ≤ lastP
    · exact .inr (.inr (.inr ⟨x + 1, x, rfl, by omega, h, h0, by omega⟩))
    · exact .inr (.inl ⟨dT (x + 1), dT x, rfl, dT_noDash (by omega), .inr (.inr ⟨x + 1, rfl, by omega, by omega⟩)⟩)
  · rw [len_app, len_app]
    have := xl h0 (by omega)
    have := xl (x := x + 1) (by omega) (by omega)
    show (dT (x + 1)).length + 1 + (dT x).length ≤ 100
    omega
theorem bad5 (h0 : 0 ≤ x) (h1 : x ≤ lastP) : BadS (("-" : Str) ++ dT x) := by
  refine ⟨.inr (.inl ⟨Str.empty, dT x, ?_, nd_empty, bad_empty⟩), noBlank_app (nbs (by decide)) (dT_noBlank h0), ?_⟩
  · refine str_ext ?_
    rw [TL.tl_append, TL.tl_append, TL.tl_append]
    rfl
  · rw [len_app]
    have := xl h0 (by omega)
    show 1 + (dT x).length ≤ 100
    omega
theorem bad6 (h0 : 0 ≤ x) (h1 : x ≤ lastP) : BadS (dT x ++ ("-" : Str)) := by
  refine ⟨.inr (.inr (.inl ⟨x, Str.empty, ?_, h0, h1, bad_empty⟩)), noBlank_app (dT_noBlank h0) (nbs (by decide)), ?_⟩
  · refine str_ext ?_
    rw [TL.tl_append, TL.tl_append, TL.tl_append]
    show _ = _ ++ []
    rw [List.append_nil]
  · rw [len_app]
    have := xl h0 (by omega)
    show (dT x).length + 1 ≤ 100
    omega
theorem bad7 : BadS ("x" : Str) := badS_lit (by decide +kernel) (by decide) (by decide) (by decide)
theorem bad8 : BadS ("+3" : Str) := badS_lit (by decide +kernel) (by decide) (by decide) (by decide)
theorem bad9 : BadS (dT (10 ^ 30 + 1)) := ⟨.inl ⟨dT_noDash (by decide), .inr (.inr ⟨10 ^ 30 + 1, rfl, by decide, by decide⟩)⟩, dT_noBlank (by decide), Nat.le_trans (xl (by decide) (by decide)) (by decide)⟩
theorem bad10 : BadS (("7-" : Str) ++ dT (10 ^ 30 + 5)) := by
  refine ⟨.inr (.inr (.inl ⟨7, dT (10 ^ 30 + 5), ?_, by decide, by decide, .inr (.inr ⟨10 ^ 30 + 5, rfl, by decide, by decide⟩)⟩)), noBlank_app (nbs (by decide)) (dT_noBlank (by decide)), ?_⟩
  · have : ("7-" : Str) = dT 7 ++ ("-" : Str) := by decide +kernel
    rw [this]
  · rw [len_app]
    have := xl (x := 10 ^ 30 + 5) (by decide) (by decide)
    show 2 + (dT (10 ^ 30 + 5)).length ≤ 100
    omega
theorem bad11 : BadS ("1-2-3" : Str) := ⟨.inr (.inr (.inl ⟨1, ("2-3" : Str), by decide +kernel, by decide, by decide, .inl (by decide +kernel)⟩)), nbs (by decide), by decide⟩
theorem bad12 : BadS ("00" : Str) := ⟨.inl ⟨fun h => by revert h; decide, .inr (.inl ⟨[48], by decide, by decide⟩)⟩, nbs (by decide), by decide⟩
theorem bad13 : BadS ("2-03" : Str) := ⟨.inr (.inr (.inl ⟨2, ("03" : Str), by decide +kernel, by decide, by decide, .inr (.inl ⟨[51], by decide, by decide⟩)⟩)), nbs (by decide), by decide⟩
theorem bad14 : BadS ("-" : Str) := ⟨.inr (.inl ⟨Str.empty, Str.empty, by decide, nd_empty, bad_empty⟩), nbs (by decide), by decide⟩
theorem bad15 (h0 : 0 ≤ x) (h1 : x ≤ lastP) : BadS (dT x ++ ("-x" : Str)) := by
  refine ⟨.inr (.inr (.inl ⟨x, ("x" : Str), ?_, h0, h1, .inl (by decide +kernel)⟩)), noBlank_app (dT_noBlank h0) (nbs (by decide)), ?_⟩
  · rw [app_assoc]
    have : ("-x" : Str) = ("-" : Str) ++ ("x" : Str) := by decide
    rw [this]
  · rw [len_app]
    have := xl h0 (by omega)
    show (dT x).length + 2 ≤ 100
    omega
theorem bad16 : BadS ("3," : Str) := badS_lit (by decide +kernel) (by decide) (by decide) (by decide)
theorem bad17 : BadS ("none" : Str) := badS_lit (by decide +kernel) (by decide) (by decide) (by decide)
theorem bad18 : BadS ("None" : Str) := badS_lit (by decide +kernel) (by decide) (by decide) (by decide)
end
/-- the text of words -/
def jn (ws : List Str) : Str := Txt.join (" " : Str) ws
theorem split_jn {ws : List Str} (h : ws ≠ []) (hb : ∀ w ∈ ws, noBlank w) : Txt.split (jn ws) (" " : Str) = ws := TL.split_join blank_tl (by decide +kernel) h hb
theorem jn_snoc : ∀ {ws : List Str} (w : Str), ws ≠ [] → jn (ws ++ [w]) = (jn ws ++ (" " : Str)) ++ w := by
  intro ws w h
  unfold jn
  rw [TL.join_eq, TL.join_eq]
  induction ws with
  | nil => exact absurd rfl h
  | cons a r ih =>
    cases r with
    | nil => rfl
    | cons b r =>
      show a ++ (" " : Str) ++ Str.join (" " : Str) (b :: (r ++ [w])) = a ++ (" " : Str) ++ Str.join (" " : Str) (b :: r) ++ (" " : Str) ++ w
      have := ih (by simp)
      rw [List.cons_append] at this
      rw [this]
      simp only [app_assoc]
/-- what the reading of words gives -/
def GoodRows (ws : List Str) (rows : List Row) : Prop := ws = rows.map sT ∧ Nf rows ∧ ∀ r ∈ rows, okRow r = true
/-- the first wrong word stands at j -/
structure WrongAt (ws : List Str) (j : Nat) : Prop where
  ex : ∃ (rows : List Row) (w : Str), GoodRows (ws.take j) rows ∧ ws[j]? = some w ∧ (BadW w ∨ ∃ r q : Row, w = sT r ∧ okRow r = true ∧ rows.getLast? = some q ∧ r.1 < q.2 + 2)
end OR

namespace OR
open PySem PySem.Spec PyProof.Rows L2
open TL (tl numL)
open NumText (digitsVal AllDigits)
/-! ### lists of signs, their numbers -/
def ofL (l : List Nat) : Str := ⟨l.toArray⟩
theorem tl_ofL (l : List Nat) : tl (ofL l) = l := rfl
theorem ofL_tl (s : Str) : ofL (tl s) = s := str_ext (tl_ofL _)
theorem len_ofL (l : List Nat) : (ofL l).length = l.length := by rw [TL.len_tl, tl_ofL]
def bodyL : List Nat → List Nat
  | [] => []
  | c :: r => if c = 45 then r else c :: r
def allDig (l : List Nat) : Bool := !l.isEmpty && l.all fun c => decide (48 ≤ c ∧ c ≤ 57)
theorem allDig_iff (l : List Nat) : allDig l = true ↔ l ≠ [] ∧ AllDigits l := by
  unfold allDig AllDigits
  rw [Bool.and_eq_true, List.all_eq_true]
  constructor
  · rintro ⟨h1, h2⟩
    refine ⟨fun e => ?_, fun c hc => of_decide_eq_true (h2 c hc)⟩
    subst e
    cases h1
  · rintro ⟨h1, h2⟩
    refine ⟨?_, fun c hc => decide_eq_true (h2 c hc)⟩
    cases l with
    | nil => exact absurd rfl h1
    | cons _ _ => rfl
theorem isD_lt : ∀ c : Nat, c < 128 → Unicode.isDigit c = true → 48 ≤ c ∧ c ≤ 57 := by decide +kernel
theorem ascDig_iff (l : List Nat) : (Txt.isascii (ofL l) && Txt.isdigit (ofL l)) = allDig l := by
  rw [Bool.eq_iff_iff, allDig_iff, Bool.and_eq_true]
  constructor
  · rintro ⟨h1, h2⟩
    unfold Txt.isascii at h1
    unfold Txt.isdigit at h2
    rw [← Array.all_toList, List.all_eq_true] at h1
    rw [Bool.and_eq_true, ← Array.all_toList, List.all_eq_true] at h2
    refine ⟨fun e => ?_, fun c hc => isD_lt c (of_decide_eq_true (h1 c hc)) (h2.2 c hc)⟩
    subst e
    exact absurd h2.1 (by decide)
  · rintro ⟨h1, h2⟩
    exact ⟨digit_asc (s := ofL l) h2, digit_dig (s := ofL l) h2 h1⟩
def decL (l : List Nat) : Option Int :=
  if allDig (bodyL l) = true then
    if (bodyL l).head? = some 48 ∧ l ≠ [48] then none
    else some (if l.head? = some 45 then -((digitsVal (bodyL l) : Nat) : Int) else ((digitsVal (bodyL l) : Nat) : Int))
  else none
theorem fold_acc : ∀ (b : List Nat) (acc : Nat), b.foldl (fun a c => a * 10 + (c - 48)) acc = acc * 10 ^ b.length + digitsVal b
  | [], acc => by simp [digitsVal]
  | c :: r, acc => by
    have h1 := fold_acc r (acc * 10 + (c - 48))
    have h2 := fold_acc r (0 * 10 + (c - 48))
    have e : digitsVal (c :: r) = r.foldl (fun a c => a * 10 + (c - 48)) (0 * 10 + (c - 48)) := rfl
    rw [e, h2, List.foldl_cons, h1, List.length_cons, Nat.pow_succ]
    simp only [Nat.add_mul, Nat.zero_mul, Nat.zero_add, Nat.mul_assoc, Nat.add_assoc]
    rw [Nat.mul_comm 10 (10 ^ r.length)]
theorem dv_app (a b : List Nat) : digitsVal (a ++ b) = digitsVal a * 10 ^ b.length + digitsVal b := by
  have e : digitsVal (a ++ b) = (a ++ b).foldl (fun a c => a * 10 + (c - 48)) 0 := rfl
  rw [e, List.foldl_append, fold_acc b]
  rfl
theorem dv_zeros (n : Nat) (d : List Nat) : digitsVal (List.replicate n 48 ++ d) = digitsVal d := by
  induction n with
  | zero => rfl
  | succ n ih => rw [List.replicate_succ, List.cons_append]; exact ih
theorem dv_lt : ∀ (d : List Nat), AllDigits d → digitsVal d < 10 ^ d.length
  | [], _ => by decide
  | c :: r, h => by
    have h1 := dv_lt r fun x hx => h x (List.mem_cons_of_mem _ hx)
    have h2 := h c List.mem_cons_self
    have e := dv_app [c] r
    have e3 : digitsVal [c] = c - 48 := by show 0 * 10 + (c - 48) = c - 48; omega
    rw [List.singleton_append, e3] at e
    rw [e, List.length_cons, Nat.pow_succ]
    have : (c - 48) * 10 ^ r.length ≤ 9 * 10 ^ r.length := Nat.mul_le_mul_right _ (by omega)
    omega
theorem big_pow : (10 : Nat) ^ 660 < 2 ^ 2640 := by decide +kernel
theorem dv_nat {d : List Nat} (h : AllDigits d) (hl : d.length ≤ 660) : ((digitsVal d : Nat) : Int).natAbs < 2 ^ 2640 := by
  rw [Int.natAbs_natCast]
  exact Nat.lt_of_lt_of_le (dv_lt d h) (Nat.le_of_lt (Nat.lt_of_le_of_lt (Nat.pow_le_pow_right (by decide) hl) big_pow))
theorem sw_minus (s : Str) : Txt.startswith s ("-" : Str) = decide ((tl s).head? = some 45) := by
  have e1 : ("-" : Str).length = 1 := by decide
  have e2 : tl ("-" : Str) = [45] := by decide
  have hA := TL.at_iff (x := s) (y := ("-" : Str)) (by decide) 0
  rw [Bool.eq_iff_iff, decide_eq_true_iff]
  unfold Txt.startswith
  have hp : TL.pre (tl ("-" : Str)) ((tl s).drop 0) = true ↔ (tl s).head? = some 45 := by
    rw [e2, List.drop_zero]
    cases tl s with
    | nil => exact ⟨fun h => absurd h (by decide), fun h => by cases h⟩
    | cons c r =>
      show ((c :: r).take 1 == [45]) = true ↔ _
      rw [beq_iff_eq]
      show [c] = [45] ↔ some c = some 45
      constructor
      · intro h; injection h with h; rw [h]
      · intro h; rw [Option.some.inj h]
  rw [← hp, ← hA, Bool.and_eq_true]
  show _ ↔ (0 + ("-" : Str).length ≤ s.length ∧ _)
  constructor
  · rintro ⟨h1, h2⟩
    exact ⟨of_decide_eq_true h1, h2⟩
  · rintro ⟨h1, h2⟩
    exact ⟨decide_eq_true h1, h2⟩
theorem cut_tail (s : Str) : cutS s (some 1) none = ofL ((tl s).drop 1) := by
  refine str_ext ?_
  show (((tl s).drop (HT.sIx s.length 0 (some 1))).take (HT.sIx s.length s.length none - HT.sIx s.length 0 (some 1))) = (tl s).drop 1
  have e := HT.sIx_nat s.length 0 1
  have e' : HT.sIx s.length 0 (some (1 : Int)) = min 1 s.length := e
  rw [e', HT.sIx_none, TL.len_tl]
  refine List.take_of_length_le ?_ |>.trans ?_
  · rw [List.length_drop]
    exact Nat.le_refl _
  · cases tl s with
    | nil => rfl
    | cons c r =>
      have : min 1 (c :: r).length = 1 := by simp only [List.length_cons]; omega
      rw [this]
theorem cut_60 (s : Str) (b : Nat) (h : b + 60 ≤ s.length) : cutS s (some (b : Int)) (some ((b : Int) + 60)) = ofL (((tl s).drop b).take 60) := by
  refine str_ext ?_
  show (((tl s).drop (HT.sIx s.length 0 (some (b : Int)))).take (HT.sIx s.length s.length (some ((b : Int) + 60)) - HT.sIx s.length 0 (some (b : Int)))) = ((tl s).drop b).take 60
  have e1 := HT.sIx_nat s.length 0 b
  have e2 := HT.sIx_nat s.length s.length (b + 60)
  have e3 : ((b + 60 : Nat) : Int) = (b : Int) + 60 := by omega
  rw [e3] at e2
  rw [e1, e2]
  have a1 : min b s.length = b := by omega
  have a2 : min (b + 60) s.length = b + 60 := by omega
  rw [a1, a2]
  have a3 : b + 60 - b = 60 := by omega
  rw [a3]
theorem mul_zeros : ∀ z : Nat, z < 60 → tl (Txt.mul ("0" : Str) (z : Int)) = List.replicate z 48 := by decide +kernel
theorem mulOk_zeros : ∀ z : Nat, z < 60 → MulOk ("0" : Str) (z : Int) := by unfold MulOk; decide +kernel
theorem rgC_60 : ∀ m : Nat, m < 12 → RgC 0 ((60 * m : Nat) : Int) 60 m := by unfold RgC; decide +kernel
theorem op_mul_str {X : Cx} : OpR X (binaryOp .Mult) (fun x y H Q => ∃ a n, x = .str a ∧ y = .int n ∧ MulOk a n ∧ Q (.str (Txt.mul a n)) H) := by
  intro pins s σ H x y v u Q I rx ry h
  obtain ⟨a, n, rfl, rfl, hk, q⟩ := h
  obtain ⟨t, rfl⟩ := rx
  obtain ⟨t', rfl⟩ := ry
  exact SB.mul hk fun t2 k => ⟨.str (Txt.mul a n), H, I.tok _, ⟨_, rfl⟩, q⟩
end OR

namespace OR
open PySem PySem.Spec PyProof.Rows L2
open TL (tl numL)
open NumText (digitsVal AllDigits)
theorem szx {n : Nat} (h : n ≤ 20000) : n ≤ sizeLine := Nat.le_trans h (by decide)
theorem bt_strT : bootBuiltins ("str" : Str) = some (.type "str") := by decide +kernel
theorem bt_intT : bootBuiltins ("int" : Str) = some (.type "int") := by decide +kernel
/-- what the top has left for the reading of numbers -/
structure NTxt (mg : Str → Option Value) : Prop where
  zLen : mg "len" = none
  zRange : mg "range" = none
  zInt : mg "int" = none
  bd : ∃ t, mg "_BLOCK_DIGITS" = some (.int 60 t)
  bl : ∃ t, mg "_BLOCK" = some (.int (10 ^ 60) t)
def vDec : Option Int → V
  | none => .non
  | some n => .int n
def spRDec : Sp := fun vs H Q _ => ∃ s : Str, vs = [.str s] ∧ s.length ≤ 600 ∧ Q (vDec (decL (tl s))) H
section
variable {P : Program} {w : World} {K : PySem.W.Frag} {mg : Str → Option Value} {base : Heap}
theorem scRDec : FnScope ["text", "digits", "padded", "number", "begin"] ["text"] (defScope sRDec) := ⟨rfl, rfl, rfl, by decide +kernel, rfl, by decide +kernel, by decide +kernel⟩
theorem ok_rdec {f : Addr} {fd : FuncData} (F : Fun K "read_decimal" "read_decimal" sRDec f fd) (T : NTxt mg) : FnOk P w K mg base CX0 1 f fd ["text"] spRDec := by
  obtain ⟨tb, hbd⟩ := T.bd
  obtain ⟨tk, hbl⟩ := T.bl
  refine F.ok scRDec (fun vs H Q E h => ?_) (fun cdv A outer s H vs Q E hr h => ?_)
  · obtain ⟨s, rfl, _⟩ := h
    rfl
  · obtain ⟨s, rfl, hlen, q⟩ := h
    have nd := scRDec.nd
    refine ⟨_, pss_cons (ps_set (i := 1) nd rfl (.inl rfl) (pe_ifExp (pt_val (pe_m1 PySem.F.slot_str_startswith PySem.F.type_str_startswith mt_startswith (pv 0) pe_str)) (pe_slice sl_str (pv 0) (po_some pe_int) po_none) (pv 0)))
      (pss_cons (ps_if (PW.pt (pw_or (pt_not (PW.pt (pw_and (pt_val (pe_m0 PySem.F.slot_str_isascii PySem.F.type_str_isascii mt_isascii (pv 1))) (pw_and1 (pt_val (pe_m0 PySem.F.slot_str_isdigit PySem.F.type_str_isdigit mt_isdigit (pv 1)))))))
        (pw_or1 (PW.pt (pw_and (pt_cmpR op_eq (pe_ix ix_str (pv 1) pe_int (fun _ _ => rfl)) pe_str (nomark _)) (pw_and1 (pt_cmpR op_ne (pv 0) pe_str (nomark _)))))))) (pss_one (ps_ret pe_non)) pss_nil)
      (pss_cons (ps_set (i := 2) nd rfl (.inl rfl) (pe_op op_add_str (pe_op op_mul_str pe_str (pe_op op_mod (pe_un un_neg (pe_callB call_len_str (by rfl) T.zLen PySem.boot_len (pa_cons (pv 1) pa_nil))) (pe_glob (v := .int 60) (by rfl) hbd ⟨_, rfl⟩))) (pv 1)))
      (pss_cons (ps_set (i := 3) nd rfl (.inl rfl) pe_int)
      (pss_cons (ps_for PassesOwn.never rfl (pi_range3 (by rfl) T.zRange (pa_cons pe_int (pa_cons (pe_callB call_len_str (by rfl) T.zLen PySem.boot_len (pa_cons (pv 2) pa_nil)) (pa_cons (pe_glob (v := .int 60) (by rfl) hbd ⟨_, rfl⟩) pa_nil)))) (pg_name (i := 4) nd rfl (.inl rfl))
        (pss_one (ps_set (i := 3) nd rfl (.inl rfl) (pe_op op_add (pe_op op_mulW (pv 3) (pe_glob (v := .int (10 ^ 60)) (by rfl) hbl ⟨_, rfl⟩))
          (pe_callTy call_int_str (by rfl) T.zInt bt_intT (pa_cons (pe_slice sl_str (pv 2) (po_some (pv 4)) (po_some (pe_op op_add (pv 4) (pe_glob (v := .int 60) (by rfl) hbd ⟨_, rfl⟩)))) pa_nil))))))
      (pss_one (ps_ret (pe_ifExp (pt_cmpR op_eq (pv 1) (pv 0) (nomark _)) (pv 3) (pe_un un_neg (pv 3))))))))), ?_⟩
    have hsz : s.length ≤ sizeLine := szx (by omega)
    have dlen : (bodyL (tl s)).length ≤ 600 := by
      rw [TL.len_tl] at hlen
      cases hc : tl s with
      | nil => exact Nat.zero_le _
      | cons c r =>
        rw [hc] at hlen
        have e : bodyL (c :: r) = if c = 45 then r else c :: r := rfl
        rw [e]
        by_cases z : c = 45
        · rw [if_pos z]; simp only [List.length_cons] at hlen; omega
        · rw [if_neg z]; exact hlen
    refine ⟨_, rfl, ⟨_, rfl⟩, s, _, rfl, rfl, ?_⟩
    rw [sw_minus]
    refine ⟨_, rfl, ?_⟩
    have two : (∃ X : Str, tl X = bodyL (tl s) ∧ (tl s).head? = some 45 ∧ X = ofL ((tl s).drop 1)) ∨ (∃ X : Str, tl X = bodyL (tl s) ∧ (tl s).head? ≠ some 45 ∧ X = s) := by
      cases hc : tl s with
      | nil => exact .inr ⟨s, hc, (by intro z; cases z), rfl⟩
      | cons c r =>
        by_cases z : c = 45
        · subst z; exact .inl ⟨ofL r, rfl, rfl, rfl⟩
        · refine .inr ⟨s, ?_, (by intro k; exact z (Option.some.inj k)), rfl⟩
          rw [hc]; show _ = if c = 45 then r else c :: r; rw [if_neg z]
    have XL : ∀ X : Str, tl X = bodyL (tl s) → X.length ≤ 600 := fun X hX => by rw [TL.len_tl, hX]; exact dlen
    have ad : ∀ X : Str, tl X = bodyL (tl s) → (Txt.isascii X && Txt.isdigit X) = allDig (tl X) := fun X hX => by rw [← ascDig_iff, ofL_tl]
    have h0s : V.str s = V.str ("0" : Str) ↔ tl s = [48] := by
      constructor
      · intro z; rw [V.str.inj z]; decide
      · intro z; rw [show s = ("0" : Str) from str_ext (by rw [z]; decide)]
    have h0c : ∀ c : Nat, V.str (⟨#[c]⟩ : Str) = V.str ("0" : Str) ↔ c = 48 := fun c => by
      constructor
      · intro e
        have e3 : [c] = [48] := congrArg tl (V.str.inj e)
        injection e3
      · intro e
        subst e
        rfl
    rcases two with ⟨X, hX, hm, eX⟩ | ⟨X, hX, hm, eX⟩
    case' inl =>
      refine ite2 (fun _ => ?_) (fun z => absurd (decide_eq_true hm) z)
      refine ⟨_, rfl, 1, rfl, s, rfl, hsz, ?_⟩
      rw [cut_tail, ← eX]
      have hfin : V.str X = V.str s ↔ ¬ (tl s).head? = some 45 := by
        refine ⟨fun z => ?_, fun z => absurd hm z⟩
        have e1 := congrArg (fun y => (tl y).length) (V.str.inj z)
        have e2 := congrArg (fun y => (tl y).length) eX
        simp only [tl_ofL, List.length_drop] at e1 e2
        cases hc : tl s with
        | nil => rw [hc] at hm; cases hm
        | cons c r => rw [hc] at e1 e2; simp only [List.length_cons] at e1 e2; omega
    case' inr =>
      refine ite2 (fun z => absurd (of_decide_eq_true z) hm) (fun _ => ?_)
      refine ⟨.str X, by rw [eX]; rfl, ?_⟩
      have hfin : V.str X = V.str s ↔ ¬ (tl s).head? = some 45 := ⟨fun _ => hm, fun _ => by rw [eX]⟩
    all_goals
      have hszX : X.length ≤ sizeLine := szx (by have := XL X hX; omega)
      have hl600 := XL X hX
      have hadX := ad X hX
      refine ⟨_, rfl, ⟨_, rfl⟩, X, rfl, rfl, trivial, _, rfl, ?_⟩
      cases hD : allDig (tl X) with
      | false =>
        have hn : decL (tl s) = none := by unfold decL; rw [← hX, hD]; rfl
        rw [hn] at q
        rw [hD] at hadX
        cases hA : Txt.isascii X with
        | false => exact iteF (iteT q)
        | true =>
          rw [hA, Bool.true_and] at hadX
          refine iteT ⟨_, rfl, ⟨_, rfl⟩, X, rfl, rfl, trivial, _, rfl, ?_⟩
          rw [hadX]
          exact iteT q
      | true =>
        rw [hD, Bool.and_eq_true] at hadX
        obtain ⟨hne, hdg⟩ := (allDig_iff _).mp hD
        rw [hadX.1]
        refine iteT ⟨_, rfl, ⟨_, rfl⟩, X, rfl, rfl, trivial, _, rfl, ?_⟩
        rw [hadX.2]
        obtain ⟨c, r, hc⟩ : ∃ c r, tl X = c :: r := by
          cases h : tl X with
          | nil => exact absurd h hne
          | cons c r => exact ⟨c, r, rfl⟩
        refine iteF ⟨_, rfl, X, 0, c, rfl, rfl, hszX, by show atI (tl X) 0 = some c; rw [hc]; exact atI_nat (j := 0) rfl, rfl, _, rfl, ?_⟩
        by_cases hno : c = 48 ∧ tl s ≠ [48]
        · have hn : decL (tl s) = none := by unfold decL; rw [← hX, hD, hc, if_pos rfl, if_pos ⟨by rw [hno.1]; rfl, hno.2⟩]
          rw [hn] at q
          refine ite2 (fun z => ?_) (fun z => absurd (decide_eq_true ((h0c c).mpr hno.1)) z)
          exact ⟨_, rfl, rfl, _, rfl, ite2 (fun _ => q) (fun z => absurd (show (!decide (V.str s = V.str ("0" : Str))) = true by rw [decide_eq_false (fun k => hno.2 (h0s.mp k))]; rfl) z)⟩
        have hv : decL (tl s) = some (if (tl s).head? = some 45 then -((digitsVal (tl X) : Nat) : Int) else ((digitsVal (tl X) : Nat) : Int)) := by
          unfold decL
          rw [← hX, hD, if_pos rfl, if_neg (fun k => hno ⟨?_, k.2⟩)]
          have := k.1
          rw [hc] at this
          exact Option.some.inj this
        rw [hv] at q
        refine ite2 (fun z => ?_) (fun z => iteF ?_)
        case' refine_1 => refine ⟨_, rfl, rfl, _, rfl, ite2 (fun z2 => ?_) (fun _ => ?_)⟩
        case' refine_1.refine_1 => exact absurd ⟨(h0c c).mp (of_decide_eq_true z), fun k => by rw [decide_eq_true (h0s.mpr k)] at z2; cases z2⟩ hno
        all_goals
          clear z
          obtain ⟨zn, m, hz, hz60, hm12, hzm⟩ : ∃ zn m : Nat, (-(X.length : Int)) % 60 = (zn : Int) ∧ zn < 60 ∧ m < 12 ∧ zn + X.length = 60 * m :=
            ⟨((-(X.length : Int)) % 60).toNat, (((-(X.length : Int)) % 60).toNat + X.length) / 60, by omega, by omega, by omega, by omega⟩
          have lz : (Txt.mul ("0" : Str) (zn : Int)).length = zn := by rw [TL.len_tl, mul_zeros zn hz60, List.length_replicate]
          have hY : tl (Txt.mul ("0" : Str) (zn : Int) ++ X) = List.replicate zn 48 ++ tl X := by rw [TL.tl_append, mul_zeros zn hz60]
          have lY : (Txt.mul ("0" : Str) (zn : Int) ++ X).length = 60 * m := by rw [len_app, lz]; exact hzm
          refine ⟨_, rfl, X, rfl, hszX, _, rfl, _, _, rfl, rfl, (by show (0 : Int) < 60; decide), ("0" : Str), (zn : Int), rfl, congrArg V.int hz, mulOk_zeros zn hz60, _, rfl, _, _, rfl, rfl, szx (by rw [lz]; omega), ?_⟩
          have hszY : (Txt.mul ("0" : Str) (zn : Int) ++ X).length ≤ sizeLine := szx (by omega)
          have adY : AllDigits (tl (Txt.mul ("0" : Str) (zn : Int) ++ X)) := by
            rw [hY]
            intro x hx
            rcases List.mem_append.mp hx with k | k
            · rw [List.eq_of_mem_replicate k]; decide
            · exact hdg x k
          have dvY : digitsVal (tl (Txt.mul ("0" : Str) (zn : Int) ++ X)) = digitsVal (tl X) := by rw [hY, dv_zeros]
          have lYt : (tl (Txt.mul ("0" : Str) (zn : Int) ++ X)).length = 60 * m := by rw [← TL.len_tl]; exact lY
          have hRg : RgC 0 ((Txt.mul ("0" : Str) (zn : Int) ++ X).length : Nat) 60 m := by rw [lY]; exact rgC_60 m hm12
          generalize hYe : Txt.mul ("0" : Str) (zn : Int) ++ X = Y at *
          refine ⟨_, rfl, Y, rfl, hszY, 0, _, 60, m, rfl, hRg, for_rangeC (lo := 0) (c := 60) (n := m) (fun i σ G => G = H ∧ ∃ s4, σ = [some (.str s), some (.str X), some (.str Y), some (.int (digitsVal ((tl Y).take (60 * i)) : Nat)), s4]) ⟨rfl, none, rfl⟩ ?_ ?_⟩
          · rintro i σ G hi ⟨rfl, s4, rfl⟩
            have hib : i * 60 + 60 ≤ Y.length := by rw [lY]; omega
            have hc60 : cutS Y (some (0 + (i : Int) * 60)) (some (0 + (i : Int) * 60 + 60)) = ofL (((tl Y).drop (i * 60)).take 60) := by
              have e : (0 + (i : Int) * 60) = ((i * 60 : Nat) : Int) := by omega
              rw [e]
              exact cut_60 Y (i * 60) hib
            have lch : (((tl Y).drop (i * 60)).take 60).length = 60 := by
              rw [List.length_take, List.length_drop, lYt]
              omega
            have adc : AllDigits (((tl Y).drop (i * 60)).take 60) := fun x hx => adY x (List.mem_of_mem_drop (List.mem_of_mem_take hx))
            have hint : intText? (cutS Y (some (0 + (i : Int) * 60)) (some (0 + (i : Int) * 60 + 60))) = some ((digitsVal (((tl Y).drop (i * 60)).take 60) : Nat) : Int) := by
              rw [hc60]
              exact PySem.intText_digits (x := ofL _) adc (fun e => by have := congrArg List.length e; rw [show (ofL (((tl Y).drop (i * 60)).take 60)).cps.toList = ((tl Y).drop (i * 60)).take 60 from rfl, lch] at this; cases this) (by rw [len_ofL, lch]; decide)
            have hlen2 : (cutS Y (some (0 + (i : Int) * 60)) (some (0 + (i : Int) * 60 + 60))).length ≤ 640 := by rw [hc60, len_ofL, lch]; decide
            have adt : AllDigits ((tl Y).take (60 * i)) := fun x hx => adY x (List.mem_of_mem_take hx)
            have hw := wide_mul (i := ((digitsVal ((tl Y).take (60 * i)) : Nat) : Int)) (j := 10 ^ 60) (a := 2640) (b := 300) (dv_nat adt (by rw [List.length_take]; omega)) (by decide +kernel) (by decide) (by decide) (by decide)
            refine ⟨_, rfl, _, _, rfl, rfl, hw, _, rfl, _, rfl, _, rfl, _, rfl, _, _, rfl, rfl, _, rfl, Y, rfl, hszY, _, _, rfl, hint, hlen2, _, _, rfl, rfl, rfl, some (.int (0 + (i : Int) * 60)), ?_⟩
            have e1 : (tl Y).take (60 * (i + 1)) = (tl Y).take (60 * i) ++ ((tl Y).drop (i * 60)).take 60 := by
              have : 60 * (i + 1) = 60 * i + 60 := by omega
              rw [this, List.take_add, Nat.mul_comm i 60]
            have e2 : digitsVal ((tl Y).take (60 * (i + 1))) = digitsVal ((tl Y).take (60 * i)) * 10 ^ 60 + digitsVal (((tl Y).drop (i * 60)).take 60) := by rw [e1, dv_app, lch]
            rw [e2]
            have e3 : ((digitsVal ((tl Y).take (60 * i)) * 10 ^ 60 + digitsVal (((tl Y).drop (i * 60)).take 60) : Nat) : Int) = ((digitsVal ((tl Y).take (60 * i)) : Nat) : Int) * 10 ^ 60 + ((digitsVal (((tl Y).drop (i * 60)).take 60) : Nat) : Int) := by omega
            rw [e3]
            rfl
          · rintro σ G ⟨rfl, s4, rfl⟩
            have ef : (tl Y).take (60 * m) = tl Y := List.take_of_length_le (by omega)
            rw [ef, dvY]
            refine ⟨_, rfl, _, rfl, rfl, _, rfl, ite2 (fun z => ?_) (fun z => ?_)⟩
            · rw [if_neg (hfin.mp (of_decide_eq_true z))] at q
              exact ⟨_, rfl, q⟩
            · by_cases h45 : (tl s).head? = some 45
              · rw [if_pos h45] at q
                exact ⟨_, rfl, _, rfl, q⟩
              · exact absurd (decide_eq_true (hfin.mpr h45)) z
end
end OR

namespace OR
open PySem PySem.Spec PyProof.Rows L2
open TL (tl numL)
open NumText (digitsVal AllDigits)
structure STxt (mg : Str → Option Value) : Prop where
  zStr : mg "str" = none
  zInt : mg "int" = none
  zLen : mg "len" = none
  zEnum : mg "enumerate" = none
  zIsi : mg "isinstance" = none
  last : ∃ t, mg "LAST_PLACE" = some (.int lastP t)
def textOf (l : List Row) : Str := if l = [] then ("none" : Str) else jn (l.map sT)
def spSText : Sp := fun vs H Q _ => ∃ r : Row, vs = [.int r.1, .int r.2] ∧ okRow r = true ∧ Q (.str (sT r)) H
def spRPl : Sp := fun vs H Q _ => ∃ s : Str, vs = [.str s] ∧ s.length ≤ 200 ∧ ((∃ n : Int, s = dT n ∧ 0 ≤ n ∧ n ≤ lastP ∧ Q (.int n) H) ∨ (BadPl s ∧ Q .non H))
def spRStr : Sp := fun vs H Q _ => ∃ s : Str, vs = [.str s] ∧ s.length ≤ 200 ∧ ((∃ r : Row, s = sT r ∧ okRow r = true ∧ ∀ t H', H t = none → H' t = some (.tup [.int r.1, .int r.2]) → Same H H' → Q (.ref t) H') ∨ (BadW s ∧ ∀ H', Same H H' → Q .non H'))
def spPText (C : Addr) : Sp := fun vs H Q _ => ∃ (x : Addr) (l : List Row), vs = [.ref x] ∧ IsP C H x l ∧ (∀ r ∈ l, okRow r = true) ∧ l.length ≤ 100 ∧ ∀ H', Same H H' → Q (.str (textOf l)) H'
theorem boot_strT : bootBuiltins ("str" : Str) = some (.type "str") := by decide +kernel
theorem sz1 {n : Nat} (h : n ≤ 20000) : n ≤ sizeLine := Nat.le_trans h (by decide)
theorem dlog {n : Int} (h0 : 0 ≤ n) (h : n ≤ lastP + 5) : n.natAbs.log2 < 1920 := by
  have : n.natAbs < 2 ^ 200 := Nat.lt_of_lt_of_le (show n.natAbs < 10 ^ 31 by have := lastP_lt h; omega) (by decide)
  exact PySem.Flt.log2_lt_of (by decide) (Nat.lt_of_lt_of_le this (Nat.pow_le_pow_right (by decide) (by decide)))
theorem emp_app (a : Str) : Str.empty ++ a = a := str_ext (by rw [TL.tl_append]; rfl)
theorem sum_le : ∀ (ws : List Str) (k : Nat), (∀ w ∈ ws, w.length ≤ k) → (ws.map (·.length)).sum ≤ ws.length * k
  | [], _, _ => by simp
  | w :: r, k, h => by
    have h1 := sum_le r k fun x hx => h x (List.mem_cons_of_mem _ hx)
    have h2 := h w List.mem_cons_self
    rw [List.map_cons, List.sum_cons, List.length_cons, Nat.succ_mul]
    omega
theorem jn_len (ws : List Str) (h : ∀ w ∈ ws, w.length ≤ 100) : (jn ws).length ≤ ws.length * 101 := by
  have h1 := StrLaws.join_length_le (" " : Str) ws
  have h2 := sum_le ws 100 h
  unfold jn
  rw [TL.join_eq]
  have : (" " : Str).length = 1 := by decide
  rw [this] at h1
  omega
section
variable {P : Program} {w : World} {K : PySem.W.Frag} {mg : Str → Option Value} {base : Heap}
theorem scST : FnScope ["first", "last"] ["first", "last"] (defScope sSText) := ⟨rfl, rfl, rfl, by decide +kernel, rfl, by decide +kernel, by decide +kernel⟩
theorem ok_stext {f : Addr} {fd : FuncData} (F : Fun K "_stretch_text" "_stretch_text" sSText f fd) (T : STxt mg) : FnOk P w K mg base CX0 1 f fd ["first", "last"] spSText := by
  refine F.ok scST (fun vs H Q E h => ?_) (fun cdv A outer s H vs Q E hr h => ?_)
  · obtain ⟨r, rfl, _⟩ := h
    rfl
  · obtain ⟨r, rfl, ok, q⟩ := h
    obtain ⟨h1, h2, h3⟩ := okRow_iff ok
    refine ⟨_, pss_one (ps_ret (pe_ifExp (pt_cmpR op_eq (pv 0) (pv 1) (nomark _)) (pe_callTy call_str_int (by rfl) T.zStr boot_strT (pa_cons (pv 0) pa_nil))
      (pe_joined (.cons (pe_fmt (pv 0)) (.cons pe_str (.cons (pe_fmt (pv 1)) .nil)))))), ?_⟩
    have l1 := xl (x := r.1) (by omega) (by omega)
    have l2 := xl (x := r.2) (by omega) (by omega)
    refine ⟨_, rfl, _, rfl, rfl, _, rfl, ite2 (fun e => ?_) (fun e => ?_)⟩
    · have e1 : r.1 = r.2 := V.int.inj (of_decide_eq_true e)
      have q1 := q
      unfold sT at q1
      rw [if_pos e1] at q1
      exact ⟨_, rfl, r.1, rfl, dlog (by omega) (by omega), q1⟩
    · have e1 : ¬ r.1 = r.2 := fun z => e (decide_eq_true (by rw [z]))
      have q1 := q
      unfold sT at q1
      rw [if_neg e1] at q1
      refine ⟨_, rfl, .inr ⟨r.1, rfl, dlog (by omega) (by omega), _, rfl, sz1 ?_, _, rfl, sz1 ?_, _, rfl, .inr ⟨r.2, rfl, dlog (by omega) (by omega), _, rfl, sz1 ?_, ?_⟩⟩⟩
      · show (Str.empty ++ dT r.1).length ≤ 20000
        rw [emp_app]; omega
      · show ((Str.empty ++ dT r.1) ++ ("-" : Str)).length ≤ 20000
        rw [emp_app, len_app]
        show (dT r.1).length + 1 ≤ 20000
        omega
      · show (((Str.empty ++ dT r.1) ++ ("-" : Str)) ++ dT r.2).length ≤ 20000
        rw [emp_app, len_app, len_app]
        show (dT r.1).length + 1 + (dT r.2).length ≤ 20000
        omega
      · show Q (.str (((Str.empty ++ dT r.1) ++ ("-" : Str)) ++ dT r.2)) H
        rw [emp_app]
        exact q1
theorem scRP : FnScope ["text", "number"] ["text"] (defScope sRPl) := ⟨rfl, rfl, rfl, by decide +kernel, rfl, by decide +kernel, by decide +kernel⟩
theorem at_head {c : Nat} {r : List Nat} : atI (c :: r) 0 = some c := atI_nat (j := 0) rfl
theorem bodyL_dig {l : List Nat} (h : AllDigits l) : bodyL l = l := by
  cases l with
  | nil => rfl
  | cons c r =>
    have := h c List.mem_cons_self
    show (if c = 45 then r else c :: r) = _
    rw [if_neg (by omega)]
theorem hd_dig {l : List Nat} (h : AllDigits l) : l.head? ≠ some 45 := fun e => by
  cases l with
  | nil => cases e
  | cons c r =>
    have := h c List.mem_cons_self
    have := Option.some.inj e
    omega
theorem decL_dT {n : Int} (h0 : 0 ≤ n) : decL (tl (dT n)) = some n := by
  have hd : AllDigits (tl (dT n)) := dT_digits h0
  unfold decL
  rw [bodyL_dig hd, (allDig_iff _).mpr ⟨dT_ne h0, hd⟩, if_pos rfl, if_neg (fun k => ?_), if_neg (hd_dig hd), tl_dT h0, TL.numL_val, Int.toNat_of_nonneg h0]
  rw [tl_dT h0] at k
  have e := numL_head n.toNat k.1
  refine k.2 ?_
  rw [e]
  decide
theorem decL_bad {s : Str} (h : BadPl s) : decL (tl s) = none ∨ ∃ n, decL (tl s) = some n ∧ placeB n = false := by
  rcases h with h | ⟨r, h, hne⟩ | ⟨n, e, h0, h1⟩
  · cases hd : decL (tl s) with
    | none => exact .inl rfl
    | some m =>
      refine .inr ⟨m, rfl, ?_⟩
      unfold decL at hd
      by_cases hA : allDig (bodyL (tl s)) = true
      · rw [if_pos hA] at hd
        by_cases h48 : (bodyL (tl s)).head? = some 48 ∧ tl s ≠ [48]
        · rw [if_pos h48] at hd; cases hd
        · rw [if_neg h48] at hd
          by_cases h45 : (tl s).head? = some 45
          · rw [if_pos h45] at hd
            have em := Option.some.inj hd
            obtain ⟨hne, hdg⟩ := (allDig_iff _).mp hA
            have pos : 0 < digitsVal (bodyL (tl s)) := by
              cases hb : bodyL (tl s) with
              | nil => exact absurd hb hne
              | cons c r =>
                refine NumText.digitsVal_pos ?_
                have h3 := hdg c (by rw [hb]; exact List.mem_cons_self)
                have h4 : c ≠ 48 := fun e => h48 ⟨by rw [hb, e]; rfl, fun e2 => by rw [e2] at h45; exact absurd h45 (by decide)⟩
                omega
            unfold placeB
            rw [decide_eq_false (by omega), Bool.false_and]
          · exfalso
            have eb : bodyL (tl s) = tl s := by
              cases hc : tl s with
              | nil => rfl
              | cons c r =>
                show (if c = 45 then r else c :: r) = _
                rw [if_neg (fun e => h45 (by rw [hc, e]; rfl))]
            rw [eb] at hA
            have h5 := ascDig_iff (tl s)
            rw [ofL_tl, hA, h, Bool.and_false] at h5
            cases h5
      · rw [if_neg hA] at hd; cases hd
  · left
    have eb : bodyL (tl s) = tl s := by rw [h]; rfl
    unfold decL
    rw [eb]
    by_cases hA : allDig (tl s) = true
    · rw [if_pos hA, if_pos ⟨by rw [h]; rfl, fun e => by rw [h] at e; injection e with _ e; exact hne e⟩]
    · rw [if_neg hA]
  · have l0 : lastP = 10 ^ 30 := rfl
    refine .inr ⟨n, by rw [e]; exact decL_dT (by omega), ?_⟩
    unfold placeB
    rw [decide_eq_false (p := n ≤ lastP) (by omega), Bool.and_false]
theorem ok_rpl {f : Addr} {fd : FuncData} (F : Fun K "read_place" "read_place" sRPl f fd) (RD : Cl P w K mg base 1 "read_decimal" ["text"] spRDec) (IP : Cl P w K mg base 2 "is_place" ["value"] (spIsPlace K)) : FnOk P w K mg base CX0 3 f fd ["text"] spRPl := by
  refine F.ok scRP (fun vs H Q E h => ?_) (fun cdv A outer s H vs Q E hr h => ?_)
  · obtain ⟨s, rfl, _⟩ := h
    rfl
  · obtain ⟨s, rfl, hlen, h⟩ := h
    have nd := scRP.nd
    refine ⟨_, pss_cons (ps_set (i := 1) nd rfl (.inl rfl) (pe_cl RD hr (by decide) (by rfl) (pa_cons (pv 0) pa_nil)))
      (pss_one (ps_ret (pe_ifExp (pt_val (pe_cl IP hr (by decide) (by rfl) (pa_cons (pv 1) pa_nil))) (pv 1) pe_non))), ?_⟩
    refine ⟨_, rfl, s, rfl, by omega, ?_⟩
    rcases h with ⟨n, e, h0, h1, q⟩ | ⟨hb, q⟩
    · rw [e, decL_dT h0]
      have hp : placeB n = true := by unfold placeB; rw [decide_eq_true h0, decide_eq_true h1]; rfl
      refine ⟨_, rfl, .int n, rfl, .inl ⟨n, rfl, _, rfl, ?_⟩⟩
      rw [hp]
      exact iteT ⟨_, rfl, q⟩
    · rcases decL_bad hb with e | ⟨n, e, hp⟩
      · rw [e]
        exact ⟨_, rfl, .non, rfl, .inr ⟨"NoneType", false, false, .base .non, by decide +kernel, by decide +kernel, rfl, _, rfl, iteF q⟩⟩
      · rw [e]
        refine ⟨_, rfl, .int n, rfl, .inl ⟨n, rfl, _, rfl, ?_⟩⟩
        rw [hp]
        exact iteF q
end
end OR

namespace OR
open PySem PySem.Spec PyProof.Rows L2
open TL (tl numL)
open ClX
/-! ### what was caught -/
/-- isinstance(e, c), e what the suite holds, with a dict of its own -/
def rIsX (K : PySem.W.Frag) (D a : Addr) (cls : Value) (d : Option Addr) : List V → Hp → VK → Prop := fun xs H Q => cls = .ref D ∧ ∃ (dd : Addr) (fs : List (Str × V)), d = some dd ∧ H dd = some (.xd fs) ∧ ∃ (c : V) (cv : Value) (b : Bool), xs = [.ref a, c] ∧ (∀ u, RelV c u → u = cv) ∧ PySem.W.kitOne K (.ref D) cv = some b ∧ Q (.bl b) H
theorem call_isX {X : Cx} {a D : Addr} {oe : Obj} {cls : Value} {d : Option Addr} {pn : List (Addr × Obj)} (G : ExcC X.K D) (hz : Zc cls d oe) (hf : ∃ vs, oe.data = .fields vs) : CallR (X.suite a ((a, oe) :: pn)) (.builtin "isinstance") (rIsX X.K D a cls d) := by
  intro pins s σ H xs us Q I r h
  obtain ⟨ec, dd, fs, ed, hdd, c, cv, b, rfl, hcv, hk, q⟩ := h
  subst ec ed
  obtain ⟨u1, u2, rfl, r1, r2⟩ := r.two
  cases r1
  have e2 := hcv _ r2
  subst e2
  have pinned := (I.pin (a, oe) (List.mem_append.mpr (.inl List.mem_cons_self))).1
  obtain ⟨vs, hdat⟩ := hf
  obtain ⟨mA, hns, _⟩ := I.hok dd _ hdd
  obtain ⟨od, ho, _⟩ := lookIn_ns hns
  have J : PySem.W.InstAt s.heap a oe D (some od) := ⟨pinned, hz.1, by unfold PySem.W.notCls; rw [hdat] <;> rfl, by rw [hz.2]; exact ho⟩
  have hcl : (PySem.W.clsIn X.K D).isSome = true := by
    obtain ⟨cd, hc, _⟩ := PySem.W.any_some G.hd
    rw [hc]
    rfl
  exact PySem.W.kia_one (PySem.W.kitx_exc hcl G.hg G.hk G.hs G.ha G.hn G.ht G.hm) I.kIn J hk (fun z => nomatch z) fun tk => ⟨.bl b, H, I.kept (t' := tk) fun _ _ z => z, rfl, q⟩

theorem run_atS {X : Cx} {CX : CXT} {n : Nat} {f : Addr} {sp : Sp} {E : XK} {A' : Around} {pins : List (Addr × Obj)} {σ : L2.St} {H : Hp} {s : Shared} {Q : VK} {us : List Value} {vs : List V} (F : FnR X.prog X.w X.K X.mg X.base CX n f sp) (room : Room n A') (e0 : Env0 X.prog X.w X.K X.mg X.base A' X.stack s H) (hx : PassesAt CX X σ E)
    (I : Inv X pins σ H s) (r : Vals vs us) (h : sp vs H Q E) : codeAny (model X.prog X.w) A' (.call (.ref f) ⟨us, []⟩) (fun r s' => match r with | .ok (.ret v) => EP X pins σ Q v s' | .ok _ => False | .error e => X.xe e s') s := by
  refine codeAny_mono (F A' X.stack s H us vs Q E room e0 r h) fun r s' g => ?_
  rcases r with e | fl
  · exact hx pins H s e s' I g
  cases fl with
  | ret u => exact I.after g
  | _ => exact False.elim g
theorem fnR_ofX {P : Program} {w : World} {K : PySem.W.Frag} {mg : Str → Option Value} {base : Heap} {CX : CXT} {k : Nat} {f : Addr} {fd : FuncData} {ps : List Str} {sp : Sp} (F : FnOk P w K mg base CX k f fd ps sp) (hb : Binds K fd ps []) : FnR P w K mg base CX k f sp :=
  (F.raw hb .nil).imp fun vs H Q E h => by rw [List.append_nil]; exact h
/-! ### BadText(index) -/
def spBtI (CB : Addr) : Sp := fun vs H Q _ => ∃ (a : Addr) (v : V), vs = [.ref a, v] ∧ H a = some (exo a CB none) ∧ ∀ dx, H dx = none → dx ≠ a → Q .non (upd (upd H dx (exd dx [(("index" : Str), v)])) a (exo a CB (some dx)))
/-- what the top has left of the class -/
structure BtTxt (K : PySem.W.Frag) (mg : Str → Option Value) (CB CR fI : Addr) : Prop where
  gB : mg "BadText" = some (.ref CB)
  gR : mg "RangesError" = some (.ref CR)
  ox : OexC K CB
  xf : XfC K CB
  xc : ExcC K CB
  noI : PySem.W.findIn K (.ref CB) "index" = some none
  iC : PySem.W.findIn K (.ref CB) "__init__" = some (some (.ref fI))
  tI : PySem.W.typeIn K (.ref fI) = some (.type "function")
  self : PySem.W.exmOne K (.ref CB) (.ref CB) = some true
  kR : PySem.W.kitOne K (.ref CB) (.ref CR) = some true
section
variable {P : Program} {w : World} {K : PySem.W.Frag} {mg : Str → Option Value} {base : Heap}
theorem scBtI : FnScope ["self", "index"] ["self", "index"] (defScope sBtInit) := ⟨rfl, rfl, rfl, by decide +kernel, rfl, by decide +kernel, by decide +kernel⟩
theorem ok_btinit {f CB CR fI : Addr} {fd : FuncData} (F : Fun K "__init__" "BadText.__init__" sBtInit f fd) (T : BtTxt K mg CB CR fI) : FnOk P w K mg base CX0 1 f fd ["self", "index"] (spBtI CB) := by
  refine F.ok scBtI (fun vs H Q E h => ?_) (fun cdv A outer s H vs Q E hr h => ?_)
  · obtain ⟨a, v, rfl, _⟩ := h
    rfl
  · obtain ⟨a, v, rfl, ha, q⟩ := h
    refine ⟨_, pss_one (ps_ost (pv 0) (pv 1)), ?_⟩
    exact ⟨_, rfl, _, rfl, a, CB, rfl, T.ox, T.noI, .inl ⟨ha, q⟩⟩
end
/-! ### a class in a local; a class's own method in a try -/
def tMkPv (K : PySem.W.Frag) (C : Addr) (tf : TE) (t : TA) : TE := fun σ H Q => tf σ H fun y H1 => y = .ref C ∧ tMkP K C t σ H1 Q
def tMkPv0 (C : Addr) (tf : TE) : TE := fun σ H Q => tf σ H fun y H1 => y = .ref C ∧ tMkP0 C σ H1 Q
theorem pe_mkPv {X : Cx} (K : PySem.W.Frag) (hK : X.K = K) {C : Addr} {j : Nat} {fe e : Expr} {es : List Expr} {tf : TE} {t : TA} {pos : Pos} (M : PMk' X.prog X.w X.K X.mg X.base C) (hr : Room j X.A) (hj : 5 ≤ j) (hf : PE X fe tf) (ha : PA X (e :: es) t)
    (ht : eval (.Call fe (e :: es) [] pos) X.env = (do callWith pos (← eval fe X.env) [] (backTo pos (starEach (e :: es) X.env)) (backToKw pos (keywordEach [] X.env))) := by rfl)
    (he : starEach (e :: es) X.env = (false, eval e X.env) :: starEach es X.env := by rfl) (hpl : (backTo pos (starEach es X.env)).any (·.1) = false := by rfl) : PE X (.Call fe (e :: es) [] pos) (tMkPv K C tf t) := by
  subst hK
  obtain ⟨f, fd, t0, mk, F, hb, _⟩ := M.made
  refine ⟨fun pins s σ H Q I h => ?_⟩
  refine Call_ (thn (hf.run pins s σ H _ I h) fun u s0 ⟨y, H0, I0, ry, ey, h⟩ => ?_) ht
  subst ey
  obtain rfl : u = Value.ref C := ry
  refine PySem.W.callWith_K (h₀ := X.base) I0.ok.mod.kin mk.kp (thn (ha.run pos pins s0 σ H0 _ I0 h) fun us s1 ⟨vs, H1, I1, r, q⟩ => ⟨I1.kIn, ?_⟩) he hpl
  obtain ⟨a, L, rfl, hS, hlen, hP, hok, q⟩ := q
  refine run_make mk F (hr.mono hj) hb .nil pass0 I1 r fun x dx nx ndx nex => ?_
  have S1 : Same H1 (upd (upd H1 dx (.own x)) x (.ins C dx [])) := fun c o e => by rw [upd_ne (ne_of_none e nx), upd_ne (ne_of_none e ndx)]; exact e
  exact ⟨x, dx, a, L, rfl, upd_same, hS.elim (fun e => .inl (S1.seq e)) (fun e => .inr (sameT S1 e)), hlen, hP.same S1, hok, fun l H' hs hp hme hle => ⟨rfl, q x l H' nx hp hme hle (made_same nx ndx hs)⟩⟩
theorem pe_mkPv0 {X : Cx} {C : Addr} {j : Nat} {fe : Expr} {tf : TE} {pos : Pos} (M : PMk' X.prog X.w X.K X.mg X.base C) (hr : Room j X.A) (hj : 5 ≤ j) (hf : PE X fe tf)
    (ht : eval (.Call fe [] [] pos) X.env = (do callWith pos (← eval fe X.env) [] (backTo pos (starEach [] X.env)) (backToKw pos (keywordEach [] X.env))) := by rfl) : PE X (.Call fe [] [] pos) (tMkPv0 C tf) := by
  obtain ⟨f, fd, t0, mk, F, _, hb, hts⟩ := M.made
  refine ⟨fun pins s σ H Q I h => ?_⟩
  refine Call_ (thn (hf.run pins s σ H _ I h) fun u s0 ⟨y, H0, I0, ry, ey, q⟩ => ?_) ht
  subst ey
  obtain rfl : u = Value.ref C := ry
  refine PySem.W.callWith_K0 I0.kIn mk.kp (run_make (us := []) (vs := []) (dvs := [.ref t0]) mk F (hr.mono hj) hb (.cons rfl .nil) pass0 I0 .nil fun x dx nx ndx nex => ?_)
  refine ⟨x, dx, t0, [], rfl, upd_same, .inr (hts _), Nat.zero_le _, (fun _ z => nomatch z), (fun _ z => nomatch z), fun l H' hs hp hme _ => ⟨rfl, ?_⟩⟩
  have el : l = [] := Nf.unique hp.nf Nf.nil hme
  subst el
  exact q x H' nx hp (made_same nx ndx hs)
theorem run_cmS {X : Cx} {CX : CXT} {k : Nat} {C g q : Addr} {sp : Sp} {E : XK} {pins : List (Addr × Obj)} {σ : L2.St} {H : Hp} {s : Shared} {Q : VK} {us : List Value} {vs : List V} (F : FnR X.prog X.w X.K X.mg X.base CX k g sp) (hr : Room k X.A) (hx : PassesAt CX X σ E) (I : Inv X ((q, PySem.W.methodObj (.ref g) (.ref C)) :: pins) σ H s)
    (r : Vals vs us) (h : sp (.ref C :: vs) H Q E) : wpAny (model X.prog X.w) X.A (call (.ref q) us) (EP X pins σ Q) X.xe s := by
  have z : wpAny (model X.prog X.w) X.A (call (.ref q) us) (EP X ((q, PySem.W.methodObj (.ref g) (.ref C)) :: pins) σ Q) X.xe s :=
    wpAny_call (PySem.W.method_call (pin_at I) (run_atS (us := .ref C :: us) (vs := .ref C :: vs) F hr I.env0 hx I (.cons rfl r) h))
  exact thn z fun _ _ y => unpinE y
def tCMethS (C : Addr) (sp : Sp) (E : L2.St → XK) (ta : TE) (t : TA) : TE := fun σ H Q => ta σ H fun x H1 => x = .ref C ∧ t σ H1 fun vs H2 => sp (.ref C :: vs) H2 Q (E σ)
theorem pe_cmethS {X : Cx} {CX : CXT} {k : Nat} {C p g : Addr} {mc : Value} {sp : Sp} {E : L2.St → XK} {o e : Expr} {es : List Expr} {m : Str} {pos apos : Pos} {ta : TE} {t : TA} {pl : Sem Bool} (he : PE X o ta) (r : CRead X.K C mc) (c : CMet X.K C mc m p g) (F : FnR X.prog X.w X.K X.mg X.base CX k g sp) (hr : Room k X.A) (hx : ∀ σ, PassesAt CX X σ (E σ)) (ha : PA X (e :: es) t)
    (hst : starEach (e :: es) X.env = (false, eval e X.env) :: starEach es X.env := by rfl) (hpl : (backTo pos (starEach es X.env)).any (·.1) = false := by rfl)
    (ht : eval (.Call (.Attribute o m apos) (e :: es) [] pos) X.env = (do
      let ov ← eval o X.env
      standAt apos.atName
      let (f, first) ← holding [ov] (getMethod ov m pl)
      callWith pos f first (backTo pos (starEach (e :: es) X.env)) (backToKw pos (keywordEach [] X.env))) := by rfl) :
    PE X (.Call (.Attribute o m apos) (e :: es) [] pos) (tCMethS C sp E ta t) := by
  refine ⟨fun pins s σ H Q I h => ?_⟩
  refine PySem.W.methodCall_KW (pl := pl) (thn (he.run pins s σ H _ I h) fun u s1 ⟨x, H1, I1, rx, ex, q⟩ => ?_) ht
  subst ex
  obtain rfl : u = Value.ref C := rx
  refine getmethcm_ok I1 r c fun s2 I2 => ?_
  refine callwith_cm I2 (base_none I1 (Nat.le_refl _)) c.fi (thn (ha.run pos _ s2 σ H1 _ I2 q) fun us s3 ⟨vs, H2, I3, rv, q2⟩ => ⟨⟨pin_at I3, I3.kIn⟩, ?_⟩) hst hpl
  exact run_cmS F hr (hx σ) I3 rv q2
/-! ### texts read -/
/-- what is read, as it should be -/
def Reads1 (v : V) (rows : List Row) : Prop := ∃ ws : List Str, v = .str (jn ws) ∧ ws ≠ [] ∧ (∀ w ∈ ws, noBlank w) ∧ (∀ w ∈ ws, w.length ≤ 100) ∧ ws.length ≤ 100 ∧ ((ws = [("none" : Str)] ∧ rows = []) ∨ GoodRows ws rows)
def Fails1 (K : PySem.W.Frag) (H : Hp) (v : V) (j : Nat) : Prop := (∃ T : String, TyX K H v (.type T) ∧ kitB T "str" = some false ∧ j = 0) ∨
  ∃ ws : List Str, v = .str (jn ws) ∧ ws ≠ [] ∧ (∀ w ∈ ws, noBlank w) ∧ (∀ w ∈ ws, w.length ≤ 100) ∧ ws.length ≤ 100 ∧ ((∃ w r, ws = ("none" : Str) :: w :: r ∧ j = 1) ∨ (WrongAt ws j ∧ ws[0]? ≠ some ("none" : Str)))
def spRead (K : PySem.W.Frag) (C CB : Addr) : Sp := fun vs H Q E => ∃ v : V, vs = [.ref C, v] ∧ ((∃ rows, Reads1 v rows ∧ ∀ x H', IsP C H' x rows → Same H H' → Q (.ref x) H') ∨
  (∃ j : Nat, Fails1 K H v j ∧ ∀ d H', H d = none → H' d = some (.xd [(("index" : Str), .int (j : Nat))]) → Same H H' → E (.ref CB) (some d) H'))
def spTold (K : PySem.W.Frag) : Sp := fun vs H Q _ => ∃ v : V, vs = [v] ∧ ((∃ rows, Reads1 v rows ∧ ∀ t (M : List ARow) H', H' t = some (.tup (refs M)) → AtR H' M → rws M = rows → Same H H' → Q (.ref t) H') ∨
  (∃ j : Nat, Fails1 K H v j ∧ ∀ H', Same H H' → Q (.int (j : Nat)) H'))
theorem sT_none {r : Row} (h : okRow r = true) : sT r ≠ ("none" : Str) := fun e => by
  obtain ⟨h1, h2, h3⟩ := okRow_iff h
  have hm : 110 ∈ tl (sT r) := by rw [e]; decide
  unfold sT at hm
  split at hm
  · exact dT_free (by omega) (.inr (by decide)) hm
  · rw [TL.tl_append, TL.tl_append] at hm
    rcases List.mem_append.mp hm with k | k
    · rcases List.mem_append.mp k with k | k
      · exact dT_free (by omega) (.inr (by decide)) k
      · revert k; decide
    · exact dT_free (by omega) (.inr (by decide)) k
section
variable {P : Program} {w : World} {K : PySem.W.Frag} {mg : Str → Option Value} {base : Heap}
theorem scRS : FnScope ["word", "start", "dash", "end", "first", "last"] ["word"] (defScope sRStr) := ⟨rfl, rfl, rfl, by decide +kernel, rfl, by decide +kernel, by decide +kernel⟩
theorem ok_rstr {f : Addr} {fd : FuncData} (F : Fun K "_read_stretch" "_read_stretch" sRStr f fd) (RP : Cl P w K mg base 3 "read_place" ["text"] spRPl) : FnOk P w K mg base CX0 4 f fd ["word"] spRStr := by
  refine F.ok scRS (fun vs H Q E h => ?_) (fun cdv A outer s H vs Q E hr h => ?_)
  · obtain ⟨s, rfl, _⟩ := h
    rfl
  · obtain ⟨s, rfl, hlen, h⟩ := h
    have nd := scRS.nd
    refine ⟨_, pss_cons (ps_asg (pe_partition (pv 0) pe_str) (pg_tup rfl (pgs_cons (pg_name (i := 1) nd rfl (.inl rfl)) (pgs_cons (pg_name (i := 2) nd rfl (.inl rfl)) (pgs_cons (pg_name (i := 3) nd rfl (.inl rfl)) pgs_nil)))))
      (pss_cons (ps_set (i := 4) nd rfl (.inl rfl) (pe_cl RP hr (by decide) (by rfl) (pa_cons (pv 1) pa_nil)))
      (pss_cons (ps_if (pt_cmp (pc_isN (pv 4))) (pss_one (ps_ret pe_non)) pss_nil)
      (pss_cons (ps_if (pt_not (pt_truth (pv 2) (by intro _; rfl))) (pss_one (ps_ret (pe_tup (pa_cons (pv 4) (pa_cons (pv 4) pa_nil))))) pss_nil)
      (pss_cons (ps_set (i := 5) nd rfl (.inl rfl) (pe_cl RP hr (by decide) (by rfl) (pa_cons (pv 3) pa_nil)))
      (pss_cons (ps_if (PW.pt (pw_or (pt_cmp (pc_isN (pv 5))) (pw_or1 (pt_cmpR op_ge (pv 4) (pv 5) (nomark _))))) (pss_one (ps_ret pe_non)) pss_nil)
      (pss_one (ps_ret (pe_tup (pa_cons (pv 4) (pa_cons (pv 5) pa_nil)))))))))), ?_⟩
    have two : 2 ≤ sizeLine := by decide
    have hd1 : (("-" : Str).length == 0) = false := by decide
    refine ⟨_, rfl, ⟨_, rfl⟩, s, _, rfl, rfl, hd1, sz1 (by omega), fun p np => ?_⟩
    have S1 := same_lay (o := .tup [.str (Txt.partition s ("-" : Str)).1, .str (Txt.partition s ("-" : Str)).2.1, .str (Txt.partition s ("-" : Str)).2.2]) np
    have hp : (upd H p (.tup [.str (Txt.partition s ("-" : Str)).1, .str (Txt.partition s ("-" : Str)).2.1, .str (Txt.partition s ("-" : Str)).2.2])) p = some (.tup [.str (Txt.partition s ("-" : Str)).1, .str (Txt.partition s ("-" : Str)).2.1, .str (Txt.partition s ("-" : Str)).2.2]) := upd_same
    refine ⟨p, _, rfl, .inl (.inl hp), rfl, _, _, rfl, _, _, rfl, _, _, rfl, rfl, ?_⟩
    -- no dash, a dash
    rcases h with ⟨r, e, ok, q⟩ | ⟨hb, q⟩
    · obtain ⟨h1, h2, h3⟩ := okRow_iff ok
      by_cases e12 : r.1 = r.2
      · have es : s = dT r.1 := by rw [e]; unfold sT; rw [if_pos e12]
        have hpt : Txt.partition s ("-" : Str) = (s, Str.empty, Str.empty) := part_none (by rw [es]; exact dT_noDash (by omega))
        rw [hpt] at S1 ⊢
        refine ⟨_, rfl, s, rfl, hlen, .inl ⟨r.1, es, by omega, by omega, ?_⟩⟩
        refine ⟨_, rfl, _, rfl, iteF ?_⟩
        refine ⟨_, rfl, false, ⟨by show (Str.empty).length ≤ sizeLine; decide, rfl⟩, iteT ?_⟩
        refine ⟨_, rfl, _, rfl, two, fun t ht => q t _ (S1.free ht) ?_ (S1.trans (same_lay ht))⟩
        rw [← e12]
        exact upd_same
      · have es : s = (dT r.1 ++ ("-" : Str)) ++ dT r.2 := by rw [e]; unfold sT; rw [if_neg e12]
        have hpt : Txt.partition s ("-" : Str) = (dT r.1, ("-" : Str), dT r.2) := by rw [es]; exact part_app (dT_noDash (by omega))
        have l1 := xl (x := r.1) (by omega) (by omega)
        have l2 := xl (x := r.2) (by omega) (by omega)
        rw [hpt] at S1 ⊢
        refine ⟨_, rfl, dT r.1, rfl, by omega, .inl ⟨r.1, rfl, by omega, by omega, ?_⟩⟩
        refine ⟨_, rfl, _, rfl, iteF ?_⟩
        refine ⟨_, rfl, true, ⟨by show ("-" : Str).length ≤ sizeLine; decide, rfl⟩, iteF ?_⟩
        refine ⟨_, rfl, dT r.2, rfl, by omega, .inl ⟨r.2, rfl, by omega, by omega, ?_⟩⟩
        refine ⟨_, rfl, _, rfl, iteF ?_⟩
        refine ⟨_, rfl, _, rfl, _, _, rfl, rfl, _, rfl, ite2 (fun z => absurd (of_decide_eq_true z) (by omega)) (fun _ => ?_)⟩
        exact ⟨_, rfl, _, rfl, two, fun t ht => q t _ (S1.free ht) upd_same (S1.trans (same_lay ht))⟩
    · rcases hb with ⟨nd', hbp⟩ | ⟨s', e', es, nd', hbp⟩ | ⟨a, e', es, a0, a1, hbp⟩ | ⟨a, b, es, a0, a1, b0, ba⟩
      · have hpt : Txt.partition s ("-" : Str) = (s, Str.empty, Str.empty) := part_none nd'
        rw [hpt] at S1 ⊢
        refine ⟨_, rfl, s, rfl, hlen, .inr ⟨hbp, ?_⟩⟩
        exact ⟨_, rfl, _, rfl, iteT (q _ S1)⟩
      · have hpt : Txt.partition s ("-" : Str) = (s', ("-" : Str), e') := by rw [es]; exact part_app nd'
        have hl : s'.length ≤ 200 := by rw [es, len_app, len_app] at hlen; omega
        rw [hpt] at S1 ⊢
        refine ⟨_, rfl, s', rfl, hl, .inr ⟨hbp, ?_⟩⟩
        exact ⟨_, rfl, _, rfl, iteT (q _ S1)⟩
      · have hpt : Txt.partition s ("-" : Str) = (dT a, ("-" : Str), e') := by rw [es]; exact part_app (dT_noDash a0)
        have hl : e'.length ≤ 200 := by rw [es, len_app, len_app] at hlen; omega
        have l1 := xl (x := a) a0 (by omega)
        rw [hpt] at S1 ⊢
        refine ⟨_, rfl, dT a, rfl, by omega, .inl ⟨a, rfl, a0, a1, ?_⟩⟩
        refine ⟨_, rfl, _, rfl, iteF ?_⟩
        refine ⟨_, rfl, true, ⟨by show ("-" : Str).length ≤ sizeLine; decide, rfl⟩, iteF ?_⟩
        refine ⟨_, rfl, e', rfl, hl, .inr ⟨hbp, ?_⟩⟩
        exact ⟨_, rfl, _, rfl, iteT (q _ S1)⟩
      · have hpt : Txt.partition s ("-" : Str) = (dT a, ("-" : Str), dT b) := by rw [es]; exact part_app (dT_noDash a0)
        have l1 := xl (x := a) a0 (by omega)
        have l2 := xl (x := b) b0 (by omega)
        rw [hpt] at S1 ⊢
        refine ⟨_, rfl, dT a, rfl, by omega, .inl ⟨a, rfl, a0, a1, ?_⟩⟩
        refine ⟨_, rfl, _, rfl, iteF ?_⟩
        refine ⟨_, rfl, true, ⟨by show ("-" : Str).length ≤ sizeLine; decide, rfl⟩, iteF ?_⟩
        refine ⟨_, rfl, dT b, rfl, by omega, .inl ⟨b, rfl, b0, by omega, ?_⟩⟩
        refine ⟨_, rfl, _, rfl, iteF ?_⟩
        refine ⟨_, rfl, _, rfl, _, _, rfl, rfl, _, rfl, ite2 (fun _ => q _ S1) (fun z => absurd (decide_eq_true ba) z)⟩
theorem scPT : FnScope ["self", "first", "last"] ["self"] (defScope sPlText) := ⟨rfl, rfl, rfl, by decide +kernel, rfl, by decide +kernel, by decide +kernel⟩
theorem ok_ptext {f C : Addr} {fd : FuncData} (F : Fun K "text" "Places.text" sPlText f fd) (T : PTxt K mg C) (ST : Cl P w K mg base 1 "_stretch_text" ["first", "last"] spSText) : FnOk P w K mg base CX0 2 f fd ["self"] (spPText C) := by
  refine F.ok scPT (fun vs H Q E h => ?_) (fun cdv A outer s H vs Q E hr h => ?_)
  · obtain ⟨x, l, rfl, _⟩ := h
    rfl
  · obtain ⟨x, l, rfl, hp, hok, hl, q⟩ := h
    have nd := scPT.nd
    obtain ⟨nf, dx, t, fi, b, M, e1, e2, e3, e4, e5, e6, e7⟩ := id hp
    refine ⟨_, pss_cons (ps_if (pt_not (pt_truth (pe_fld (pv 0) rfl) (by intro _; rfl))) (pss_one (ps_ret pe_str)) pss_nil)
      (pss_one (ps_ret (pe_join pe_str (pe_lc (own := [("first", 1), ("last", 2)]) (g := gTup K 2 (gCons (gName 1) (gCons (gName 2) gNil))) (tt := tYes) rfl nd (pi_tup (pe_fld (pv 0) rfl)) (blkOk_by (N := ["self", "first", "last"]) (sc := defScope sPlText) (by decide +kernel))
        (fun _ _ _ _ _ => pg_tup rfl (pgs_cons (pg_name (i := 1) nd rfl (.inl rfl)) (pgs_cons (pg_name (i := 2) nd rfl (.inl rfl)) pgs_nil))) (fun _ _ _ _ _ => pts_nil) (fun _ _ _ _ _ => pe_cl ST hr (by decide) (by rfl) (pa_cons (pv 1) (pa_cons (pv 2) pa_nil))))))), ?_⟩
    refine ⟨_, rfl, x, C, dx, _, _, rfl, e1, T.cl, T.nS, pFl_s _ _ _, !(refs M).isEmpty, .inr (.inl ⟨_, .inl (.inl e2), rfl⟩), ?_⟩
    cases hM : M with
    | nil =>
      rw [hM] at e4
      have el : l = [] := e4.symm
      have q1 := q H (Same.refl _)
      unfold textOf at q1
      rw [if_pos el] at q1
      exact iteT q1
    | cons m0 M0 =>
      rw [← hM]
      have hne : l ≠ [] := by
        rw [← e4, hM]
        simp [rws]
      have tru : (!(refs M).isEmpty) = true := by rw [hM]; rfl
      rw [tru]
      refine iteF ?_
      have lM : M.length = l.length := by rw [← e4, rws_len]
      refine ⟨⟨_, rfl⟩, _, rfl, x, C, dx, _, _, rfl, e1, T.cl, T.nS, pFl_s _ _ _, t, rfl, ⟨_, .inl (.inl e2)⟩, fun D hD => lc_tup (K := K) (a := t) (xs := refs M) (fun i G => G D = some (.lst ((((rws M).take i).map sT).map V.str)) ∧ Same H G)
        ⟨upd_same, same_lay hD⟩ (fun i G _ ⟨_, s⟩ => sameT s (.inl (.inl e2))) ?_ ?_⟩
      · rintro i y G hy ⟨hD2, sG⟩
        obtain ⟨z, hz, hzM, rfl⟩ := refs_get hy
        have hil : i < M.length := (List.getElem?_eq_some_iff.mp hz).1
        have ez := sG _ _ (e3 z hzM)
        have e1' : (rws M).take (i + 1) = (rws M).take i ++ [z.2] := by rw [List.take_add_one, rws_get hz]; rfl
        refine ⟨z.1, _, rfl, .inl (.inl ez), rfl, _, _, rfl, _, _, rfl, rfl, rfl, yesT ?_⟩
        refine ⟨_, rfl, _, rfl, z.2, rfl, hok z.2 (by rw [← e4]; exact mem_rws.mpr ⟨z.1, hzM⟩), ?_⟩
        refine ⟨_, hD2, small1000 ?_, ?_, same_upd sG hD⟩
        · rw [List.length_map, List.length_map, List.length_take]
          omega
        · rw [upd_same, e1', List.map_append, List.map_append]
          rfl
      · rintro G ⟨hD2, sG⟩
        rw [refs_len, List.take_of_length_le (by rw [rws_len]; exact Nat.le_refl _), e4] at hD2
        refine ⟨_, D, l.map sT, rfl, rfl, .inl (.inl (.inl hD2)), ?_, ?_⟩
        · have h1 := sum_le (l.map sT) 100 (fun w hw => by
            obtain ⟨r, hr', e⟩ := List.mem_map.mp hw
            rw [← e]
            exact Nat.le_trans (sT_len (hok r hr')) (by decide))
          have h2 : (" " : Str).length = 1 := by decide
          rw [List.length_map] at h1 ⊢
          rw [h2]
          omega
        · have q1 := q G sG
          unfold textOf at q1
          rw [if_neg hne] at q1
          exact q1
end
end OR

namespace OR
open PySem PySem.Spec PyProof.Rows L2
open TL (tl numL)
open ClX
theorem raise_ok {H H0 : Hp} {CB a d : Addr} {v : V} (S : Same H H0) (na : H0 a = none) (nd : (upd H0 a (exo a CB none)) d = none) (ne : d ≠ a) :
    (upd (upd (upd H0 a (exo a CB none)) d (exd d [(("index" : Str), v)])) a (exo a CB (some d))) d = some (exd d [(("index" : Str), v)]) ∧ H0 d = none ∧
      Same H (upd (del (upd (upd (upd H0 a (exo a CB none)) d (exd d [(("index" : Str), v)])) a (exo a CB (some d))) a) d (.xd [(("index" : Str), v)])) := by
  rw [upd_ne ne] at nd
  refine ⟨by rw [upd_ne ne]; exact upd_same, nd, fun c o e => ?_⟩
  have e0 := S _ _ e
  have nca : c ≠ a := ne_of_none e0 na
  have ncd : c ≠ d := ne_of_none e0 nd
  rw [upd_ne ncd, del_ne nca, upd_ne nca, upd_ne ncd, upd_ne nca]
  exact e0
/-- a def that may raise, as it is called by its name -/
structure ClE (P : Program) (w : World) (K : PySem.W.Frag) (mg : Str → Option Value) (base : Heap) (k : Nat) (x : Str) (ps : List Str) (sp : Sp) : Prop where
  ex : ∃ (f : Addr) (fd : FuncData), FnOk P w K mg base (L2.CX P w) k f fd ps sp ∧ mg x = some (.ref f) ∧ PySem.W.keepIn K (.ref f) = true ∧ Binds K fd ps []
theorem pe_clE {X : Cx} {k j : Nat} {x : Str} {ps : List Str} {sp : Sp} {e : Expr} {es : List Expr} {t : TA} {p pos : Pos} {E : XK} (c : ClE X.prog X.w X.K X.mg X.base k x ps sp) (hr : Room j X.A) (hk : k ≤ j) (hg : Gl X x) (hx : Passes (L2.CX X.prog X.w) X E) (ha : PA X (e :: es) t)
    (hdb : (x == ("__debug__" : Str)) = false := by decide) (he : starEach (e :: es) X.env = (false, eval e X.env) :: starEach es X.env := by rfl) (hpl : (backTo pos (starEach es X.env)).any (·.1) = false := by rfl) :
    PE X (.Call (.Name x p) (e :: es) [] pos) (tCall sp [] E t) := by
  obtain ⟨f, fd, F, hm, hkp, hb⟩ := c.ex
  exact pe_call F (hr.mono hk) hg hm hkp hb .nil hx ha hdb he hpl
theorem clE_of {l : Program} {w : World} {K : PySem.W.Frag} {h : Heap} {mg : Str → Option Value} {base : Heap} {x : Str} {st : Stmt} {k : Nat} {ps : List Str} {sp : Sp} (a : FnAt K x st) (X : K.In h) (G : h.Ns mainGlobals mg)
    (hb : ∀ (kV doc pm : Value) (an : Option Addr) (cdv ct : Value) (us : List Value), us.length = ps.length → bindArgs (PySem.W.fnOf x x (defArgs st) (defBody st) (defScope st) .none kV doc pm an cdv ct) ⟨us, []⟩ = pure (ps.zip us))
    (ok : ∀ f fd, Fun K x x st f fd → FnOk l w K mg base (L2.CX l w) k f fd ps sp) : ClE l w K mg base k x ps sp := by
  obtain ⟨f, fd, F, e⟩ := a.ex
  exact ⟨f, fd, ok f fd F, PySem.W.mg_of X G e, F.kp, F.binds hb⟩
/-- what is wrong of a word behind the rows -/
def WrongW (rows : List Row) (l : Int) (w : Str) : Prop := BadW w ∨ ∃ r : Row, w = sT r ∧ okRow r = true ∧ (l < r.2 ∨ ∃ q : Row, rows.getLast? = some q ∧ r.1 < q.2 + 2)
/-- read_stretches: the words of p from b to ahead of e, no place above l -/
def spRStrs (K : PySem.W.Frag) (CB : Addr) : Sp := fun vs H Q E => ∃ (p : Addr) (b e : Nat) (l : Int) (ws : List Str) (rows : List Row), vs = [.ref p, .int (b : Nat), .int (e : Nat), .int l] ∧ SqL K H p (ws.map V.str) ∧ b ≤ e ∧ e ≤ ws.length ∧ ws.length ≤ 100 ∧ (∀ w ∈ ws, w.length ≤ 200) ∧
  Nf rows ∧ (∀ r ∈ rows, okRow r = true) ∧ (∀ r ∈ rows, r.2 ≤ l) ∧ (∀ (k : Nat) (r : Row), rows[k]? = some r → ws[b + k]? = some (sT r)) ∧ b + rows.length ≤ e ∧
  ((b + rows.length = e ∧ ∀ (o : Addr) (L : List ARow) H', H o = none → H' o = some (.lst (refs L)) → AtR H' L → rws L = rows → Same H H' → Q (.ref o) H') ∨
   (b + rows.length < e ∧ ∃ w, ws[b + rows.length]? = some w ∧ WrongW rows l w ∧ ∀ d H', H d = none → H' d = some (.xd [(("index" : Str), .int ((b + rows.length : Nat) : Int))]) → Same H H' → E (.ref CB) (some d) H'))
section
variable {P : Program} {w : World} {K : PySem.W.Frag} {mg : Str → Option Value} {base : Heap}
theorem scRSs : FnScope ["words", "begin", "end", "last", "stretches", "index", "stretch"] ["words", "begin", "end", "last"] (defScope sRStrs) := ⟨rfl, rfl, rfl, by decide +kernel, rfl, by decide +kernel, by decide +kernel⟩
theorem ok_rstrs {f CB CR fI : Addr} {fd fdI : FuncData} (F : Fun K "read_stretches" "read_stretches" sRStrs f fd) (zR : mg "range" = none) (BT : BtTxt K mg CB CR fI) (FN : FnOk P w K mg base CX0 1 fI fdI ["self", "index"] (spBtI CB)) (bN : Binds K fdI ["self", "index"] [])
    (RS : Cl P w K mg base 4 "_read_stretch" ["word"] spRStr) : FnOk P w K mg base (L2.CX P w) 5 f fd ["words", "begin", "end", "last"] (spRStrs K CB) := by
  refine F.okX scRSs (fun vs H Q E h => ?_) (fun cdv A outer s H vs Q E hr h => ?_)
  · obtain ⟨_, _, _, _, _, _, rfl, _⟩ := h
    rfl
  · obtain ⟨p, b, e, l, ws, rows, rfl, hp, hbe, hel, hln, hlw, nf, ok, okl, hrw, hrl, fin⟩ := h
    have nd := scRSs.nd
    have room : Room (1 + 1) _ := hr.mono (by decide)
    refine ⟨_, pss_cons (ps_set (i := 4) nd rfl (.inl rfl) (pe_lst pa_nil))
      (pss_cons (ps_for PassesOwn.leaving rfl (pi_range2 (by rfl) zR (pa_cons (pv 1) (pa_cons (pv 2) pa_nil))) (pg_name (i := 5) nd rfl (.inl rfl))
        (pss_cons (ps_set (i := 6) nd rfl (.inl rfl) (pe_cl RS hr (by decide) (by rfl) (pa_cons (pe_ix ix_list (pv 0) (pv 5) (fun _ _ => rfl)) pa_nil)))
        (pss_cons (ps_if (PW.pt (pw_or (pt_cmp (pc_isN (pv 6))) (pw_or (pt_cmpR op_gt (pe_ix ix_tup (pv 6) pe_int (fun _ _ => rfl)) (pv 3) (nomark _)) (pw_or1 (PW.pt (pw_and (pt_truth (pv 4) (by intro _; rfl)) (pw_and1 (pt_cmpR op_lt (pe_ix ix_tup (pv 6) pe_int (fun _ _ => rfl)) (pe_op op_add (pe_ix ix_tup (pe_ix ix_list (pv 4) (pe_un un_neg pe_int) (fun _ _ => rfl)) pe_int (fun _ _ => rfl)) pe_int) (nomark _)))))))))
          (pss_one (ps_raise rfl (takes_of rfl rfl rfl rfl) (pmk_oex BT.ox BT.iC BT.tI FN room bN .nil pass0 (by rfl) BT.gB (pa_cons (pv 5) pa_nil)))) pss_nil)
        (pss_one (ps_expr (pe_bm PySem.F.plainAttrs_list PySem.F.slot_list_append PySem.F.type_list_append mt_append (pv 4) (pa_cons (pv 6) pa_nil)))))))
      (pss_one (ps_ret (pv 4)))), ?_⟩
    refine ⟨Nat.zero_le _, fun o no => ?_⟩
    have S2 := same_lay (o := .lst []) no
    have hp2 : SqL K (upd H o (.lst [])) p (ws.map V.str) := S2.seq hp
    have ho2 : (upd H o (.lst [])) o = some (.lst []) := upd_same
    generalize upd H o (.lst []) = H2 at S2 hp2 ho2
    have hn : ((e : Int) - (b : Int)).toNat = e - b := by omega
    have bnd : -(2 ^ 62 : Int) ≤ (b : Int) ∧ (b : Int) < 2 ^ 62 ∧ -(2 ^ 62 : Int) ≤ (e : Int) ∧ (e : Int) < 2 ^ 62 := by
      refine ⟨by omega, by omega, by omega, by omega⟩
    -- the list of words stays
    have stay : ∀ G, Fre o H2 G → SqL K G p (ws.map V.str) := fun G fr => by
      rcases hp with (h | ⟨u, h⟩) | h
      · exact .inl (.inl (fr _ _ (S2 _ _ h) (ne_of_none h no)))
      · exact .inl (.inr ⟨u, fr _ _ (S2 _ _ h) (ne_of_none h no)⟩)
      · exact .inr h
    refine ⟨_, rfl, _, rfl, _, _, rfl, bnd, ?_⟩
    rw [hn]
    refine for_range (lo := (b : Int)) (n := e - b) (fun i σ G => ∃ s5 s6, ∃ L : List ARow, σ = [some (.ref p), some (.int (b : Nat)), some (.int (e : Nat)), some (.int l), some (.ref o), s5, s6] ∧ G o = some (.lst (refs L)) ∧ AtR G L ∧ rws L = rows.take i ∧ Fre o H2 G ∧ i ≤ rows.length)
        ⟨none, none, [], rfl, ho2, (fun _ z => nomatch z), rfl, Fre.refl _ _, Nat.zero_le _⟩ ?_ ?_
    · rintro i σ G hi ⟨s5, s6, L, rfl, ho, hL, eL, fr, hir⟩
      have hil : b + i < ws.length := by omega
      obtain ⟨wi, hwi⟩ : ∃ wi, ws[b + i]? = some wi := ⟨ws[b + i], List.getElem?_eq_getElem hil⟩
      have hat : atI (ws.map V.str) ((b : Int) + (i : Int)) = some (.str wi) := by
        have e1 : ((b : Int) + (i : Int)) = ((b + i : Nat) : Int) := by omega
        rw [e1]
        exact atI_nat (by rw [List.getElem?_map, hwi]; rfl)
      have hwl : wi.length ≤ 200 := hlw wi (List.mem_of_getElem? hwi)
      have SHG : Same H G := fun q u z => fr _ _ (S2 _ _ z) (ne_of_none z no)
      refine ⟨_, rfl, _, rfl, p, _, _, _, rfl, rfl, stay G fr, hat, ?_⟩
      have lL : L.length = i := by
        rw [← rws_len L, eL, List.length_take]
        omega
      -- the raise at i
      have out : i = rows.length → (∀ d H', H d = none → H' d = some (.xd [(("index" : Str), .int ((b + rows.length : Nat) : Int))]) → Same H H' → E (.ref CB) (some d) H') → ∀ G2, Same G G2 → ∀ a, G2 a = none → ∀ d, (upd G2 a (exo a CB none)) d = none → d ≠ a → (upd (upd (upd G2 a (exo a CB none)) d (exd d [(("index" : Str), .int ((b : Int) + (i : Int)))])) a (exo a CB (some d))) d = some (exd d [(("index" : Str), .int ((b : Int) + (i : Int)))]) ∧ G2 d = none ∧
          E (.ref CB) (some d) (upd (del (upd (upd (upd G2 a (exo a CB none)) d (exd d [(("index" : Str), .int ((b : Int) + (i : Int)))])) a (exo a CB (some d))) a) d (.xd [(("index" : Str), .int ((b : Int) + (i : Int)))])) := fun ei qE G2 s2 a na d nd1 ne1 => by
        subst ei
        obtain ⟨x1, x2, x3⟩ := raise_ok (v := .int ((b : Int) + (rows.length : Int))) (SHG.trans s2) na nd1 ne1
        have e1 : ((b + rows.length : Nat) : Int) = (b : Int) + (rows.length : Int) := by omega
        rw [e1] at qE
        exact ⟨x1, x2, qE d _ ((SHG.trans s2).free x2) upd_same x3⟩
      by_cases hlt : i < rows.length
      · -- a right word
        obtain ⟨r, hr'⟩ : ∃ r, rows[i]? = some r := ⟨rows[i], List.getElem?_eq_getElem hlt⟩
        have ew : wi = sT r := by
          have := hrw i r hr'
          rw [hwi] at this
          exact Option.some.inj this
        have okr := ok r (List.mem_of_getElem? hr')
        have okrl := okl r (List.mem_of_getElem? hr')
        refine ⟨wi, rfl, hwl, .inl ⟨r, ew, okr, fun t G2 nt ht s2 => ?_⟩⟩
        have ho2' := s2 _ _ ho
        have hL2 := hL.same s2
        have e1 : rows.take (i + 1) = rows.take i ++ [r] := by rw [List.take_add_one, hr']; rfl
        have nto : t ≠ o := fun e => by rw [e] at nt; rw [nt] at ho; cases ho
        refine ⟨_, rfl, _, rfl, iteF ?_⟩
        refine ⟨_, rfl, t, _, 1, _, rfl, rfl, .inl (.inl ht), atI_nat (j := 1) rfl, _, rfl, _, _, rfl, rfl, _, rfl, ite2 (fun z => absurd (of_decide_eq_true z) (by show ¬ (r.2 > l); omega)) (fun _ => ?_)⟩
        have app : ∃ s5 s6, ∃ L' : List ARow, [some (.ref p), some (V.int (b : Nat)), some (.int (e : Nat)), some (.int l), some (.ref o), some (.int ((b : Int) + (i : Int))), some (.ref t)] = [some (.ref p), some (.int (b : Nat)), some (.int (e : Nat)), some (.int l), some (.ref o), s5, s6] ∧ (upd G2 o (.lst (refs L ++ [.ref t]))) o = some (.lst (refs L')) ∧ AtR (upd G2 o (.lst (refs L ++ [.ref t]))) L' ∧ rws L' = rows.take (i + 1) ∧ Fre o H2 (upd G2 o (.lst (refs L ++ [.ref t]))) ∧ i + 1 ≤ rows.length := by
          refine ⟨_, _, L ++ [(t, r)], rfl, by rw [upd_same, refs_snoc], fun q hq => ?_, by rw [rws_snoc, eL, e1], (fr.trans (fun b u e _ => s2 b u e)).trans Fre.put, hlt⟩
          rcases List.mem_append.mp hq with k | k
          · rw [upd_ne (ne_of (hL2 q k) ho2' (by intro w; cases w))]; exact hL2 q k
          · rw [List.mem_singleton.mp k, upd_ne nto]; exact ht
        have alen : (refs L).length < sizeLine := small1000 (by rw [refs_len]; omega)
        refine ⟨_, rfl, !(refs L).isEmpty, .inl ⟨refs L, .inl (.inl ho2'), rfl⟩, ?_⟩
        rcases List.eq_nil_or_concat L with e | ⟨L2, q2, e⟩
        · subst e
          refine iteF (iteF ?_)
          exact ⟨_, rfl, .inl ⟨rfl, _, .inl (.inl ho2')⟩, _, rfl, o, _, _, rfl, rfl, ho2', alen, app⟩
        · rw [List.concat_eq_append] at e
          have tru : (!(refs L).isEmpty) = true := by rw [e, refs_snoc]; simp
          rw [tru]
          refine iteT ?_
          have hoq : G2 o = some (.lst (refs L2 ++ [.ref q2.1])) := by rw [ho2', e, refs_snoc]
          have hq2 := hL2 q2 (by rw [e]; exact List.mem_append_right _ (List.mem_singleton.mpr rfl))
          have gap : q2.2.2 + 1 < r.1 := by
            have hp' := nf.gap
            rw [← List.take_append_drop i rows] at hp'
            refine (List.pairwise_append.mp hp').2.2 q2.2 ?_ r ?_
            · rw [← eL, e, rws_snoc]; exact List.mem_append_right _ (List.mem_singleton.mpr rfl)
            · rw [List.drop_eq_getElem_cons hlt]
              have := List.getElem?_eq_getElem hlt
              rw [hr'] at this
              rw [Option.some.inj this]
              exact List.mem_cons_self
          refine ⟨_, rfl, t, _, 0, _, rfl, rfl, .inl (.inl ht), atI_nat (j := 0) rfl, _, rfl, 1, rfl, o, _, -1, _, rfl, rfl, .inl (.inl hoq), atI_last _ _, q2.1, _, 1, _, rfl, rfl, .inl (.inl hq2), atI_nat (j := 1) rfl, _, _, rfl, rfl, _, _, rfl, rfl, _, rfl, ite2 (fun z => absurd (of_decide_eq_true z) (by omega)) (fun _ => ?_)⟩
          exact ⟨_, rfl, .inl ⟨rfl, _, .inl (.inl ho2')⟩, _, rfl, o, _, _, rfl, rfl, ho2', alen, app⟩
      · -- the wrong word
        have ei : i = rows.length := by omega
        rcases fin with ⟨fl, _⟩ | ⟨_, w, hw, hb, qE⟩
        · omega
        · rw [← ei, hwi] at hw
          cases hw
          rcases hb with hb | ⟨r, ew, okr, hb⟩
          · refine ⟨wi, rfl, hwl, .inr ⟨hb, fun G2 s2 => ?_⟩⟩
            refine ⟨_, rfl, _, rfl, iteT ?_⟩
            refine ⟨_, rfl, by show 1 ≤ 1000; decide, fun a na => ⟨a, _, rfl, upd_same, fun d nd1 ne1 => ?_⟩⟩
            obtain ⟨x1, x2, x3⟩ := out ei qE G2 s2 a na d nd1 ne1
            exact ⟨rfl, d, [(("index" : Str), .int ((b : Int) + (i : Int)))], upd_same, x1, x2, x3⟩
          · refine ⟨wi, rfl, hwl, .inl ⟨r, ew, okr, fun t G2 nt ht s2 => ?_⟩⟩
            have ho2' := s2 _ _ ho
            have hL2 := hL.same s2
            refine ⟨_, rfl, _, rfl, iteF ?_⟩
            refine ⟨_, rfl, t, _, 1, _, rfl, rfl, .inl (.inl ht), atI_nat (j := 1) rfl, _, rfl, _, _, rfl, rfl, _, rfl, ?_⟩
            rcases Decidable.em (l < r.2) with hlr | hlr
            · refine ite2 (fun _ => ?_) (fun z => absurd (decide_eq_true (show r.2 > l from hlr)) z)
              refine ⟨_, rfl, by show 1 ≤ 1000; decide, fun a na => ⟨a, _, rfl, upd_same, fun d nd1 ne1 => ?_⟩⟩
              obtain ⟨x1, x2, x3⟩ := out ei qE G2 s2 a na d nd1 ne1
              exact ⟨rfl, d, [(("index" : Str), .int ((b : Int) + (i : Int)))], upd_same, x1, x2, x3⟩
            · refine ite2 (fun z => absurd (of_decide_eq_true z) (by show ¬ (r.2 > l); omega)) (fun _ => ?_)
              obtain ⟨q, hq, hlt2⟩ : ∃ q : Row, rows.getLast? = some q ∧ r.1 < q.2 + 2 := hb.resolve_left hlr
              refine ⟨_, rfl, !(refs L).isEmpty, .inl ⟨refs L, .inl (.inl ho2'), rfl⟩, ?_⟩
              rcases List.eq_nil_or_concat L with e | ⟨L2, q2, e⟩
              · exfalso
                subst e
                have : rows = [] := List.length_eq_zero_iff.mp (by rw [← ei]; exact lL.symm)
                rw [this] at hq
                cases hq
              · rw [List.concat_eq_append] at e
                have tru : (!(refs L).isEmpty) = true := by rw [e, refs_snoc]; simp
                rw [tru]
                refine iteT ?_
                have hoq : G2 o = some (.lst (refs L2 ++ [.ref q2.1])) := by rw [ho2', e, refs_snoc]
                have hq2 := hL2 q2 (by rw [e]; exact List.mem_append_right _ (List.mem_singleton.mpr rfl))
                have eq2 : q2.2 = q := by
                  rw [ei, List.take_of_length_le (Nat.le_refl _), e, rws_snoc] at eL
                  rw [← eL, List.getLast?_append] at hq
                  simpa using hq
                have lt3 : r.1 < q2.2.2 + 2 := by rw [eq2]; exact hlt2
                refine ⟨_, rfl, t, _, 0, _, rfl, rfl, .inl (.inl ht), atI_nat (j := 0) rfl, _, rfl, 1, rfl, o, _, -1, _, rfl, rfl, .inl (.inl hoq), atI_last _ _, q2.1, _, 1, _, rfl, rfl, .inl (.inl hq2), atI_nat (j := 1) rfl, _, _, rfl, rfl, _, _, rfl, rfl, _, rfl, ite2 (fun _ => ?_) (fun z => absurd (decide_eq_true lt3) z)⟩
                refine ⟨_, rfl, by show 1 ≤ 1000; decide, fun a na => ⟨a, _, rfl, upd_same, fun d nd1 ne1 => ?_⟩⟩
                obtain ⟨x1, x2, x3⟩ := out ei qE G2 s2 a na d nd1 ne1
                exact ⟨rfl, d, [(("index" : Str), .int ((b : Int) + (i : Int)))], upd_same, x1, x2, x3⟩
    · rintro σ G ⟨s5, s6, L, rfl, ho, hL, eL, fr, hir⟩
      rcases fin with ⟨fl, q⟩ | ⟨hlt, _⟩
      · rw [List.take_of_length_le (by omega)] at eL
        have SHG : Same H G := fun b u e => fr _ _ (S2 _ _ e) (ne_of_none e no)
        exact ⟨_, rfl, q o L G no ho hL eL SHG⟩
      · omega
end
section
variable {P : Program} {w : World} {K : PySem.W.Frag} {mg : Str → Option Value} {base : Heap}
theorem scRd : FnScope ["cls", "text", "words"] ["cls", "text"] (defScope sPlRead) := ⟨rfl, rfl, rfl, by decide +kernel, rfl, by decide +kernel, by decide +kernel⟩
theorem ok_read {f C CB CR fI : Addr} {fd fdI : FuncData} (F : Fun K "read" "Places.read" sPlRead f fd) (T : STxt mg) (M : PMk' P w K mg base C) (BT : BtTxt K mg CB CR fI) (FN : FnOk P w K mg base CX0 1 fI fdI ["self", "index"] (spBtI CB)) (bN : Binds K fdI ["self", "index"] [])
    (RSs : ClE P w K mg base 5 "read_stretches" ["words", "begin", "end", "last"] (spRStrs K CB)) : FnOk P w K mg base (L2.CX P w) 6 f fd ["cls", "text"] (spRead K C CB) := by
  obtain ⟨tlp, hlp⟩ := T.last
  refine F.okX scRd (fun vs H Q E h => ?_) (fun cdv A outer s H vs Q E hr h => ?_)
  · obtain ⟨v, rfl, _⟩ := h
    rfl
  · obtain ⟨v, rfl, h⟩ := h
    have nd := scRd.nd
    have room : Room (1 + 1) _ := hr.mono (by decide)
    refine ⟨_, pss_cons (ps_if (pt_not (pt_val (pe_callB call_isi (by rfl) T.zIsi bt_isi (pa_cons (pv 1) (pa_cons (pe_bltn (v := .ty "str") (by rfl) T.zStr boot_strT rfl) pa_nil)))))
        (pss_one (ps_raise rfl (takes_of rfl rfl rfl rfl) (pmk_oex BT.ox BT.iC BT.tI FN room bN .nil pass0 (by rfl) BT.gB (pa_cons pe_int pa_nil)))) pss_nil)
      (pss_cons (ps_set (i := 2) nd rfl (.inl rfl) (pe_splitAny (pv 1) pe_str))
      (pss_cons (ps_if (pt_cmpR op_eq (pe_ix ix_list (pv 2) pe_int (fun _ _ => rfl)) pe_str (nomark _))
        (pss_cons (ps_if (pt_cmpR op_gt (pe_callB call_len_seq (by rfl) T.zLen PySem.boot_len (pa_cons (pv 2) pa_nil)) pe_int (nomark _))
          (pss_one (ps_raise rfl (takes_of rfl rfl rfl rfl) (pmk_oex BT.ox BT.iC BT.tI FN room bN .nil pass0 (by rfl) BT.gB (pa_cons pe_int pa_nil)))) pss_nil)
        (pss_one (ps_ret (pe_mkPv0 M hr (by decide) (pv 0))))) pss_nil)
      (pss_one (ps_ret (pe_mkPv K rfl M hr (by decide) (pv 0) (pa_cons (pe_clE RSs hr (by decide) (by rfl) (passes_call (takes_of rfl rfl rfl rfl) (fun _ _ _ _ z => z)) (pa_cons (pv 2) (pa_cons pe_int (pa_cons (pe_callB call_len_seq (by rfl) T.zLen PySem.boot_len (pa_cons (pv 2) pa_nil)) (pa_cons (pe_glob (v := .int lastP) (by rfl) hlp ⟨_, rfl⟩) pa_nil))))) pa_nil)))))), ?_⟩
    have b2 : ((" " : Str).length == 0) = false := by decide
    -- a text: its words
    have words : ∀ (ws : List Str), ws ≠ [] → (∀ w ∈ ws, noBlank w) → (∀ w ∈ ws, w.length ≤ 100) → ws.length ≤ 100 → (jn ws).length + 2 ≤ sizeLine := fun ws _ _ hl hn => by
      have := jn_len ws hl
      exact sz1 (by have : ws.length * 101 ≤ 100 * 101 := Nat.mul_le_mul_right _ hn; omega)
    have hh : (∃ ws : List Str, v = .str (jn ws) ∧ ws = [("none" : Str)] ∧ ∀ x H', IsP C H' x [] → Same H H' → Q (.ref x) H') ∨
        (∃ (w : Str) (r : List Str), v = .str (jn (("none" : Str) :: w :: r)) ∧ (∀ z ∈ ("none" : Str) :: w :: r, noBlank z) ∧ (∀ z ∈ ("none" : Str) :: w :: r, z.length ≤ 100) ∧ (("none" : Str) :: w :: r).length ≤ 100 ∧ ∀ d H', H d = none → H' d = some (.xd [(("index" : Str), .int ((1 : Nat) : Int))]) → Same H H' → E (.ref CB) (some d) H') ∨
        (∃ T : String, TyX K H v (.type T) ∧ kitB T "str" = some false ∧ ∀ d H', H d = none → H' d = some (.xd [(("index" : Str), .int ((0 : Nat) : Int))]) → Same H H' → E (.ref CB) (some d) H') ∨
        ∃ (ws : List Str) (rows : List Row), v = .str (jn ws) ∧ ws ≠ [] ∧ (∀ w ∈ ws, noBlank w) ∧ (∀ w ∈ ws, w.length ≤ 100) ∧ ws.length ≤ 100 ∧ ws[0]? ≠ some ("none" : Str) ∧ Nf rows ∧ (∀ r ∈ rows, okRow r = true) ∧ (∀ (k : Nat) (r : Row), rows[k]? = some r → ws[k]? = some (sT r)) ∧ rows.length ≤ ws.length ∧
          ((rows.length = ws.length ∧ ∀ x H', IsP C H' x rows → Same H H' → Q (.ref x) H') ∨
           (∃ w, ws[rows.length]? = some w ∧ (BadW w ∨ ∃ r q : Row, w = sT r ∧ okRow r = true ∧ rows.getLast? = some q ∧ r.1 < q.2 + 2) ∧ ∀ d H', H d = none → H' d = some (.xd [(("index" : Str), .int (rows.length : Nat))]) → Same H H' → E (.ref CB) (some d) H')) := by
      rcases h with ⟨rows, ⟨ws, e, hne, hnb, hlw, hln, ⟨e1, e2⟩ | ⟨ew, nf, ok⟩⟩, q⟩ | ⟨j, ⟨T, hT, hk, e⟩ | ⟨ws, e, hne, hnb, hlw, hln, ⟨w, r, e1, e2⟩ | ⟨⟨rows, w, ⟨ew, nf, ok⟩, hj, hb⟩, h0⟩⟩, qE⟩
      · subst e2
        exact .inl ⟨ws, e, e1, q⟩
      · refine .inr (.inr (.inr ⟨ws, rows, e, hne, hnb, hlw, hln, ?_, nf, ok, fun k r hk => ?_, ?_, .inl ⟨?_, q⟩⟩))
        · cases rows with
          | nil => rw [ew] at hne; exact absurd rfl hne
          | cons r0 R =>
            rw [ew]
            intro z
            exact sT_none (ok r0 List.mem_cons_self) (Option.some.inj z)
        · rw [ew, List.getElem?_map, hk]; rfl
        · rw [ew, List.length_map]; exact Nat.le_refl _
        · rw [ew, List.length_map]
      · subst e
        exact .inr (.inr (.inl ⟨T, hT, hk, qE⟩))
      · subst e1 e2
        exact .inr (.inl ⟨w, r, e, hnb, hlw, hln, qE⟩)
      · have hjl : j < ws.length := (List.getElem?_eq_some_iff.mp hj).1
        have hrl : rows.length = j := by
          have := congrArg List.length ew
          rw [List.length_take, List.length_map] at this
          omega
        subst hrl
        refine .inr (.inr (.inr ⟨ws, rows, e, hne, hnb, hlw, hln, h0, nf, ok, fun k r hk => ?_, by omega, .inr ⟨w, hj, hb, qE⟩⟩))
        have hkl : k < rows.length := (List.getElem?_eq_some_iff.mp hk).1
        have := congrArg (·[k]?) ew
        simp only [List.getElem?_map, hk] at this
        rw [List.getElem?_take_of_lt hkl] at this
        exact this
    clear h
    rcases hh with ⟨ws, rfl, rfl, q⟩ | ⟨w1, r1, rfl, hnb, hlw, hln, qE⟩ | ⟨T', hT, hk, qE⟩ | ⟨ws, rows, rfl, hne, hnb, hlw, hln, h0, nf, ok, hrw, hrl, fin⟩
    · refine ⟨_, rfl, _, .ty "str", _, _, true, rfl, .ty "str", .base (.str _), kit_ty (by decide +kernel), _, rfl, iteF ?_⟩
      refine ⟨_, rfl, ⟨_, rfl⟩, .inl ⟨_, (" " : Str), rfl, rfl, b2, by decide +kernel, fun p np => ?_⟩⟩
      have S1 := same_lay (o := .lst ((Txt.split (jn [("none" : Str)]) (" " : Str)).map V.str)) np
      have hp : (upd H p (.lst ((Txt.split (jn [("none" : Str)]) (" " : Str)).map V.str))) p = some (.lst ([("none" : Str)].map V.str)) := by rw [upd_same, split_jn (by simp) (fun w hw => by rw [List.mem_singleton.mp hw]; exact nbs (by decide))]
      generalize upd H p (.lst ((Txt.split (jn [("none" : Str)]) (" " : Str)).map V.str)) = H1 at S1 hp
      refine ⟨_, rfl, p, _, 0, .str ("none" : Str), rfl, rfl, .inl (.inl hp), atI_nat (j := 0) rfl, rfl, _, rfl, ite2 (fun _ => ?_) (fun z => absurd (decide_eq_true rfl) z)⟩
      refine ⟨_, rfl, p, _, rfl, .inl (.inl (.inl hp)), _, _, rfl, rfl, _, rfl, ite2 (fun z => absurd (of_decide_eq_true z) (by decide)) (fun _ => ?_)⟩
      exact ⟨_, rfl, rfl, fun x H' nx hx s => q x H' hx (S1.trans s)⟩
    · refine ⟨_, rfl, _, .ty "str", _, _, true, rfl, .ty "str", .base (.str _), kit_ty (by decide +kernel), _, rfl, iteF ?_⟩
      refine ⟨_, rfl, ⟨_, rfl⟩, .inl ⟨_, (" " : Str), rfl, rfl, b2, words _ (by simp) hnb hlw hln, fun p np => ?_⟩⟩
      have S1 := same_lay (o := .lst ((Txt.split (jn (("none" : Str) :: w1 :: r1)) (" " : Str)).map V.str)) np
      have hp : (upd H p (.lst ((Txt.split (jn (("none" : Str) :: w1 :: r1)) (" " : Str)).map V.str))) p = some (.lst ((("none" : Str) :: w1 :: r1).map V.str)) := by rw [upd_same, split_jn (by simp) hnb]
      generalize upd H p (.lst ((Txt.split (jn (("none" : Str) :: w1 :: r1)) (" " : Str)).map V.str)) = H1 at S1 hp
      refine ⟨_, rfl, p, _, 0, .str ("none" : Str), rfl, rfl, .inl (.inl hp), atI_nat (j := 0) rfl, rfl, _, rfl, ite2 (fun _ => ?_) (fun z => absurd (decide_eq_true rfl) z)⟩
      refine ⟨_, rfl, p, _, rfl, .inl (.inl (.inl hp)), _, _, rfl, rfl, _, rfl, ite2 (fun _ => ?_) (fun z => absurd (decide_eq_true (by simp only [List.map_cons, List.length_cons]; omega)) z)⟩
      refine ⟨by show 1 ≤ 1000; decide, fun a na => ⟨a, _, rfl, upd_same, fun d nd1 ne1 => ?_⟩⟩
      obtain ⟨x1, x2, x3⟩ := raise_ok (v := .int ((1 : Nat) : Int)) S1 na nd1 ne1
      exact ⟨rfl, d, [(("index" : Str), .int ((1 : Nat) : Int))], upd_same, x1, x2, qE d _ (S1.free x2) upd_same x3⟩
    · refine ⟨_, rfl, v, .ty "str", _, _, false, rfl, .ty "str", hT, kit_ty hk, _, rfl, iteT ?_⟩
      refine ⟨by show 1 ≤ 1000; decide, fun a na => ⟨a, _, rfl, upd_same, fun d nd1 ne1 => ?_⟩⟩
      obtain ⟨x1, x2, x3⟩ := raise_ok (v := .int ((0 : Nat) : Int)) (Same.refl H) na nd1 ne1
      exact ⟨rfl, d, [(("index" : Str), .int ((0 : Nat) : Int))], upd_same, x1, x2, qE d _ x2 upd_same x3⟩
    · refine ⟨_, rfl, _, .ty "str", _, _, true, rfl, .ty "str", .base (.str _), kit_ty (by decide +kernel), _, rfl, iteF ?_⟩
      refine ⟨_, rfl, ⟨_, rfl⟩, .inl ⟨_, (" " : Str), rfl, rfl, b2, words ws hne hnb hlw hln, fun p np => ?_⟩⟩
      have S1 := same_lay (o := .lst ((Txt.split (jn ws) (" " : Str)).map V.str)) np
      have hp : (upd H p (.lst ((Txt.split (jn ws) (" " : Str)).map V.str))) p = some (.lst (ws.map V.str)) := by rw [upd_same, split_jn hne hnb]
      generalize upd H p (.lst ((Txt.split (jn ws) (" " : Str)).map V.str)) = H1 at S1 hp
      obtain ⟨w0, hw0⟩ : ∃ w0, ws[0]? = some w0 := by
        cases ws with
        | nil => exact absurd rfl hne
        | cons a r => exact ⟨a, rfl⟩
      have n0 : ¬ V.str w0 = V.str ("none" : Str) := fun z => h0 (by rw [hw0, V.str.inj z])
      refine ⟨_, rfl, p, _, 0, .str w0, rfl, rfl, .inl (.inl hp), atI_nat (j := 0) (by rw [List.getElem?_map, hw0]; rfl), rfl, _, rfl, ite2 (fun z => absurd (of_decide_eq_true z) n0) (fun _ => ?_)⟩
      refine ⟨_, rfl, rfl, _, rfl, _, rfl, p, _, rfl, .inl (.inl (.inl hp)), p, 0, ws.length, lastP, ws, rows, by rw [List.length_map]; rfl, .inl (.inl hp), Nat.zero_le _, Nat.le_refl _, hln, fun w hw => Nat.le_trans (hlw w hw) (by decide), nf, ok, fun r hr' => (okRow_iff (ok r hr')).2.2, fun k r hk => by rw [Nat.zero_add]; exact hrw k r hk, by omega, ?_⟩
      rcases fin with ⟨fl, q⟩ | ⟨w, hw, hb, qE⟩
      · refine .inl ⟨by omega, fun o L G no hL0 hL eL SHG => ?_⟩
        have lL : L.length = rows.length := by rw [← rws_len L, eL]
        refine ⟨o, L, rfl, .inl (.inl (.inl hL0)), by omega, hL.pairs, by rw [eL]; exact ok, fun x l G' nx hx hme hle s => ?_⟩
        have el : l = rows := Nf.unique hx.nf nf (fun z => by rw [hme z, eL])
        subst el
        exact q x G' hx ((S1.trans SHG).trans s)
      · have hlt := (List.getElem?_eq_some_iff.mp hw).1
        refine .inr ⟨by omega, w, by rw [Nat.zero_add]; exact hw, hb.imp id (fun ⟨r, q, ew, okr, hq, hl2⟩ => ⟨r, ew, okr, .inr ⟨q, hq, hl2⟩⟩), fun d H' nd1 hd s => ?_⟩
        rw [Nat.zero_add] at hd
        exact qE d H' (S1.free nd1) hd (S1.trans s)
theorem pe_fldK {X : Cx} {e : Expr} {f : Str} {pos : Pos} {ta : TE} (K : PySem.W.Frag) (hK : X.K = K) (he : PE X e ta) (hb : attributeBase e f X.env (eval e X.env) = eval e X.env) : PE X (.Attribute e f pos) (tFld K ta f) := by
  subst hK
  exact pe_fld he hb
theorem scTd : FnScope ["_law_text", "e"] ["_law_text"] (defScope sTold) := ⟨rfl, rfl, rfl, by decide +kernel, rfl, by decide +kernel, by decide +kernel⟩
theorem ok_told {f g pc C CB CR fI : Addr} {mc : Value} {fd : FuncData} (F : Fun K "_law_told" "_law_told" sTold f fd) (T : PTxt K mg C) (BT : BtTxt K mg CB CR fI) (CRd : CRead K C mc) (CM : CMet K C mc "read" pc g) (FR : FnR P w K mg base (L2.CX P w) 6 g (spRead K C CB)) : FnOk P w K mg base CX0 7 f fd ["_law_text"] (spTold K) := by
  refine F.ok scTd (fun vs H Q E h => ?_) (fun cdv A outer s H vs Q E hr h => ?_)
  · obtain ⟨v, rfl, _⟩ := h
    rfl
  · obtain ⟨v, rfl, h⟩ := h
    have nd := scTd.nd
    have room : Room 6 _ := hr.mono (by decide)
    refine ⟨_, pss_one (ps_try_as (i := 1) (Wout := fun _ _ _ _ => False) rfl rfl nd rfl rfl ⟨rfl, by decide, .inl BT.gB⟩ takes0
        (fun W pn xe tk _ => pss_one (ps_ret (by exact (pe_fldK K rfl (by exact (pe_cmethS (pe_glob (v := .ref C) (by rfl) T.mgC rfl) CRd CM FR room (fun σ => passAt tk σ) (pa_cons (pv 0) pa_nil))) rfl))))
        (fun a oe cls d pn hz hf => pss_one (ps_ret (by exact (pe_ifExp (pt_val (pe_callB (call_isX BT.xc hz hf) (by rfl) T.zIsi bt_isi (pa_cons (pv 1) (pa_cons (pe_glob (v := .ref CR) (by rfl) BT.gR rfl) pa_nil)))) (pe_xf BT.xf BT.noI hz hf (pv 1)) pe_non))))), ?_⟩
    refine ⟨rfl, _, rfl, v, rfl, ?_⟩
    rcases h with ⟨rows, hr1, q⟩ | ⟨j, hf, q⟩
    · refine .inl ⟨rows, hr1, fun x H' hx s => ?_⟩
      obtain ⟨nf, dx, t, fi, b, M, e1, e2, e3, e4, e5, e6, e7⟩ := hx
      exact ⟨x, C, dx, _, _, rfl, e1, T.cl, T.nS, pFl_s _ _ _, q t M H' e2 e3 e4 s⟩
    · refine .inr ⟨j, hf, fun d H' nd2 hd s => ⟨true, BT.self, fun _ a0 na0 => ?_, fun q => Bool.noConfusion q⟩⟩
      refine ⟨_, rfl, rfl, d, _, rfl, hd, .ref CR, .ref CR, true, rfl, (fun _ h => h), BT.kR, _, rfl, iteT ?_⟩
      exact ⟨_, rfl, rfl, rfl, d, _, .int (j : Nat), rfl, hd, by simp [List.lookup], q _ s⟩
end
end OR

namespace OR
open PySem PySem.Spec PyProof.Rows L2
open TL (tl numL)
/-! ### the law's own texts -/
/-- an item of a list or a tuple -/
def rIxA (K : PySem.W.Frag) : R2 := fun x y H Q => ∃ p xs i v, x = .ref p ∧ y = .int i ∧ (SqL K H p xs ∨ SqT K H p xs) ∧ atI xs i = some v ∧ Q v H
theorem ix_any {X : Cx} (K : PySem.W.Frag) (hK : X.K = K) : IxR X (rIxA K) := by
  subst hK
  intro value slice pins s σ H x y v u Q I rx ry h hs
  obtain ⟨p, xs, i, z, hx, hy, hq | hq, he, q⟩ := h
  · exact ix_list value slice pins s σ H x y v u Q I rx ry ⟨p, xs, i, z, hx, hy, hq, he, q⟩ hs
  · exact ix_tup value slice pins s σ H x y v u Q I rx ry ⟨p, xs, i, z, hx, hy, hq, he, q⟩ hs
theorem dT_ok {n : Int} (h : 0 ≤ n) : ∀ c ∈ tl (dT n), c < 58 := fun c hc => Nat.lt_succ_of_le (dT_digits h c hc).2
theorem sT_small {r : Row} (h : okRow r = true) : ∀ c ∈ tl (sT r), c < 58 := by
  obtain ⟨h1, h2, h3⟩ := okRow_iff h
  intro c hc
  unfold sT at hc
  split at hc
  · exact dT_ok h1 c hc
  · rw [TL.tl_append, TL.tl_append] at hc
    rcases List.mem_append.mp hc with k | k
    · rcases List.mem_append.mp k with k | k
      · exact dT_ok h1 c k
      · rw [dash_tl] at k
        rw [List.mem_singleton.mp k]
        decide
    · exact dT_ok (by omega) c k
theorem lay_strs : ∀ {ws : List Str}, (∀ w ∈ ws, ∀ c ∈ tl w, c < 58) → PyData.canLayAll0 (ws.map PyData.str) = true
  | [], _ => rfl
  | w :: r, h => by
    show (PyData.strOk w && PyData.canLayAll0 (r.map PyData.str)) = true
    rw [lay_strs fun x hx => h x (List.mem_cons_of_mem _ hx), Bool.and_true]
    unfold PyData.strOk
    rw [← Array.all_toList, List.all_eq_true]
    intro c hc
    have := h w List.mem_cons_self c hc
    exact decide_eq_true (by omega)
theorem dep_strs : ∀ ws : List Str, PyData.depthAll (ws.map PyData.str) = 0
  | [] => rfl
  | w :: r => by
    show max (PyData.depth (.str w)) (PyData.depthAll (r.map PyData.str)) = 0
    rw [dep_strs r]
    rfl
theorem shp_strs {ws : List Str} (h : ∀ w ∈ ws, ∀ c ∈ tl w, c < 58) : SeqAt.shaped (.list (ws.map PyData.str)) = true := by
  unfold SeqAt.shaped
  rw [show PyData.canLay0 (.list (ws.map PyData.str)) = true from lay_strs h, Bool.true_and]
  refine decide_eq_true ?_
  show PyData.depthAll (ws.map PyData.str) + 1 ≤ 64
  rw [dep_strs]
  decide
theorem dp_strs {K : PySem.W.Frag} {H : Hp} : ∀ ws : List Str, DpAll K H (ws.map V.str) (ws.map PyData.str)
  | [] => .nil
  | w :: r => .cons (.str w) (dp_strs r)
theorem szA {a b : Str} (ha : a.length ≤ 200) (hb : b.length ≤ 200) : a.length + b.length ≤ sizeLine := sz1 (by omega)
def spTextOf (K : PySem.W.Frag) : Sp := fun vs H Q _ => ∃ (a : Addr) (L : List ARow), vs = [.ref a] ∧ SqL K H a (refs L) ∧ AtR H L ∧ (∀ r ∈ rws L, okRow r = true) ∧ L.length ≤ 100 ∧ ∀ H', Same H H' → Q (.str (textOf (rws L))) H'
/-- a word that may be put at k -/
def spWrong (K : PySem.W.Frag) : Sp := fun vs H Q _ => ∃ (p a : Addr) (ws : List Str) (k n : Nat), vs = [.ref p, .ref a, .int (k : Nat)] ∧ SqL K H a (ws.map V.str) ∧ k < ws.length ∧ Pen H p n ∧ n ≤ 900000 ∧
  ∀ (w : Str) (H' : Hp), ((BadS w ∧ (k = 0 → w ≠ ("none" : Str))) ∨ (0 < k ∧ ws[k - 1]? = some w)) → Pen H' p (n + 10) → Frm p H H' → Q (.str w) H'
def bads (x : Int) : List Str := [("" : Str), ("0" : Str) ++ dT x, (dT x ++ ("-" : Str)) ++ dT x, (dT (x + 1) ++ ("-" : Str)) ++ dT x, ("-" : Str) ++ dT x, dT x ++ ("-" : Str), ("x" : Str), ("+3" : Str),
  dT (10 ^ 30 + 1), ("7-" : Str) ++ dT (10 ^ 30 + 5), ("1-2-3" : Str), ("00" : Str), ("2-03" : Str), ("-" : Str), dT x ++ ("-x" : Str), ("3," : Str)]
theorem no_n {w : Str} (h : 110 ∉ tl w) : w ≠ ("none" : Str) := fun e => h (by rw [e]; decide)
theorem nn_lit {w : Str} (h : (tl w).all (· != 110) = true) : 110 ∉ tl w := fun hm => by
  have := List.all_eq_true.mp h 110 hm
  exact absurd this (by decide)
theorem nn_app {a b : Str} (ha : 110 ∉ tl a) (hb : 110 ∉ tl b) : 110 ∉ tl (a ++ b) := by
  rw [TL.tl_append]
  exact fun h => (List.mem_append.mp h).elim ha hb
theorem nn_dT {n : Int} (h : 0 ≤ n) : 110 ∉ tl (dT n) := dT_free h (.inr (by decide))
theorem bads_bad {x : Int} (h0 : 0 ≤ x) (h1 : x ≤ lastP) : ∀ w ∈ bads x, BadS w ∧ w ≠ ("none" : Str) := by
  intro w hw
  unfold bads at hw
  simp only [List.mem_cons, List.not_mem_nil, or_false] at hw
  have nx := nn_dT h0
  have nx1 := nn_dT (n := x + 1) (by omega)
  rcases hw with e | e | e | e | e | e | e | e | e | e | e | e | e | e | e | e <;> subst e
  · exact ⟨bad1, no_n (nn_lit (by decide))⟩
  · exact ⟨bad2 h0 h1, no_n (nn_app (nn_lit (by decide)) nx)⟩
  · exact ⟨bad3 h0 h1, no_n (nn_app (nn_app nx (nn_lit (by decide))) nx)⟩
  · exact ⟨bad4 h0 h1, no_n (nn_app (nn_app nx1 (nn_lit (by decide))) nx)⟩
  · exact ⟨bad5 h0 h1, no_n (nn_app (nn_lit (by decide)) nx)⟩
  · exact ⟨bad6 h0 h1, no_n (nn_app nx (nn_lit (by decide)))⟩
  · exact ⟨bad7, no_n (nn_lit (by decide))⟩
  · exact ⟨bad8, no_n (nn_lit (by decide))⟩
  · exact ⟨bad9, no_n (nn_dT (by decide))⟩
  · exact ⟨bad10, no_n (nn_app (nn_lit (by decide)) (nn_dT (by decide)))⟩
  · exact ⟨bad11, no_n (nn_lit (by decide))⟩
  · exact ⟨bad12, no_n (nn_lit (by decide))⟩
  · exact ⟨bad13, no_n (nn_lit (by decide))⟩
  · exact ⟨bad14, no_n (nn_lit (by decide))⟩
  · exact ⟨bad15 h0 h1, no_n (nn_app nx (nn_lit (by decide)))⟩
  · exact ⟨bad16, no_n (nn_lit (by decide))⟩
section
variable {P : Program} {w : World} {K : PySem.W.Frag} {mg : Str → Option Value} {base : Heap}
theorem scTO : FnScope ["_law_rows", "_law_words", "_law_row"] ["_law_rows"] (defScope sTextOf) := ⟨rfl, rfl, rfl, by decide +kernel, rfl, by decide +kernel, by decide +kernel⟩
theorem ok_textof {f : Addr} {fd : FuncData} (F : Fun K "_law_text_of" "_law_text_of" sTextOf f fd) (zS : mg "str" = none) : FnOk P w K mg base CX0 1 f fd ["_law_rows"] (spTextOf K) := by
  refine F.ok scTO (fun vs H Q E h => ?_) (fun cdv A outer s H vs Q E hr h => ?_)
  · obtain ⟨a, L, rfl, _⟩ := h
    rfl
  · obtain ⟨a, L, rfl, hS, hL, hok, hlen, q⟩ := h
    have nd := scTO.nd
    have hu64 : (A.deeper (envOfC "_law_text_of" (defScope sTextOf) s.heap.objs.size f cdv)).units + 64 < cLine := hr.units
    refine ⟨_, pss_cons (ps_setLc (i := 1) (own := [("_law_row", 2)]) (g := gName 2) (tt := tYes) rfl nd rfl rfl (sw_true rfl rfl rfl (by decide +kernel)) (pi_list (pv 0)) (blkOk_by (N := ["_law_rows", "_law_words", "_law_row"]) (sc := defScope sTextOf) (by decide +kernel))
          (fun _ _ _ _ _ => pg_name (i := 2) nd rfl (.inl rfl)) (fun _ _ _ _ _ => pts_nil)
          (fun _ _ _ _ _ => pe_ifExp (pt_cmpR op_eq (pe_ix (ix_any K rfl) (pv 2) pe_int (fun _ _ => rfl)) (pe_ix (ix_any K rfl) (pv 2) pe_int (fun _ _ => rfl)) (nomark _)) (pe_callTy call_str_int (by rfl) zS boot_strT (pa_cons (pe_ix (ix_any K rfl) (pv 2) pe_int (fun _ _ => rfl)) pa_nil))
            (pe_op op_add_str (pe_op op_add_str (pe_callTy call_str_int (by rfl) zS boot_strT (pa_cons (pe_ix (ix_any K rfl) (pv 2) pe_int (fun _ _ => rfl)) pa_nil)) pe_str) (pe_callTy call_str_int (by rfl) zS boot_strT (pa_cons (pe_ix (ix_any K rfl) (pv 2) pe_int (fun _ _ => rfl)) pa_nil)))))
      (pss_one (ps_ret (pe_ifExp (pt_cmpR (op_neD hu64) (pv 1) (pe_lst pa_nil) (nomark _)) (pe_join pe_str (pv 1)) pe_str))), ?_⟩
    refine ⟨_, rfl, a, rfl, ⟨_, hS⟩, fun D hD => lc_list (K := K) (a := a) (xs := refs L) (fun i G => G D = some (.lst ((((rws L).take i).map sT).map V.str)) ∧ Same H G)
        ⟨upd_same, same_lay hD⟩ (fun i G _ ⟨_, s⟩ => s.seq hS) ?_ ?_⟩
    · rintro i y G hy ⟨hD2, sG⟩
      obtain ⟨z, hz, hzL, rfl⟩ := refs_get hy
      have hil : i < L.length := (List.getElem?_eq_some_iff.mp hz).1
      have ez := sG _ _ (hL z hzL)
      have okz := hok z.2 (mem_rws.mpr ⟨z.1, hzL⟩)
      obtain ⟨h1, h2, h3⟩ := okRow_iff okz
      have l1 := xl (x := z.2.1) (by omega) (by omega)
      have l2 := xl (x := z.2.2) (by omega) (by omega)
      have hq2 : SqT K G z.1 [.int z.2.1, .int z.2.2] := .inl (.inl ez)
      have g0 : atI [V.int z.2.1, .int z.2.2] 0 = some (.int z.2.1) := atI_nat (j := 0) rfl
      have g1 : atI [V.int z.2.1, .int z.2.2] 1 = some (.int z.2.2) := atI_nat (j := 1) rfl
      have e1' : (rws L).take (i + 1) = (rws L).take i ++ [z.2] := by rw [List.take_add_one, rws_get hz]; rfl
      have fin : ∃ acc, G D = some (.lst acc) ∧ acc.length < sizeLine ∧ (upd G D (.lst (acc ++ [.str (sT z.2)]))) D = some (.lst ((((rws L).take (i + 1)).map sT).map V.str)) ∧ Same H (upd G D (.lst (acc ++ [.str (sT z.2)]))) := by
        refine ⟨_, hD2, small1000 ?_, ?_, same_upd sG hD⟩
        · rw [List.length_map, List.length_map, List.length_take]
          omega
        · rw [upd_same, e1', List.map_append, List.map_append]
          rfl
      refine ⟨rfl, yesT ?_⟩
      refine ⟨_, rfl, z.1, _, 0, _, rfl, rfl, .inr hq2, g0, _, rfl, z.1, _, 1, _, rfl, rfl, .inr hq2, g1, rfl, _, rfl, ite2 (fun e => ?_) (fun e => ?_)⟩
      · have e1 : z.2.1 = z.2.2 := V.int.inj (of_decide_eq_true e)
        unfold sT at fin
        rw [if_pos e1] at fin
        exact ⟨_, rfl, z.1, _, 0, _, rfl, rfl, .inr hq2, g0, _, rfl, dlog (by omega) (by omega), fin⟩
      · have e1 : ¬ z.2.1 = z.2.2 := fun z' => e (decide_eq_true (by rw [z']))
        unfold sT at fin
        rw [if_neg e1] at fin
        refine ⟨_, rfl, z.1, _, 0, _, rfl, rfl, .inr hq2, g0, _, rfl, dlog (by omega) (by omega), _, _, rfl, rfl, szA (a := dT z.2.1) (by omega) (by decide), _, rfl, z.1, _, 1, _, rfl, rfl, .inr hq2, g1, _, rfl, dlog (by omega) (by omega), _, _, rfl, rfl, szA (a := dT z.2.1 ++ ("-" : Str)) (b := dT z.2.2) ?_ (by omega), fin⟩
        rw [len_app]
        show (dT z.2.1).length + 1 ≤ 200
        omega
    · rintro G ⟨hD2, sG⟩
      rw [refs_len, List.take_of_length_le (by rw [rws_len]; exact Nat.le_refl _)] at hD2
      have sml : ∀ w ∈ (rws L).map sT, ∀ c ∈ tl w, c < 58 := fun w hw => by
        obtain ⟨r, hr', e⟩ := List.mem_map.mp hw
        rw [← e]
        exact sT_small (hok r hr')
      refine ⟨_, rfl, Nat.zero_le _, fun u nu => ?_⟩
      have su := same_lay (o := .lst []) nu
      have hD3 := su _ _ hD2
      refine ⟨.list (((rws L).map sT).map PyData.str), .list [], .lst (.inl (.inl hD3)) (dp_strs _), .lst (.inl (.inl upd_same)) .nil, shp_strs sml, rfl, _, rfl, ?_⟩
      have q1 := q _ (sG.trans su)
      unfold textOf at q1
      cases hL0 : rws L with
      | nil =>
        rw [hL0, if_pos rfl] at q1
        exact iteF q1
      | cons r0 R0 =>
        rw [hL0, if_neg (by simp)] at q1
        rw [hL0] at hD3
        refine iteT ⟨⟨_, rfl⟩, _, rfl, _, D, (r0 :: R0).map sT, rfl, rfl, .inl (.inl (.inl hD3)), ?_, q1⟩
        have ll : (r0 :: R0).length ≤ 100 := by rw [← hL0, rws_len]; exact hlen
        have h1 := sum_le ((r0 :: R0).map sT) 100 (fun w hw => by
          obtain ⟨r, hr', e⟩ := List.mem_map.mp hw
          rw [← e]
          exact Nat.le_trans (sT_len (hok r (by rw [hL0]; exact hr'))) (by decide))
        have h2 : (" " : Str).length = 1 := by decide
        rw [List.length_map] at h1 ⊢
        rw [h2]
        omega
theorem scWr : FnScope ["_law_pen_here", "_law_words", "_law_at", "_law_x", "_law_some"] ["_law_pen_here", "_law_words", "_law_at"] (defScope sWrong) := ⟨rfl, rfl, rfl, by decide +kernel, rfl, by decide +kernel, by decide +kernel⟩
theorem ok_wrong {f : Addr} {fd : FuncData} (F : Fun K "_law_wrong" "_law_wrong" sWrong f fd) (zS : mg "str" = none) (SP : Cl P w K mg base 2 "_law_spot" ["_law_pen_here"] spSpot) (PI : Cl P w K mg base 2 "_law_pick" ["_law_pen_here", "_law_items"] (spPick K)) :
    FnOk P w K mg base CX0 3 f fd ["_law_pen_here", "_law_words", "_law_at"] (spWrong K) := by
  refine F.ok scWr (fun vs H Q E h => ?_) (fun cdv A outer s H vs Q E hr h => ?_)
  · obtain ⟨p, a, ws, k, n, rfl, _⟩ := h
    rfl
  · obtain ⟨p, a, ws, k, n, rfl, hS, hk, hP, hn, q⟩ := h
    have nd := scWr.nd
    have hpow : CPow 10 30 := ⟨by decide, by decide, by decide⟩
    refine ⟨_, pss_cons (ps_set (i := 3) nd rfl (.inl rfl) (pe_cl SP hr (by decide) (by rfl) (pa_cons (pv 0) pa_nil)))
      (pss_cons (ps_set (i := 4) nd rfl (.inl rfl) (pe_lst (pa_cons pe_str (pa_cons (pe_op op_add_str pe_str (pe_callTy call_str_int (by rfl) zS boot_strT (pa_cons (pv 3) pa_nil)))
          (pa_cons (pe_op op_add_str (pe_op op_add_str (pe_callTy call_str_int (by rfl) zS boot_strT (pa_cons (pv 3) pa_nil)) pe_str) (pe_callTy call_str_int (by rfl) zS boot_strT (pa_cons (pv 3) pa_nil)))
          (pa_cons (pe_op op_add_str (pe_op op_add_str (pe_callTy call_str_int (by rfl) zS boot_strT (pa_cons (pe_op op_add (pv 3) pe_int) pa_nil)) pe_str) (pe_callTy call_str_int (by rfl) zS boot_strT (pa_cons (pv 3) pa_nil)))
          (pa_cons (pe_op op_add_str pe_str (pe_callTy call_str_int (by rfl) zS boot_strT (pa_cons (pv 3) pa_nil)))
          (pa_cons (pe_op op_add_str (pe_callTy call_str_int (by rfl) zS boot_strT (pa_cons (pv 3) pa_nil)) pe_str)
          (pa_cons pe_str (pa_cons pe_str pa_nil))))))))))
      (pss_cons (ps_set (i := 4) nd rfl (.inl rfl) (pe_op op_cat (pv 4) (pe_lst (pa_cons (pe_callTy call_str_int (by rfl) zS boot_strT (pa_cons (pe_op op_add (pe_op op_pow pe_int pe_int) pe_int) pa_nil))
          (pa_cons (pe_op op_add_str pe_str (pe_callTy call_str_int (by rfl) zS boot_strT (pa_cons (pe_op op_add (pe_op op_pow pe_int pe_int) pe_int) pa_nil)))
          (pa_cons pe_str (pa_cons pe_str (pa_cons pe_str (pa_cons pe_str (pa_cons (pe_op op_add_str (pe_callTy call_str_int (by rfl) zS boot_strT (pa_cons (pv 3) pa_nil)) pe_str) (pa_cons pe_str pa_nil)))))))))))
      (pss_cons (ps_expr (pe_bm PySem.F.plainAttrs_list PySem.F.slot_list_append PySem.F.type_list_append mt_append (pv 4) (pa_cons (pe_ifExp (pt_cmpR op_gt (pv 2) pe_int (nomark _)) pe_str pe_str) pa_nil)))
      (pss_one (ps_ret (pe_ifExp (pt_cmpR op_gt (pv 2) pe_int (nomark _))
        (pe_cl PI hr (by decide) (by rfl) (pa_cons (pv 0) (pa_cons (pe_op op_cat (pv 4) (pe_lst (pa_cons (pe_ix ix_list (pv 1) (pe_op op_sub (pv 2) pe_int) (fun _ _ => rfl)) (pa_cons (pe_ix ix_list (pv 1) (pe_op op_sub (pv 2) pe_int) (fun _ _ => rfl)) pa_nil)))) pa_nil)))
        (pe_cl PI hr (by decide) (by rfl) (pa_cons (pv 0) (pa_cons (pv 4) pa_nil))))))))), ?_⟩
    refine ⟨_, rfl, p, n, rfl, hP, hn, fun x H1 hx P1 F1 => ?_⟩
    obtain ⟨x0, x1⟩ := place_iff hx
    have lx : (dT x).length ≤ 100 := Nat.le_trans (xl x0 (by omega)) (by decide)
    have lx1 : (dT (x + 1)).length ≤ 100 := Nat.le_trans (xl (x := x + 1) (by omega) (by omega)) (by decide)
    have lxd : (dT x ++ ("-" : Str)).length ≤ 200 := by rw [len_app]; show (dT x).length + 1 ≤ 200; omega
    have lx1d : (dT (x + 1) ++ ("-" : Str)).length ≤ 200 := by rw [len_app]; show (dT (x + 1)).length + 1 ≤ 200; omega
    have dx : x.natAbs.log2 < 1920 := dlog x0 (by omega)
    have dx1 : (x + 1).natAbs.log2 < 1920 := dlog (by omega) (by omega)
    have lx' : (dT x).length ≤ 200 := by omega
    have big1 : (10 ^ 30 + 1 : Int).natAbs.log2 < 1920 := dlog (by decide) (by decide)
    have big5 : (10 ^ 30 + 5 : Int).natAbs.log2 < 1920 := dlog (by decide) (by decide)
    have l5 : (dT (10 ^ 30 + 5)).length ≤ 200 := Nat.le_trans (xl (x := 10 ^ 30 + 5) (by decide) (by decide)) (by decide)
    refine ⟨_, rfl, x, rfl, dx, _, _, rfl, rfl, szA (b := dT x) (by decide) lx', ?_⟩
    refine ⟨_, rfl, x, rfl, dx, _, _, rfl, rfl, szA (a := dT x) lx' (by decide), _, rfl, x, rfl, dx, _, _, rfl, rfl, szA (a := dT x ++ ("-" : Str)) (b := dT x) lxd lx', ?_⟩
    refine ⟨_, rfl, _, _, rfl, rfl, x + 1, rfl, dx1, _, _, rfl, rfl, szA (a := dT (x + 1)) (by omega) (by decide), _, rfl, x, rfl, dx, _, _, rfl, rfl, szA (a := dT (x + 1) ++ ("-" : Str)) (b := dT x) lx1d lx', ?_⟩
    refine ⟨_, rfl, x, rfl, dx, _, _, rfl, rfl, szA (b := dT x) (by decide) lx', ?_⟩
    refine ⟨_, rfl, x, rfl, dx, _, _, rfl, rfl, szA (a := dT x) lx' (by decide), ?_⟩
    refine ⟨by show 8 ≤ sizeLine; decide, fun l1 h1 => ?_⟩
    have s1 := same_lay (o := .lst [.str ("" : Str), .str (("0" : Str) ++ dT x), .str ((dT x ++ ("-" : Str)) ++ dT x), .str ((dT (x + 1) ++ ("-" : Str)) ++ dT x), .str (("-" : Str) ++ dT x), .str (dT x ++ ("-" : Str)), .str ("x" : Str), .str ("+3" : Str)]) h1
    have hl1 : (upd H1 l1 (.lst [.str ("" : Str), .str (("0" : Str) ++ dT x), .str ((dT x ++ ("-" : Str)) ++ dT x), .str ((dT (x + 1) ++ ("-" : Str)) ++ dT x), .str (("-" : Str) ++ dT x), .str (dT x ++ ("-" : Str)), .str ("x" : Str), .str ("+3" : Str)])) l1 = _ := upd_same
    refine ⟨_, rfl, _, _, rfl, rfl, hpow, _, _, rfl, rfl, _, rfl, big1, ?_⟩
    refine ⟨_, _, rfl, rfl, hpow, _, _, rfl, rfl, _, rfl, big5, _, _, rfl, rfl, szA (b := dT (10 ^ 30 + 5)) (by decide) l5, ?_⟩
    refine ⟨_, rfl, x, rfl, dx, _, _, rfl, rfl, szA (a := dT x) lx' (by decide), ?_⟩
    refine ⟨by show 8 ≤ sizeLine; decide, fun l2 h2 => ?_⟩
    have s2 := same_lay (o := .lst [.str (dT (10 ^ 30 + 1)), .str (("7-" : Str) ++ dT (10 ^ 30 + 5)), .str ("1-2-3" : Str), .str ("00" : Str), .str ("2-03" : Str), .str ("-" : Str), .str (dT x ++ ("-x" : Str)), .str ("3," : Str)]) h2
    have hA1 := s2 _ _ hl1
    refine ⟨l1, l2, _, _, rfl, rfl, hA1, upd_same, by show 8 + 8 ≤ sizeLine; decide, fun l3 h3 => ?_⟩
    have S2 := s1.trans s2
    have hS1 := F1.seq hP hS
    -- with the last one
    have go : ∀ b : Str, BadS b → (k = 0 → b ≠ ("none" : Str)) → ∀ v : V, v ∈ (bads x).map V.str ++ [.str b] → ∃ w : Str, v = .str w ∧ BadS w ∧ (k = 0 → w ≠ ("none" : Str)) := fun b hb hb0 v hv => by
      rcases List.mem_append.mp hv with h | h
      · obtain ⟨w, hw, rfl⟩ := List.mem_map.mp h
        exact ⟨w, rfl, (bads_bad x0 x1 w hw).1, fun _ => (bads_bad x0 x1 w hw).2⟩
      · exact ⟨b, List.mem_singleton.mp h, hb, hb0⟩
    rcases Nat.eq_zero_or_pos k with hk0 | hk0
    · have ng : ¬ ((k : Nat) : Int) > 0 := by omega
      refine ⟨_, rfl, .inl ⟨rfl, _, .inl (.inl upd_same)⟩, _, rfl, _, _, rfl, rfl, _, rfl, ite2 (fun e => absurd (of_decide_eq_true e) ng) (fun _ => ?_)⟩
      refine ⟨l3, _, _, rfl, rfl, upd_same, small1000 (by show 16 ≤ 1000; decide), ?_⟩
      rw [upd_upd]
      have s3 := same_lay (o := .lst ((bads x).map V.str ++ [.str ("None" : Str)])) h3
      have S3 := S2.trans s3
      refine ⟨_, rfl, _, _, rfl, rfl, _, rfl, ite2 (fun e => absurd (of_decide_eq_true e) ng) (fun _ => ?_)⟩
      refine ⟨_, rfl, _, rfl, p, l3, (bads x).map V.str ++ [.str ("None" : Str)], _, rfl, .inl (.inl upd_same), by show 0 < 17; decide, by show 17 ≤ 1000; decide, P1.same' S3, by omega, fun v H5 hv P5 F5 => ?_⟩
      obtain ⟨w, rfl, hw1, hw2⟩ := go _ bad18 (fun _ => by decide) v hv
      exact q w H5 (.inl ⟨hw1, hw2⟩) (P5.mono (by omega)) (F1.trans ((frmS S3).trans F5))
    · have gt : ((k : Nat) : Int) > 0 := by omega
      refine ⟨_, rfl, .inl ⟨rfl, _, .inl (.inl upd_same)⟩, _, rfl, _, _, rfl, rfl, _, rfl, ite2 (fun _ => ?_) (fun e => absurd (decide_eq_true gt) e)⟩
      refine ⟨l3, _, _, rfl, rfl, upd_same, small1000 (by show 16 ≤ 1000; decide), ?_⟩
      rw [upd_upd]
      have s3 := same_lay (o := .lst ((bads x).map V.str ++ [.str ("none" : Str)])) h3
      have S3 := S2.trans s3
      have hl3 : ∀ G : Hp, (upd G l3 (.lst ((bads x).map V.str ++ [.str ("none" : Str)]))) l3 = some (.lst ((bads x).map V.str ++ [.str ("none" : Str)])) := fun G => upd_same
      obtain ⟨w0, hw0⟩ : ∃ w0, ws[k - 1]? = some w0 := ⟨_, List.getElem?_eq_getElem (show k - 1 < ws.length by omega)⟩
      have hat : atI (ws.map V.str) ((k : Int) - 1) = some (.str w0) := by
        have : ((k : Int) - 1) = ((k - 1 : Nat) : Int) := by omega
        rw [this]
        exact atI_nat (by rw [List.getElem?_map, hw0]; rfl)
      refine ⟨_, rfl, _, _, rfl, rfl, _, rfl, ite2 (fun _ => ?_) (fun e => absurd (decide_eq_true gt) e)⟩
      refine ⟨_, rfl, _, rfl, _, rfl, _, rfl, _, _, rfl, rfl, a, _, _, _, rfl, rfl, S3.seq hS1, hat, _, rfl, _, rfl, _, _, rfl, rfl, a, _, _, _, rfl, rfl, S3.seq hS1, hat, by show 2 ≤ sizeLine; decide, fun l4 h4 => ?_⟩
      have s4 := same_lay (o := .lst [.str w0, .str w0]) h4
      refine ⟨l3, l4, _, _, rfl, rfl, s4 _ _ (hl3 _), upd_same, by show 17 + 2 ≤ sizeLine; decide, fun l5 h5 => ?_⟩
      have s5 := same_lay (o := .lst (((bads x).map V.str ++ [.str ("none" : Str)]) ++ [.str w0, .str w0])) h5
      have S5 := (S3.trans s4).trans s5
      refine ⟨p, l5, ((bads x).map V.str ++ [.str ("none" : Str)]) ++ [.str w0, .str w0], _, rfl, .inl (.inl upd_same), by show 0 < 19; decide, by show 19 ≤ 1000; decide, P1.same' S5, by omega, fun v H6 hv P6 F6 => ?_⟩
      have FF := F1.trans ((frmS S5).trans F6)
      rcases List.mem_append.mp hv with h | h
      · obtain ⟨w, rfl, hw1, hw2⟩ := go _ bad17 (fun e => by omega) v h
        exact q w H6 (.inl ⟨hw1, hw2⟩) (P6.mono (by omega)) FF
      · have ev : v = .str w0 := by
          simp only [List.mem_cons, List.not_mem_nil, or_false] at h
          rcases h with h | h <;> exact h
        subst ev
        exact q w0 H6 (.inr ⟨hk0, hw0⟩) (P6.mono (by omega)) FF
end
end OR

namespace OR
open PySem PySem.Spec PyProof.Rows L2
open TL (tl numL)
theorem Frm.putNew {p d : Addr} {H H2 : Hp} {xs : List V} {o : HO} (f : Frm p H H2) (nd : H d = none) (h : H2 d = some (.lst xs)) : Frm p H (upd H2 d o) := ⟨fun b u e nb => by rw [upd_ne (ne_of_none e nd)]; exact f _ _ e nb, fun c hc => by
  obtain ⟨k, l', e⟩ := f.ce c hc
  exact ⟨k, l', by rw [upd_ne (ne_of e h (by intro z; cases z))]; exact e⟩⟩
theorem ixN_in {n : Nat} {r : Int} (h0 : 0 ≤ r) (h1 : r < n) : ixN n r = some r.toNat := by
  unfold ixN
  rw [if_pos h0, if_pos h1]
theorem ixN_nat {n j : Nat} (h : j < n) : ixN n (j : Int) = some j := by
  have := ixN_in (n := n) (r := (j : Int)) (by omega) (by omega)
  rwa [Int.toNat_natCast] at this
theorem jn_one (w : Str) : jn [w] = w := by
  unfold jn
  rw [TL.join_eq]
  rfl
theorem textOf_one (r : Row) : textOf [r] = sT r := by
  unfold textOf
  rw [if_neg (by simp)]
  exact jn_one _
theorem refs_at {L : List ARow} {i : Nat} {z : ARow} (h : L[i]? = some z) : atI (refs L) (i : Int) = some (.ref z.1) := atI_nat (by unfold refs; rw [List.getElem?_map, h]; rfl)
theorem jn_sum {ws : List Str} (h : ∀ w ∈ ws, w.length ≤ 100) (hl : ws.length ≤ 100) : (ws.map (·.length)).sum + ws.length * (" " : Str).length ≤ 16777216 := by
  have h1 := sum_le ws 100 h
  have h2 : (" " : Str).length = 1 := by decide
  rw [h2]
  omega
/-- the words of rows, one of them spoilt -/
def besideW (rows : List Row) (j : Nat) (q : Row) : List Str := (rows.map sT).set j (dT (q.2 + 1))
def spBeside (K : PySem.W.Frag) : Sp := fun vs H Q _ => ∃ (p a : Addr) (L : List ARow) (n : Nat), vs = [.ref p, .ref a] ∧ H a = some (.lst (refs L)) ∧ AtR H L ∧ (∀ r ∈ rws L, okRow r = true) ∧ 1 < L.length ∧ L.length ≤ 100 ∧ Pen H p n ∧ n ≤ 900000 ∧
  ∀ (t : Addr) (j : Nat) (z : ARow) (H' : Hp), 0 < j → j < L.length → L[j - 1]? = some z → H' t = some (.tup [.str (jn (besideW (rws L) j z.2)), .int (j : Nat)]) → Pen H' p (n + 1) → Frm p H H' → Q (.ref t) H'
section
variable {P : Program} {w : World} {K : PySem.W.Frag} {mg : Str → Option Value} {base : Heap}
theorem scBe : FnScope ["_law_pen_here", "_law_rows", "_law_words", "_law_at", "_law_row"] ["_law_pen_here", "_law_rows"] (defScope sBeside) := ⟨rfl, rfl, rfl, by decide +kernel, rfl, by decide +kernel, by decide +kernel⟩
theorem ok_beside {f : Addr} {fd : FuncData} (F : Fun K "_law_beside" "_law_beside" sBeside f fd) (zS : mg "str" = none) (zL : mg "len" = none) (D : Cl P w K mg base 1 "_law_draw" ["_law_pen_here", "_law_many"] spDraw) (TO : Cl P w K mg base 1 "_law_text_of" ["_law_rows"] (spTextOf K)) :
    FnOk P w K mg base CX0 2 f fd ["_law_pen_here", "_law_rows"] (spBeside K) := by
  refine F.ok scBe (fun vs H Q E h => ?_) (fun cdv A outer s H vs Q E hr h => ?_)
  · obtain ⟨p, a, L, n, rfl, _⟩ := h
    rfl
  · obtain ⟨p, a, L, n, rfl, ha, hL, hok, hl1, hl2, hP, hn, q⟩ := h
    have nd := scBe.nd
    refine ⟨_, pss_cons (ps_par (i := 2) (j := 3) rfl nd rfl rfl (by decide) rfl rfl (pa_cons
          (pe_lc (own := [("_law_row", 4)]) (g := gName 4) (tt := tYes) rfl nd (pi_list (pv 1)) (blkOk_by (N := ["_law_pen_here", "_law_rows", "_law_words", "_law_at", "_law_row"]) (sc := defScope sBeside) (by decide +kernel))
            (fun _ _ _ _ _ => pg_name (i := 4) nd rfl (.inl rfl)) (fun _ _ _ _ _ => pts_nil) (fun _ _ _ _ _ => pe_cl TO hr (by decide) (by rfl) (pa_cons (pe_lst (pa_cons (pv 4) pa_nil)) pa_nil)))
          (pa_cons (pe_op op_add pe_int (pe_cl D hr (by decide) (by rfl) (pa_cons (pv 0) (pa_cons (pe_op op_sub (pe_callB call_len_seq (by rfl) zL PySem.boot_len (pa_cons (pv 1) pa_nil)) pe_int) pa_nil)))) pa_nil)) rfl)
      (pss_cons (ps_asg (pe_callTy call_str_int (by rfl) zS boot_strT (pa_cons (pe_op op_add (pe_ix (ix_any K rfl) (pe_ix ix_list (pv 1) (pe_op op_sub (pv 3) pe_int) (fun _ _ => rfl)) pe_int (fun _ _ => rfl)) pe_int) pa_nil)) (pg_sub (pv 2) (pv 3) set_list))
      (pss_one (ps_ret (pe_tup (pa_cons (pe_join pe_str (pv 2)) (pa_cons (pv 3) pa_nil)))))), ?_⟩
    have lR : (rws L).length = L.length := rws_len L
    obtain ⟨c0, hc0, hcn⟩ := hP.cells
    refine ⟨_, rfl, a, rfl, ⟨_, .inl (.inl ha)⟩, fun d hd => lc_list (K := K) (a := a) (xs := refs L) (fun i G => G d = some (.lst ((((rws L).take i).map sT).map V.str)) ∧ Same H G)
        ⟨upd_same, same_lay hd⟩ (fun i G _ ⟨_, s⟩ => .inl (.inl (s _ _ ha))) ?_ ?_⟩
    · rintro i y G hy ⟨hD2, sG⟩
      obtain ⟨z, hz, hzL, rfl⟩ := refs_get hy
      have hil : i < L.length := (List.getElem?_eq_some_iff.mp hz).1
      have ez := sG _ _ (hL z hzL)
      have okz := hok z.2 (mem_rws.mpr ⟨z.1, hzL⟩)
      have e1' : (rws L).take (i + 1) = (rws L).take i ++ [z.2] := by rw [List.take_add_one, rws_get hz]; rfl
      refine ⟨rfl, yesT ?_⟩
      refine ⟨_, rfl, by show 1 ≤ sizeLine; decide, fun l hl => ?_⟩
      have sl := same_lay (o := .lst [.ref z.1]) hl
      refine ⟨l, [z], rfl, .inl (.inl upd_same), fun q hq => ?_, fun r hr' => ?_, by show 1 ≤ 100; decide, fun G' sG' => ?_⟩
      · rw [List.mem_singleton.mp hq]
        exact sl _ _ ez
      · rw [List.mem_singleton.mp hr']
        exact okz
      · have S' := sG.trans (sl.trans sG')
        have hD3 := sG' _ _ (sl _ _ hD2)
        refine ⟨_, hD3, small1000 ?_, ?_, same_upd S' hd⟩
        · rw [List.length_map, List.length_map, List.length_take]
          omega
        · rw [upd_same, e1', List.map_append, List.map_append]
          show some (HO.lst (_ ++ [V.str (textOf [z.2])])) = _
          rw [textOf_one]
          rfl
    · rintro G ⟨hD2, sG⟩
      rw [refs_len, List.take_of_length_le (by rw [rws_len]; exact Nat.le_refl _)] at hD2
      have PG := hP.same' sG
      have haG := sG _ _ ha
      refine ⟨_, rfl, _, rfl, a, _, rfl, .inl (.inl (.inl haG)), _, _, rfl, rfl, p, _, n, rfl, ?_, ?_, PG, by omega, fun r H2 r0 r1 P2 F2 => ⟨_, _, rfl, rfl, _, _, rfl, ?_⟩⟩
      · show (0 : Int) < ((refs L).length : Int) - 1
        rw [refs_len]
        omega
      · refine Nat.lt_of_le_of_lt (show (((refs L).length : Int) - 1).natAbs ≤ 100 from ?_) (by decide)
        rw [refs_len]
        omega
      have r1' : r < (L.length : Int) - 1 := by rw [← refs_len L]; exact r1
      clear r1
      obtain ⟨j, ej⟩ : ∃ j : Nat, 1 + r = (j : Int) := ⟨(1 + r).toNat, by omega⟩
      have j0 : 0 < j := by omega
      have jL : j < L.length := by omega
      have F0 := (frmS (p := p) sG).trans F2
      have hD3 := F2.lst PG hD2
      have ha3 := F2.lst PG haG
      obtain ⟨z, hz⟩ : ∃ z, L[j - 1]? = some z := ⟨_, List.getElem?_eq_getElem (show j - 1 < L.length by omega)⟩
      have hzL := List.mem_of_getElem? hz
      have okz := okRow_iff (hok z.2 (mem_rws.mpr ⟨z.1, hzL⟩))
      have ez := (hL.frm F0 hP) z hzL
      have hat : atI (refs L) (1 + r - 1) = some (.ref z.1) := by
        have : (1 + r - 1 : Int) = ((j - 1 : Nat) : Int) := by omega
        rw [this]
        exact refs_at hz
      have g1 : atI [V.int z.2.1, .int z.2.2] 1 = some (.int z.2.2) := atI_nat (j := 1) rfl
      have hix : ixN (((rws L).map sT).map V.str).length (1 + r) = some j := by
        rw [ej]
        refine ixN_nat ?_
        rw [List.length_map, List.length_map, rws_len]
        exact jL
      refine ⟨_, rfl, _, rfl, _, _, rfl, rfl, a, _, _, _, rfl, rfl, .inl (.inl ha3), hat, z.1, _, 1, _, rfl, rfl, .inr (.inl (.inl ez)), g1, _, _, rfl, rfl, _, rfl, dlog (n := z.2.2 + 1) (by omega) (by omega), ?_⟩
      refine ⟨_, rfl, _, rfl, d, _, _, j, rfl, rfl, hD3, hix, ?_⟩
      have hset : (((rws L).map sT).map V.str).set j (.str (dT (z.2.2 + 1))) = (besideW (rws L) j z.2).map V.str := by
        unfold besideW
        rw [List.map_set]
      have hD4 : (upd H2 d (.lst ((((rws L).map sT).map V.str).set j (.str (dT (z.2.2 + 1)))))) d = some (.lst ((besideW (rws L) j z.2).map V.str)) := by rw [upd_same, hset]
      have F4 := F0.putNew (o := .lst ((((rws L).map sT).map V.str).set j (.str (dT (z.2.2 + 1))))) hd hD3
      have ncd : c0 ≠ d := fun e => hcn (by rw [e]; exact hd)
      have P4 := P2.put (o := .lst ((((rws L).map sT).map V.str).set j (.str (dT (z.2.2 + 1))))) (F0.ce c0 hc0) hD3 ncd
      refine ⟨⟨_, rfl⟩, _, rfl, _, d, _, rfl, rfl, .inl (.inl (.inl hD4)), ?_, _, rfl, by show 2 ≤ sizeLine; decide, fun t ht => ?_⟩
      · refine jn_sum (fun w hw => ?_) ?_
        · unfold besideW at hw
          rcases List.mem_or_eq_of_mem_set hw with h | h
          · obtain ⟨r, hr', e⟩ := List.mem_map.mp h
            rw [← e]
            exact Nat.le_trans (sT_len (hok r hr')) (by decide)
          · rw [h]
            exact Nat.le_trans (xl (x := z.2.2 + 1) (by omega) (by omega)) (by decide)
        · unfold besideW
          rw [List.length_set, List.length_map, rws_len]
          exact hl2
      · refine q t j z _ j0 jL hz ?_ (P4.same' (same_lay ht)) (F4.trans (frmS (same_lay ht)))
        rw [upd_same]
        show some (HO.tup [.str (jn (besideW (rws L) j z.2)), .int (1 + r)]) = _
        rw [ej]
end
end OR

namespace OR
open PySem PySem.Spec PyProof.Rows L2
open TL (tl numL)
/-! ### the law -/
structure Mt (P : Program) (w : World) (K : PySem.W.Frag) (mg : Str → Option Value) (base : Heap) (k : Nat) (C : Addr) (m : Str) (ps : List Str) (sp : Sp) : Prop where
  ex : ∃ (f : Addr) (fd : FuncData), Meth K C m f ∧ FnOk P w K mg base CX0 k f fd ps sp ∧ Binds K fd ps []
theorem pe_mt {X : Cx} {k j : Nat} {C : Addr} {m : Str} {ps : List Str} {sp : Sp} {o e : Expr} {es : List Expr} {ta : TE} {t : TA} {apos pos : Pos} {pl : Sem Bool} (M : Mt X.prog X.w X.K X.mg X.base k C m ps sp) (c : Cls X.K C) (hr : Room j X.A) (hk : k ≤ j) (he : PE X o ta) (ha : PA X (e :: es) t)
    (hst : starEach (e :: es) X.env = (false, eval e X.env) :: starEach es X.env := by rfl) (hpl : (backTo pos (starEach es X.env)).any (·.1) = false := by rfl)
    (ht : eval (.Call (.Attribute o m apos) (e :: es) [] pos) X.env = (do
      let ov ← eval o X.env
      standAt apos.atName
      let (f, first) ← holding [ov] (getMethod ov m pl)
      callWith pos f first (backTo pos (starEach (e :: es) X.env)) (backToKw pos (keywordEach [] X.env))) := by rfl) : PE X (.Call (.Attribute o m apos) (e :: es) [] pos) (tMeth C m sp [] E0 ta t) := by
  obtain ⟨f, fd, hm, F, hb⟩ := M.ex
  exact pe_meth he c hm F (hr.mono hk) hb .nil pass0 ha hst hpl ht
theorem mt_of {P : Program} {w : World} {K : PySem.W.Frag} {mg : Str → Option Value} {base : Heap} {C : Addr} {m m' qual : Str} {st : Stmt} {k : Nat} {ps : List Str} {sp : Sp} (a : MtAt K C m m' qual st)
    (hb : ∀ (kV doc pm : Value) (an : Option Addr) (cdv ct : Value) (us : List Value), us.length = ps.length → bindArgs (PySem.W.fnOf m qual (defArgs st) (defBody st) (defScope st) .none kV doc pm an cdv ct) ⟨us, []⟩ = pure (ps.zip us))
    (ok : ∀ f fd, Fun K m qual st f fd → FnOk P w K mg base CX0 k f fd ps sp) : Mt P w K mg base k C m' ps sp := by
  obtain ⟨f, fd, F, e, i, n⟩ := a.ex
  exact ⟨f, fd, ⟨e, i, F.kp⟩, ok f fd F, F.binds hb⟩
theorem eqT (l : List Row) : PyData.eqv (.tuple (l.map rowD)) (.tuple (l.map rowD)) = true := (eqv_rows l l).trans (decide_eq_true rfl)
theorem neV (v : V) : (!decide (v = v)) = false := by simp
def spLaw (K : PySem.W.Frag) : Sp := fun vs H Q _ => ∃ (a : Addr) (ns : List Int), vs = [.ref a] ∧ SqL K H a (ns.map V.int) ∧ ns.length ≤ 63 ∧ ∀ H', Q (.bl true) H'
theorem pe_mt0 {X : Cx} {k j : Nat} {C : Addr} {m : Str} {ps : List Str} {sp : Sp} {o : Expr} {ta : TE} {apos pos : Pos} {pl : Sem Bool} (M : Mt X.prog X.w X.K X.mg X.base k C m ps sp) (c : Cls X.K C) (hr : Room j X.A) (hk : k ≤ j) (he : PE X o ta)
    (ht : eval (.Call (.Attribute o m apos) [] [] pos) X.env = (do
      let ov ← eval o X.env
      standAt apos.atName
      let (f, first) ← holding [ov] (getMethod ov m pl)
      callWith pos f first (backTo pos (starEach [] X.env)) (backToKw pos (keywordEach [] X.env))) := by rfl) : PE X (.Call (.Attribute o m apos) [] [] pos) (tMeth C m sp [] E0 ta tNil) := by
  obtain ⟨f, fd, hm, F, hb⟩ := M.ex
  exact pe_meth0 he c hm F (hr.mono hk) hb .nil pass0 ht
/-- the words of a text of places -/
def RightW (ws : List Str) (rows : List Row) : Prop := (ws = [("none" : Str)] ∧ rows = []) ∨ (rows ≠ [] ∧ ws = rows.map sT)
structure Short (ws : List Str) : Prop where
  ne : ws ≠ []
  nb : ∀ w ∈ ws, noBlank w
  ln : ∀ w ∈ ws, w.length ≤ 100
  few : ws.length ≤ 100
theorem words_of {rows : List Row} (ok : ∀ r ∈ rows, okRow r = true) (hl : rows.length ≤ 90) : ∃ ws, RightW ws rows ∧ textOf rows = jn ws ∧ Short ws ∧ ws.length ≤ 90 := by
  by_cases h : rows = []
  · refine ⟨[("none" : Str)], .inl ⟨rfl, h⟩, ?_, ⟨by simp, ?_, ?_, by decide⟩, by decide⟩
    · unfold textOf
      rw [if_pos h, jn_one]
    · intro w hw
      rw [List.mem_singleton.mp hw]
      exact bad17.nb
    · intro w hw
      rw [List.mem_singleton.mp hw]
      exact bad17.len
  · refine ⟨rows.map sT, .inr ⟨h, rfl⟩, ?_, ⟨by simpa using h, ?_, ?_, by rw [List.length_map]; omega⟩, by rw [List.length_map]; exact hl⟩
    · unfold textOf
      rw [if_neg h]
    · intro w hw
      obtain ⟨r, hr, rfl⟩ := List.mem_map.mp hw
      obtain ⟨h1, h2, h3⟩ := okRow_iff (ok r hr)
      exact sT_noBlank h1 (by omega)
    · intro w hw
      obtain ⟨r, hr, rfl⟩ := List.mem_map.mp hw
      exact Nat.le_trans (sT_len (ok r hr)) (by decide)
theorem Nf.take {l : List Row} (h : Nf l) (j : Nat) : Nf (l.take j) := ⟨fun r hr => h.ok r (List.mem_of_mem_take hr), List.Pairwise.sublist (List.take_sublist j l) h.gap⟩
theorem reads_text {rows : List Row} {ws : List Str} (rw_ : RightW ws rows) (e : textOf rows = jn ws) (sh : Short ws) (nf : Nf rows) (ok : ∀ r ∈ rows, okRow r = true) : Reads1 (.str (textOf rows)) rows :=
  ⟨ws, by rw [e], sh.ne, sh.nb, sh.ln, sh.few, rw_.imp id fun h => ⟨h.2, nf, ok⟩⟩
theorem none_first {rows : List Row} {ws : List Str} (rw_ : RightW ws rows) (hr : rows ≠ []) (ok : ∀ r ∈ rows, okRow r = true) : ws[0]? ≠ some ("none" : Str) := by
  rcases rw_ with ⟨_, h⟩ | ⟨_, rfl⟩
  · exact absurd h hr
  · cases rows with
    | nil => exact absurd rfl hr
    | cons r l =>
      intro e
      exact sT_none (ok r List.mem_cons_self) (Option.some.inj e)
theorem fails_blank {K : PySem.W.Frag} {H : Hp} {rows : List Row} {ws : List Str} (rw_ : RightW ws rows) (e : textOf rows = jn ws) (sh : Short ws) (hl : ws.length ≤ 90) (nf : Nf rows) (ok : ∀ r ∈ rows, okRow r = true) : Fails1 K H (.str (textOf rows ++ (" " : Str))) ws.length := by
  refine .inr ⟨ws ++ [("" : Str)], ?_, by simp, ?_, ?_, by rw [List.length_append]; show ws.length + 1 ≤ 100; omega, ?_⟩
  · rw [e, jn_snoc _ sh.ne]
    refine congrArg V.str (str_ext ?_)
    rw [TL.tl_append (_ ++ _)]
    show _ = _ ++ []
    rw [List.append_nil]
  · intro w hw
    rcases List.mem_append.mp hw with h | h
    · exact sh.nb w h
    · rw [List.mem_singleton.mp h]; exact bad1.nb
  · intro w hw
    rcases List.mem_append.mp hw with h | h
    · exact sh.ln w h
    · rw [List.mem_singleton.mp h]; exact bad1.len
  · rcases rw_ with ⟨h1, h2⟩ | ⟨h1, h2⟩
    · exact .inl ⟨("" : Str), [], by rw [h1]; rfl, by rw [h1]; rfl⟩
    · refine .inr ⟨⟨rows, ("" : Str), ⟨?_, nf, ok⟩, ?_, .inl bad1.bad⟩, ?_⟩
      · rw [List.take_left, h2]
      · rw [List.getElem?_append_right (Nat.le_refl _), Nat.sub_self]
        rfl
      · have := none_first (ws := ws) (.inr ⟨h1, h2⟩) h1 ok
        rw [List.getElem?_append_left (List.length_pos_iff.mpr sh.ne)]
        exact this
/-- words with wrong ones at js -/
structure Spoil (ws cur : List Str) (js : List Nat) : Prop where
  len : cur.length = ws.length
  out : ∀ k, k ∉ js → cur[k]? = ws[k]?
  ins : ∀ k ∈ js, k < ws.length ∧ ∃ w, cur[k]? = some w ∧ ((BadS w ∧ (k = 0 → w ≠ ("none" : Str))) ∨ (0 < k ∧ ws[k - 1]? = some w))
theorem Spoil.start (ws : List Str) : Spoil ws ws [] := ⟨rfl, fun _ _ => rfl, fun _ h => nomatch h⟩
theorem Spoil.put {ws cur : List Str} {js : List Nat} {k : Nat} {w : Str} (h : Spoil ws cur js) (hk : k < ws.length) (hw : (BadS w ∧ (k = 0 → w ≠ ("none" : Str))) ∨ (0 < k ∧ ws[k - 1]? = some w)) : Spoil ws (cur.set k w) (js ++ [k]) := by
  refine ⟨by rw [List.length_set]; exact h.len, fun m hm => ?_, fun m hm => ?_⟩
  · have h1 : m ∉ js := fun z => hm (List.mem_append_left _ z)
    have h2 : k ≠ m := fun z => hm (List.mem_append_right _ (List.mem_singleton.mpr z.symm))
    rw [List.getElem?_set_ne h2]
    exact h.out m h1
  · by_cases e : k = m
    · subst e
      refine ⟨hk, w, ?_, hw⟩
      rw [List.getElem?_set_self (by rw [h.len]; exact hk)]
    · have hm' : m ∈ js := (List.mem_append.mp hm).elim id fun z => absurd (List.mem_singleton.mp z).symm e
      obtain ⟨a, w', b, c⟩ := h.ins m hm'
      exact ⟨a, w', by rw [List.getElem?_set_ne e]; exact b, c⟩
theorem Spoil.short {ws cur : List Str} {js : List Nat} (h : Spoil ws cur js) (sh : Short ws) : Short cur := by
  have nb : ∀ (k : Nat) (w : Str), cur[k]? = some w → noBlank w ∧ w.length ≤ 100 := fun k w e => by
    by_cases hk : k ∈ js
    · obtain ⟨_, w', e', hb⟩ := h.ins k hk
      rw [e] at e'
      cases e'
      rcases hb with ⟨hb, _⟩ | ⟨_, hb⟩
      · exact ⟨hb.nb, hb.len⟩
      · exact ⟨sh.nb w (List.mem_of_getElem? hb), sh.ln w (List.mem_of_getElem? hb)⟩
    · rw [h.out k hk] at e
      exact ⟨sh.nb w (List.mem_of_getElem? e), sh.ln w (List.mem_of_getElem? e)⟩
  refine ⟨fun e => sh.ne (List.length_eq_zero_iff.mp (by rw [← h.len, e]; rfl)), fun w hw => ?_, fun w hw => ?_, by rw [h.len]; exact sh.few⟩
  · obtain ⟨k, hk⟩ := List.mem_iff_getElem?.mp hw
    exact (nb k w hk).1
  · obtain ⟨k, hk⟩ := List.mem_iff_getElem?.mp hw
    exact (nb k w hk).2
theorem fails_cur {K : PySem.W.Frag} {H : Hp} {rows : List Row} {ws cur : List Str} {js : List Nat} {j : Nat} (rw_ : RightW ws rows) (sh : Short ws) (nf : Nf rows) (ok : ∀ r ∈ rows, okRow r = true) (sp : Spoil ws cur js) (hj : j ∈ js) (hle : ∀ k ∈ js, j ≤ k) :
    Fails1 K H (.str (jn cur)) j := by
  have sc := sp.short sh
  refine .inr ⟨cur, rfl, sc.ne, sc.nb, sc.ln, sc.few, .inr ⟨?_, ?_⟩⟩
  · obtain ⟨hjl, w, ew, hw⟩ := sp.ins j hj
    have tk : cur.take j = ws.take j := by
      refine List.ext_getElem? fun k => ?_
      by_cases hk : k < j
      · rw [List.getElem?_take_of_lt hk, List.getElem?_take_of_lt hk]
        exact sp.out k fun z => absurd (hle k z) (by omega)
      · rw [List.getElem?_eq_none (by rw [List.length_take]; omega), List.getElem?_eq_none (by rw [List.length_take]; omega)]
    rcases rw_ with ⟨h1, h2⟩ | ⟨h1, h2⟩
    · have j0 : j = 0 := by
        rw [h1] at hjl
        have : ([("none" : Str)] : List Str).length = 1 := rfl
        omega
      subst j0
      refine ⟨[], w, ⟨by simp, Nf.nil, fun _ z => nomatch z⟩, ew, ?_⟩
      rcases hw with ⟨hw, _⟩ | ⟨z, _⟩
      · exact .inl hw.bad
      · omega
    · refine ⟨rows.take j, w, ⟨by rw [tk, h2, List.map_take], nf.take j, fun r hr => ok r (List.mem_of_mem_take hr)⟩, ew, ?_⟩
      rcases hw with ⟨hw, _⟩ | ⟨j0, hw⟩
      · exact .inl hw.bad
      · rw [h2, List.getElem?_map] at hw
        cases hr : rows[j - 1]? with
        | none => rw [hr] at hw; cases hw
        | some r =>
          rw [hr] at hw
          have ew : sT r = w := Option.some.inj hw
          have hrm := List.mem_of_getElem? hr
          refine .inr ⟨r, r, ew.symm, ok r hrm, ?_, ?_⟩
          · rw [List.getLast?_eq_getElem?, List.length_take, List.getElem?_take_of_lt (by have := (List.getElem?_eq_some_iff.mp hr).1; omega)]
            have := (List.getElem?_eq_some_iff.mp hr).1
            rw [Nat.min_eq_left (by omega)]
            exact hr
          · have := nf.ok r hrm
            omega
  · by_cases h0 : 0 ∈ js
    · obtain ⟨_, w, ew, hw⟩ := sp.ins 0 h0
      rw [ew]
      rcases hw with ⟨_, hw⟩ | ⟨z, _⟩
      · exact fun e => hw rfl (Option.some.inj e)
      · omega
    · rw [sp.out 0 h0]
      by_cases hr : rows = []
      · rcases rw_ with ⟨h1, h2⟩ | ⟨h1, h2⟩
        · exfalso
          have hjl := (sp.ins j hj).1
          rw [h1] at hjl
          have : j = 0 := by
            have : ([("none" : Str)] : List Str).length = 1 := rfl
            omega
          exact h0 (this ▸ hj)
        · exact absurd hr h1
      · exact none_first rw_ hr ok
theorem fails_beside {K : PySem.W.Frag} {H : Hp} {rows : List Row} {j : Nat} {q : Row} (nf : Nf rows) (ok : ∀ r ∈ rows, okRow r = true) (hl : rows.length ≤ 90) (j0 : 0 < j) (jl : j < rows.length) (hq : rows[j - 1]? = some q) (lt : q.2 < lastP) :
    Fails1 K H (.str (jn (besideW rows j q))) j := by
  have okq := okRow_iff (ok q (List.mem_of_getElem? hq))
  have e1 : dT (q.2 + 1) = sT (q.2 + 1, q.2 + 1) := by unfold sT; rw [if_pos rfl]
  have okn : okRow (q.2 + 1, q.2 + 1) = true := okRow_of (by omega) (Int.le_refl _) (by omega)
  have all : ∀ w ∈ besideW rows j q, noBlank w ∧ w.length ≤ 100 := fun w hw => by
    unfold besideW at hw
    rcases List.mem_or_eq_of_mem_set hw with h | h
    · obtain ⟨r, hr, rfl⟩ := List.mem_map.mp h
      have o := okRow_iff (ok r hr)
      exact ⟨sT_noBlank o.1 (by omega), Nat.le_trans (sT_len (ok r hr)) (by decide)⟩
    · rw [h]
      exact ⟨dT_noBlank (by omega), Nat.le_trans (xl (x := q.2 + 1) (by omega) (by omega)) (by decide)⟩
  have lw : (besideW rows j q).length = rows.length := by unfold besideW; rw [List.length_set, List.length_map]
  refine .inr ⟨besideW rows j q, rfl, fun e => ?_, fun w hw => (all w hw).1, fun w hw => (all w hw).2, by omega, .inr ⟨⟨rows.take j, dT (q.2 + 1), ⟨?_, nf.take j, fun r hr => ok r (List.mem_of_mem_take hr)⟩, ?_, .inr ⟨(q.2 + 1, q.2 + 1), q, e1, okn, ?_, by omega⟩⟩, ?_⟩⟩
  · rw [e] at lw
    have : rows.length = 0 := lw.symm
    omega
  · unfold besideW
    rw [List.take_set_of_le (Nat.le_refl _), List.map_take]
  · unfold besideW
    rw [List.getElem?_set_self (by rw [List.length_map]; exact jl)]
  · rw [List.getLast?_eq_getElem?, List.length_take, Nat.min_eq_left (by omega), List.getElem?_take_of_lt (by omega)]
    exact hq
  · unfold besideW
    rw [List.getElem?_set_ne (by omega), List.getElem?_map]
    cases h0 : rows[0]? with
    | none => exact fun z => nomatch z
    | some r => exact fun z => sT_none (ok r (List.mem_of_getElem? h0)) (Option.some.inj z)
theorem min_of : ∀ {js : List Nat}, js ≠ [] → ∃ j ∈ js, ∀ k ∈ js, j ≤ k
  | [], h => absurd rfl h
  | [a], _ => ⟨a, List.mem_singleton.mpr rfl, fun k hk => by rw [List.mem_singleton.mp hk]; exact Nat.le_refl _⟩
  | a :: b :: r, _ => by
    obtain ⟨j, hj, hle⟩ := min_of (js := b :: r) (by simp)
    by_cases h : a ≤ j
    · refine ⟨a, List.mem_cons_self, fun k hk => ?_⟩
      rcases List.mem_cons.mp hk with e | e
      · omega
      · have := hle k e; omega
    · refine ⟨j, List.mem_cons_of_mem _ hj, fun k hk => ?_⟩
      rcases List.mem_cons.mp hk with e | e
      · omega
      · exact hle k e
theorem reads_last : Reads1 (.str (dT lastP)) [(lastP, lastP)] := by
  have e : dT lastP = sT (lastP, lastP) := by unfold sT; rw [if_pos rfl]
  refine ⟨[dT lastP], by rw [jn_one], by simp, ?_, ?_, by decide, .inr ⟨by rw [e]; rfl, ⟨fun r hr => by rw [List.mem_singleton.mp hr]; exact Int.le_refl _, List.pairwise_singleton _ _⟩, fun r hr => by rw [List.mem_singleton.mp hr]; decide +kernel⟩⟩
  · intro w hw
    rw [List.mem_singleton.mp hw]
    exact dT_noBlank (by decide)
  · intro w hw
    rw [List.mem_singleton.mp hw]
    exact Nat.le_trans (xl (x := lastP) (by decide) (by decide)) (by decide)
theorem reads_358 : Reads1 (.str ("3 5-6 8" : Str)) [(3, 3), (5, 6), (8, 8)] := by
  refine ⟨[("3" : Str), ("5-6" : Str), ("8" : Str)], by decide +kernel, by simp, ?_, ?_, by decide, .inr ⟨by decide +kernel, ⟨by decide, by decide⟩, by decide +kernel⟩⟩
  · intro w hw
    simp only [List.mem_cons, List.not_mem_nil, or_false] at hw
    rcases hw with e | e | e <;> subst e <;> exact nbs (by decide)
  · intro w hw
    simp only [List.mem_cons, List.not_mem_nil, or_false] at hw
    rcases hw with e | e | e <;> subst e <;> decide
theorem reads_none : Reads1 (.str ("none" : Str)) [] := ⟨[("none" : Str)], by rw [jn_one], by simp, fun w hw => by rw [List.mem_singleton.mp hw]; exact bad17.nb, fun w hw => by rw [List.mem_singleton.mp hw]; exact bad17.len, by decide, .inl ⟨rfl, rfl⟩⟩
theorem fails_empty {K : PySem.W.Frag} {H : Hp} : Fails1 K H (.str ("" : Str)) 0 :=
  .inr ⟨[("" : Str)], by rw [jn_one], by simp, fun w hw => by rw [List.mem_singleton.mp hw]; exact bad1.nb, fun w hw => by rw [List.mem_singleton.mp hw]; exact bad1.len, by decide,
    .inr ⟨⟨[], ("" : Str), ⟨rfl, Nf.nil, fun _ z => nomatch z⟩, rfl, .inl bad1.bad⟩, by decide⟩⟩
theorem fails_none3 {K : PySem.W.Frag} {H : Hp} : Fails1 K H (.str ("none 3" : Str)) 1 := by
  refine .inr ⟨[("none" : Str), ("3" : Str)], by decide +kernel, by simp, ?_, ?_, by decide, .inl ⟨("3" : Str), [], rfl, rfl⟩⟩
  · intro w hw
    simp only [List.mem_cons, List.not_mem_nil, or_false] at hw
    rcases hw with e | e <;> subst e <;> exact nbs (by decide)
  · intro w hw
    simp only [List.mem_cons, List.not_mem_nil, or_false] at hw
    rcases hw with e | e <;> subst e <;> decide
theorem fails_3none {K : PySem.W.Frag} {H : Hp} : Fails1 K H (.str ("3 none" : Str)) 1 := by
  refine .inr ⟨[("3" : Str), ("none" : Str)], by decide +kernel, by simp, ?_, ?_, by decide, .inr ⟨⟨[(3, 3)], ("none" : Str), ⟨by decide +kernel, ⟨by decide, by decide⟩, by decide +kernel⟩, rfl, .inl bad17.bad⟩, by decide⟩⟩
  · intro w hw
    simp only [List.mem_cons, List.not_mem_nil, or_false] at hw
    rcases hw with e | e <;> subst e <;> exact nbs (by decide)
  · intro w hw
    simp only [List.mem_cons, List.not_mem_nil, or_false] at hw
    rcases hw with e | e <;> subst e <;> decide
end OR

namespace OR
open PySem PySem.Spec PyProof.Rows L2
open TL (tl numL)
theorem frmAt {p q : Addr} {H H' : Hp} {o : HO} (f : Frm p H H') (h : H q = some o) (n : q ≠ p) : H' q = some o := f _ _ h n
def nV (j : Nat) : V := .int (j : Nat)
section
variable {P : Program} {w : World} {K : PySem.W.Frag} {mg : Str → Option Value} {base : Heap}
theorem scLaw : FnScope ["_law_script", "_law_pen_here", "_law_turn", "_law_rows", "_law_text", "_law_spoilt", "_law_at", "_law_words", "_law_places", "_law_again"] ["_law_script"] (defScope sLaw) := ⟨rfl, rfl, rfl, by decide +kernel, rfl, by decide +kernel, by decide +kernel⟩
theorem ok_law {f C : Addr} {fd : FuncData} (F : Fun K "law" "law" sLaw f fd) (B : Bd mg) (zS : mg "str" = none) (M : PMk' P w K mg base C)
    (TE : Mt P w K mg base 2 C "text" ["self"] (spPText C))
    (N : Cl P w K mg base 1 "_law_pen" ["_law_script"] (spPen K)) (DR : Cl P w K mg base 3 "_law_drawn" ["_law_pen_here", "_law_most"] spDrawn) (MG : Cl P w K mg base 1 "_law_merged" ["_law_rows"] (spMerged K))
    (D : Cl P w K mg base 1 "_law_draw" ["_law_pen_here", "_law_many"] spDraw) (PI : Cl P w K mg base 2 "_law_pick" ["_law_pen_here", "_law_items"] (spPick K))
    (TO : Cl P w K mg base 1 "_law_text_of" ["_law_rows"] (spTextOf K)) (WR : Cl P w K mg base 3 "_law_wrong" ["_law_pen_here", "_law_words", "_law_at"] (spWrong K))
    (BE : Cl P w K mg base 2 "_law_beside" ["_law_pen_here", "_law_rows"] (spBeside K)) (TD : Cl P w K mg base 7 "_law_told" ["_law_text"] (spTold K)) :
    FnOk P w K mg base CX0 8 f fd ["_law_script"] (spLaw K) := by
  have T := M.T
  refine F.ok scLaw (fun vs H Q E h => ?_) (fun cdv A outer s H vs Q E hr h => ?_)
  · obtain ⟨a, ns, rfl, _⟩ := h
    rfl
  · obtain ⟨sc, ns, rfl, hS, hlen, q⟩ := h
    have nd := scLaw.nd
    have hu := hu_of hr
    have hu64 : (A.deeper (envOfC "law" (defScope sLaw) s.heap.objs.size f cdv)).units + 64 < cLine := hr.units
    have hpow : CPow 10 30 := ⟨by decide, by decide, by decide⟩
    refine ⟨_, pss_cons (ps_set (i := 1) nd rfl (.inl rfl) (pe_cl N hr (by decide) (by rfl) (pa_cons (pv 0) pa_nil)))
      (pss_cons (ps_for PassesOwn.never rfl (pi_range1 (by rfl) B.range (pa_cons (pe_op op_add pe_int (pe_callB (call_min2 rfl) (by rfl) B.min bt_min (pa_cons pe_int (pa_cons (pe_callB call_len_seq (by rfl) B.len PySem.boot_len (pa_cons (pv 0) pa_nil)) pa_nil)))) pa_nil)) (pg_name (i := 2) nd rfl (.inl rfl))
        (pss_cons (ps_set (i := 3) nd rfl (.inl rfl) (pe_cl MG hr (by decide) (by rfl) (pa_cons (pe_cl DR hr (by decide) (by rfl) (pa_cons (pv 1) (pa_cons pe_int pa_nil))) pa_nil)))
        (pss_cons (ps_set (i := 4) nd rfl (.inl rfl) (pe_cl TO hr (by decide) (by rfl) (pa_cons (pv 3) pa_nil)))
        (pss_cons (ps_if (PW.pt (pw_or (pt_cmpR op_ne (pe_mt0 TE T.cl hr (by decide) (pe_mkP K rfl M hr (by decide) (by rfl) (pa_cons (pv 3) pa_nil))) (pv 4) (nomark _))
            (pw_or1 (pt_cmpR (op_neD hu64) (pe_cl TD hr (by decide) (by rfl) (pa_cons (pv 4) pa_nil)) (pe_callTy call_tuple_of (by rfl) T.zTup bt_tup (pa_cons (pv 3) pa_nil)) (nomark _))))) (pss_one (ps_ret pe_bl)) pss_nil)
        (Evl.pss_cut (ps_if (pt_cmpR op_gt (pe_callB call_len_seq (by rfl) B.len PySem.boot_len (pa_cons (pv 3) pa_nil)) pe_int (nomark _))
          (pss_cons (ps_asg (pe_cl BE hr (by decide) (by rfl) (pa_cons (pv 1) (pa_cons (pv 3) pa_nil))) (pg_tup rfl (pgs_cons (pg_name (i := 5) nd rfl (.inl rfl)) (pgs_cons (pg_name (i := 6) nd rfl (.inl rfl)) pgs_nil))))
          (pss_one (ps_if (PW.pt (pw_and (pt_cmpR op_lt (pe_ix (ix_any K rfl) (pe_ix ix_list (pv 3) (pe_op op_sub (pv 6) pe_int) (fun _ _ => rfl)) pe_int (fun _ _ => rfl)) (pe_op op_pow pe_int pe_int) (nomark _))
            (pw_and1 (pt_cmpR op_ne (pe_cl TD hr (by decide) (by rfl) (pa_cons (pv 5) pa_nil)) (pv 6) (nomark _))))) (pss_one (ps_ret pe_bl)) pss_nil))) pss_nil)
        (pss_cons (ps_par (i := 7) (j := 8) rfl nd rfl rfl (by decide) rfl rfl (pa_cons (pe_split (pv 4) pe_str) (pa_cons (pe_lst pa_nil) pa_nil)) rfl)
        (pss_cons (ps_for PassesOwn.never rfl (pi_range1 (by rfl) B.range (pa_cons (pe_op op_add pe_int (pe_cl D hr (by decide) (by rfl) (pa_cons (pv 1) (pa_cons pe_int pa_nil)))) pa_nil)) (pg_name (i := 9) nd rfl (.inl rfl))
          (pss_cons (ps_expr (pe_bm PySem.F.plainAttrs_list PySem.F.slot_list_append PySem.F.type_list_append mt_append (pv 8) (pa_cons (pe_cl D hr (by decide) (by rfl) (pa_cons (pv 1) (pa_cons (pe_callB call_len_seq (by rfl) B.len PySem.boot_len (pa_cons (pv 7) pa_nil)) pa_nil))) pa_nil)))
          (pss_one (ps_asg (pe_cl WR hr (by decide) (by rfl) (pa_cons (pv 1) (pa_cons (pe_split (pv 4) pe_str) (pa_cons (pe_ix ix_list (pv 8) (pe_un un_neg pe_int) (fun _ _ => rfl)) pa_nil)))) (pg_sub (pv 7) (pe_ix ix_list (pv 8) (pe_un un_neg pe_int) (fun _ _ => rfl)) set_list)))))
        (pss_cons (ps_if (pt_cmpR op_ne (pe_cl TD hr (by decide) (by rfl) (pa_cons (pe_join pe_str (pv 7)) pa_nil)) (pe_callB (cr_min rfl) (by rfl) B.min bt_min (pa_cons
            (pe_lc (own := [("_law_at", 6)]) (g := gName 6) (tt := tYes) rfl nd (pi_list (pv 8)) (blkOk_by (N := ["_law_script", "_law_pen_here", "_law_turn", "_law_rows", "_law_text", "_law_spoilt", "_law_at", "_law_words", "_law_places", "_law_again"]) (sc := defScope sLaw) (by decide +kernel))
              (fun _ _ _ _ _ => pg_name (i := 6) nd rfl (.inl rfl)) (fun _ _ _ _ _ => pts_nil) (fun _ _ _ _ _ => pe_callTy call_int1 (by rfl) B.int bt_int (pa_cons (pv 6) pa_nil))) pa_nil)) (nomark _)) (pss_one (ps_ret pe_bl)) pss_nil)
        (pss_cons (ps_if (pt_cmpR op_ne (pe_cl TD hr (by decide) (by rfl) (pa_cons (pe_op op_add_str (pv 4) pe_str) pa_nil)) (pe_callB call_len_seq (by rfl) B.len PySem.boot_len (pa_cons (pv 7) pa_nil)) (nomark _)) (pss_one (ps_ret pe_bl)) pss_nil)
        (pss_one (ps_if (pt_cmpR op_ne (pe_cl TD hr (by decide) (by rfl) (pa_cons (pe_cl PI hr (by decide) (by rfl) (pa_cons (pv 1) (pa_cons (pe_lst (pa_cons pe_non (pa_cons pe_int (pa_cons pe_int (pa_cons (pe_lst (pa_cons pe_str pa_nil))
            (pa_cons (pe_tup (pa_cons pe_str pa_nil)) (pa_cons pe_bl (pa_cons pe_dnewK (pa_cons (pe_lst pa_nil) (pa_cons (pv 3) pa_nil)))))))))) pa_nil))) pa_nil)) pe_int (nomark _)) (pss_one (ps_ret pe_bl)) pss_nil)))))))))))
      (pss_cons (ps_if (PW.pt (pw_or (pt_cmpR (op_neD hu64) (pe_cl TD hr (by decide) (by rfl) (pa_cons (pe_callTy call_str_int (by rfl) zS boot_strT (pa_cons (pe_op op_pow pe_int pe_int) pa_nil)) pa_nil)) (pe_tup (pa_cons (pe_tup (pa_cons (pe_op op_pow pe_int pe_int) (pa_cons (pe_op op_pow pe_int pe_int) pa_nil))) pa_nil)) (nomark _))
          (pw_or1 (pt_cmpR (op_neD hu64) (pe_cl TD hr (by decide) (by rfl) (pa_cons pe_str pa_nil)) (pe_tup (pa_cons (pe_tup (pa_cons pe_int (pa_cons pe_int pa_nil))) (pa_cons (pe_tup (pa_cons pe_int (pa_cons pe_int pa_nil))) (pa_cons (pe_tup (pa_cons pe_int (pa_cons pe_int pa_nil))) pa_nil)))) (nomark _))))) (pss_one (ps_ret pe_bl)) pss_nil)
      (pss_one (ps_ret (pe_and (pe_cmpR op_eq (pe_cl TD hr (by decide) (by rfl) (pa_cons pe_str pa_nil)) pe_int (nomark _)) (pe_and (pe_cmpR (op_eqD hu64) (pe_cl TD hr (by decide) (by rfl) (pa_cons pe_str pa_nil)) (pe_tup pa_nil) (nomark _))
          (pe_and (pe_cmpR op_eq (pe_cl TD hr (by decide) (by rfl) (pa_cons pe_str pa_nil)) pe_int (nomark _)) (pe_one (pe_cmpR op_eq (pe_cl TD hr (by decide) (by rfl) (pa_cons pe_str pa_nil)) pe_int (nomark _)))))))))), ?_⟩
    have kT : ∀ t f b : Addr, (pFl t f b).lookup ("text" : Str) = none := fun _ _ _ => pFl_no _ _ _ (by decide +kernel) (by decide +kernel) (by decide +kernel)
    refine ⟨_, rfl, sc, ns, rfl, hS, hlen, fun p H1 np P0 S0 => ?_⟩
    generalize hJ : (3 : Int) + (if ((ns.map V.int).length : Int) < 3 then ((ns.map V.int).length : Int) else 3) = J
    have hJb : 0 ≤ J ∧ J ≤ 6 := by
      subst hJ
      split <;> omega
    refine ⟨_, rfl, sc, _, rfl, .inl (S0.seq hS), 3, _, rfl, _, _, rfl, rfl, J, congrArg (fun z => [V.int z]) hJ, by omega, by omega, for_range (n := J.toNat) (fun i σ H2 => ∃ s2 s3 s4 s5 s6 s7 s8 s9, σ = [some (.ref sc), some (.ref p), s2, s3, s4, s5, s6, s7, s8, s9] ∧ Pen H2 p (10000 * i))
      ⟨none, none, none, none, none, none, none, none, rfl, P0⟩ ?_ ?_⟩
    · rintro i σ H2 hi ⟨s2, s3, s4, s5, s6, s7, s8, s9, rfl, P1⟩
      have hi6 : i < 6 := by omega
      refine ⟨_, rfl, p, 6, 10000 * i, rfl, by decide, P1, by omega, fun a0 L0 H3 na0 ha0 hL0 okL0 lenL0 P2 F2 => ?_⟩
      refine ⟨a0, L0, rfl, .inl (.inl ha0), hL0, okL0, by omega, fun a L H4 S4 no ha hL nfL meL lenL => ?_⟩
      have okL := ok_of_mem nfL meL okL0
      have P4 := P2.same' S4
      clear P2 F2 ha0 hL0 S4 no meL okL0 lenL0 P1 na0
      have lR : (rws L).length ≤ 90 := by rw [rws_len]; omega
      obtain ⟨ws, rgt, etx, sh, lws⟩ := words_of okL lR
      have b2 : ((" " : Str).length == 0) = false := by decide
      have tlen : (textOf (rws L)).length ≤ 15000 := by
        rw [etx]
        have := jn_len ws sh.ln
        omega
      refine ⟨_, rfl, a, L, rfl, .inl (.inl ha), hL, okL, by omega, fun H5 S5 => ?_⟩
      -- Places(rows).text() != text
      refine ⟨_, rfl, a, L, rfl, .inl (.inl (.inl (S5 _ _ ha))), by omega, (hL.same S5).pairs, okL, fun x l H6 nx hx mx _ S6 => ?_⟩
      obtain rfl : l = rws L := Nf.unique hx.nf nfL mx
      obtain ⟨_, dx, t6, f6, b6, M6, hx6, _⟩ := id hx
      refine ⟨x, dx, _, rfl, hx6, kT _ _ _, x, rws L, rfl, hx, okL, by omega, fun H7 S7 => ?_⟩
      refine ⟨_, rfl, rfl, _, rfl, ?_⟩
      rw [neV]
      refine iteF ?_
      -- read again
      refine ⟨_, rfl, _, rfl, .inl ⟨rws L, reads_text rgt etx sh nfL okL, fun t8 M8 H8 ht8 hM8 eM8 S8 => ?_⟩⟩
      have S58 := ((S5.trans S6).trans S7).trans S8
      refine ⟨_, rfl, a, refs L, rfl, .inl ⟨.inl (.inl (S58 _ _ ha)), fun tv ntv => ?_⟩⟩
      have sv := same_lay (o := .tup (refs L)) ntv
      have S9 := S58.trans sv
      refine ⟨.tuple ((rws M8).map rowD), .tuple ((rws L).map rowD), .tup (.inl (.inl (sv _ _ ht8))) (dp_rows (hM8.same sv)), .tup (.inl (.inl upd_same)) (dp_rows (hL.same S9)), shp_tup _, shp_tup _, _, rfl, ?_⟩
      rw [eM8, eqT]
      refine iteF ?_
      have ha9 := S9 _ _ ha
      have hL9 := hL.same S9
      have P9 := P4.same' S9
      generalize upd H8 tv (.tup (refs L)) = H9 at sv S9 ha9 hL9 P9
      clear S5 S6 S7 S8 S58 sv S9 ht8 hM8 hx mx nx hx6 ntv ha hL P4
      -- one word too near
      have gt1 : ∀ z : Int, (10 : Int) ^ (30 : Int).toNat = lastP := fun _ => rfl
      refine ⟨fun σ'' H'' => ∃ s5' s6', σ'' = [some (.ref sc), some (.ref p), some (.int (0 + i)), some (.ref a), some (.str (textOf (rws L))), s5', s6', s7, s8, s9] ∧ H'' a = some (.lst (refs L)) ∧ AtR H'' L ∧ Pen H'' p (10000 * i + 2000), ?_, ?_⟩
      · refine ⟨_, rfl, a, _, rfl, .inl (.inl (.inl ha9)), _, _, rfl, rfl, _, rfl, ite2 (fun e => ?_) (fun _ => ⟨s5, s6, rfl, ha9, hL9, P9.mono (by omega)⟩)⟩
        have hl1 : 1 < L.length := by
          have : ((refs L).length : Int) > 1 := of_decide_eq_true e
          rw [refs_len] at this
          omega
        refine ⟨_, rfl, _, rfl, p, a, L, _, rfl, ha9, hL9, okL, hl1, by omega, P9, by omega, fun t j z H10 j0 jL hz ht P10 F10 => ?_⟩
        have ha10 := F10.lst P9 ha9
        have hL10 := hL9.frm F10 P9
        refine ⟨t, _, rfl, .inl (.inl ht), rfl, _, _, rfl, _, _, rfl, rfl, ?_⟩
        have hzL := List.mem_of_getElem? hz
        have ez := hL10 z hzL
        have okz := okRow_iff (okL z.2 (mem_rws.mpr ⟨z.1, hzL⟩))
        have hat : atI (refs L) ((j : Int) - 1) = some (.ref z.1) := by
          have : ((j : Int) - 1) = ((j - 1 : Nat) : Int) := by omega
          rw [this]
          exact refs_at hz
        have g1 : atI [V.int z.2.1, .int z.2.2] 1 = some (.int z.2.2) := atI_nat (j := 1) rfl
        refine ⟨_, rfl, _, rfl, _, _, rfl, rfl, a, _, _, _, rfl, rfl, .inl (.inl ha10), hat, z.1, _, 1, _, rfl, rfl, .inr (.inl (.inl ez)), g1, _, _, rfl, rfl, hpow, _, _, rfl, rfl, _, rfl, ite2 (fun e2 => ?_) (fun _ => iteF ⟨_, _, rfl, ha10, hL10, P10.mono (by omega)⟩)⟩
        have lt : z.2.2 < lastP := of_decide_eq_true e2
        have hzr : (rws L)[j - 1]? = some z.2 := rws_get hz
        refine ⟨_, rfl, _, rfl, .inr ⟨j, fails_beside nfL okL lR j0 (by rw [rws_len]; exact jL) hzr lt, fun H11 S11 => ?_⟩⟩
        exact ⟨_, rfl, rfl, _, rfl, iteNS rfl ⟨_, _, rfl, S11 _ _ ha10, hL10.same S11, (P10.same' S11).mono (by omega)⟩⟩
      clear ha9 hL9 P9
      rintro σ'' H10 ⟨s5', s6', rfl, ha, hL, PA⟩
      -- words
      have hsp : Txt.split (textOf (rws L)) (" " : Str) = ws := by rw [etx]; exact split_jn sh.ne sh.nb
      refine ⟨_, rfl, ⟨_, rfl⟩, _, (" " : Str), rfl, rfl, b2, sz1 (by omega), fun wd nwd => ?_⟩
      refine ⟨Nat.zero_le _, fun pl npl => ⟨_, _, rfl, ?_⟩⟩
      obtain ⟨c0, hc0, hcn⟩ := PA.cells
      have T1 := same_lay (o := .lst ((Txt.split (textOf (rws L)) (" " : Str)).map V.str)) nwd
      have T2 := same_lay (o := .lst []) npl
      have T12 := T1.trans T2
      have hwd : (upd (upd H10 wd (.lst ((Txt.split (textOf (rws L)) (" " : Str)).map V.str))) pl (.lst [])) wd = some (.lst (ws.map V.str)) := T2 _ _ (by rw [upd_same, hsp])
      have hpl : (upd (upd H10 wd (.lst ((Txt.split (textOf (rws L)) (" " : Str)).map V.str))) pl (.lst [])) pl = some (.lst ([].map nV)) := upd_same
      have ncw : c0 ≠ wd := fun e => hcn (by rw [e]; exact nwd)
      have ncp : c0 ≠ pl := fun e => hcn (by rw [e]; exact T1.free npl)
      have nwp : wd ≠ pl := ne_of_none (by rw [upd_same]) npl
      have naw : a ≠ wd := ne_of_none ha nwd
      have nap : a ≠ pl := fun e => by rw [e] at ha; rw [T1 _ _ ha] at npl; cases npl
      have hcA := (frmS (p := p) T12).ce c0 hc0
      have haA := T12 _ _ ha
      have hLA := hL.same T12
      have PB := PA.same' T12
      generalize upd (upd H10 wd (.lst ((Txt.split (textOf (rws L)) (" " : Str)).map V.str))) pl (.lst []) = H11 at T2 T12 hwd hpl hcA haA hLA PB
      clear T1 T2 T12 nwd npl ha hL PA hc0 hcn
      have nLd : ∀ (G : Hp) (xs : List V) (o : Addr), AtR G L → G o = some (.lst xs) → ∀ q ∈ L, q.1 ≠ o := fun G xs o g ho q hq => ne_of (g q hq) ho (by intro z; cases z)
      refine ⟨_, rfl, p, 2, _, rfl, by decide, by decide, PB, by omega, fun r H12 r0 r1 P12 F12 => ⟨_, _, rfl, rfl, ?_⟩⟩
      refine ⟨1 + r, rfl, by omega, by omega, for_range (n := (1 + r).toNat) (fun m σ G => ∃ s9' cur js, σ = [some (.ref sc), some (.ref p), some (.int (0 + i)), some (.ref a), some (.str (textOf (rws L))), s5', s6', some (.ref wd), some (.ref pl), s9'] ∧ G a = some (.lst (refs L)) ∧ AtR G L ∧ G wd = some (.lst (cur.map V.str)) ∧ G pl = some (.lst (js.map nV)) ∧
          Spoil ws cur js ∧ js.length = m ∧ cellsAt G p c0 ∧ Pen G p (10000 * i + 2001 + 20 * m)) ⟨s9, ws, [], rfl, F12.lst PB haA, hLA.frm F12 PB, F12.lst PB hwd, F12.lst PB hpl, Spoil.start ws, rfl, F12.ce c0 hcA, P12⟩ ?_ ?_⟩
      · rintro m σ G hm ⟨s9', cur, js, rfl, ga, gL, gw, gp, spo, lj, gc, PG⟩
        have hm2 : m < 2 := by omega
        refine ⟨_, rfl, .inl ⟨rfl, _, .inl (.inl gp)⟩, _, rfl, _, rfl, wd, _, rfl, .inl (.inl (.inl gw)), p, _, _, rfl, ?_, ?_, PG, by omega, fun k0 G1 k00 k01 P1' F1' => ?_⟩
        · rw [List.length_map, spo.len]
          have := List.length_pos_iff.mpr sh.ne
          omega
        · refine Nat.lt_of_le_of_lt (show ((cur.map V.str).length : Int).natAbs ≤ 100 from ?_) (by decide)
          rw [List.length_map, spo.len]
          have := sh.few
          omega
        rw [List.length_map, spo.len] at k01
        obtain ⟨k, rfl⟩ : ∃ k : Nat, k0 = (k : Int) := ⟨k0.toNat, by omega⟩
        have kl : k < ws.length := by omega
        have ga1 := F1'.lst PG ga
        have gL1 := gL.frm F1' PG
        have gw1 := F1'.lst PG gw
        have gp1 := F1'.lst PG gp
        have gc1 := F1'.ce c0 gc
        refine ⟨pl, _, _, rfl, rfl, gp1, small1000 (by rw [List.length_map]; omega), ?_⟩
        have gpS : (upd G1 pl (.lst (js.map nV ++ [.int (k : Nat)]))) pl = some (.lst (js.map nV ++ [.int (k : Nat)])) := upd_same
        have gaS : (upd G1 pl (.lst (js.map nV ++ [.int (k : Nat)]))) a = some (.lst (refs L)) := by rw [upd_ne nap]; exact ga1
        have gwS : (upd G1 pl (.lst (js.map nV ++ [.int (k : Nat)]))) wd = some (.lst (cur.map V.str)) := by rw [upd_ne nwp]; exact gw1
        have gLS : AtR (upd G1 pl (.lst (js.map nV ++ [.int (k : Nat)]))) L := fun q hq => by rw [upd_ne (nLd _ _ _ gL1 gp1 q hq)]; exact gL1 q hq
        have PS := P1'.put (o := .lst (js.map nV ++ [.int (k : Nat)])) gc1 gp1 ncp
        have gcS : cellsAt (upd G1 pl (.lst (js.map nV ++ [.int (k : Nat)]))) p c0 := by
          obtain ⟨k', l', e⟩ := gc1
          exact ⟨k', l', by rw [upd_ne (ne_of e gp1 (by intro z; cases z))]; exact e⟩
        generalize upd G1 pl (.lst (js.map nV ++ [.int (k : Nat)])) = G2 at gpS gaS gwS gLS PS gcS
        -- a wrong word
        refine ⟨_, rfl, _, rfl, ⟨_, rfl⟩, _, (" " : Str), rfl, rfl, b2, sz1 (by omega), fun w2 nw2 => ?_⟩
        have U := same_lay (o := .lst ((Txt.split (textOf (rws L)) (" " : Str)).map V.str)) nw2
        have hw2 : (upd G2 w2 (.lst ((Txt.split (textOf (rws L)) (" " : Str)).map V.str))) w2 = some (.lst (ws.map V.str)) := by rw [upd_same, hsp]
        refine ⟨_, rfl, 1, rfl, pl, _, -1, _, rfl, rfl, .inl (.inl (U _ _ gpS)), atI_last _ _, ?_⟩
        refine ⟨p, w2, ws, k, _, rfl, .inl (.inl hw2), kl, PS.same' U, by omega, fun w G3 hw P3 F3 => ?_⟩
        have FF := (frmS (p := p) U).trans F3
        have ga3 := FF.lst PS gaS
        have gL3 := gLS.frm FF PS
        have gw3 := FF.lst PS gwS
        have gp3 := FF.lst PS gpS
        have gc3 := FF.ce c0 gcS
        have hix : ixN (cur.map V.str).length ((k : Nat) : Int) = some k := ixN_nat (by rw [List.length_map, spo.len]; exact kl)
        refine ⟨_, rfl, _, rfl, 1, rfl, pl, _, -1, _, rfl, rfl, .inl (.inl gp3), atI_last _ _, wd, _, _, k, rfl, rfl, gw3, hix, ?_⟩
        have eset : (cur.map V.str).set k (.str w) = (cur.set k w).map V.str := by rw [List.map_set]
        refine ⟨_, cur.set k w, js ++ [k], rfl, by rw [upd_ne naw]; exact ga3, fun q hq => by rw [upd_ne (nLd _ _ _ gL3 gw3 q hq)]; exact gL3 q hq, by rw [upd_same, eset], ?_, spo.put kl hw, by rw [List.length_append, lj]; rfl, ?_, (P3.put gc3 gw3 ncw).mono (by omega)⟩
        · rw [upd_ne nwp.symm, gp3, List.map_append]
          rfl
        · obtain ⟨k', l', e⟩ := gc3
          exact ⟨k', l', by rw [upd_ne (ne_of e gw3 (by intro z; cases z))]; exact e⟩
      · rintro σ G ⟨s9', cur, js, rfl, ga, gL, gw, gp, spo, lj, gc, PG⟩
        have jne : js ≠ [] := fun e => by
          rw [e] at lj
          have : (1 + r).toNat = 0 := lj.symm
          omega
        obtain ⟨j, hj, hle⟩ := min_of jne
        have shc := spo.short sh
        -- the first wrong word
        refine ⟨⟨_, rfl⟩, _, rfl, _, wd, cur, rfl, rfl, .inl (.inl (.inl gw)), jn_sum shc.ln shc.few, _, rfl, .inr ⟨j, fails_cur rgt sh nfL okL spo hj hle, fun G1 S1 => ?_⟩⟩
        have gp1 := S1 _ _ gp
        refine ⟨_, rfl, pl, rfl, ⟨_, .inl (.inl gp1)⟩, fun d hd => lc_list (K := K) (a := pl) (xs := js.map nV) (fun i G2 => G2 d = some (.lst ((js.take i).map nV)) ∧ Same G1 G2) ⟨upd_same, same_lay hd⟩ (fun i G2 _ ⟨_, s⟩ => .inl (.inl (s _ _ gp1))) ?_ ?_⟩
        · rintro i' y G2 hy ⟨hd2, sG⟩
          rw [List.getElem?_map] at hy
          cases hji : js[i']? with
          | none => rw [hji] at hy; cases hy
          | some k =>
          rw [hji] at hy
          cases hy
          have hil : i' < js.length := (List.getElem?_eq_some_iff.mp hji).1
          have e1 : js.take (i' + 1) = js.take i' ++ [k] := by rw [List.take_add_one, hji]; rfl
          refine ⟨rfl, yesT ?_⟩
          refine ⟨_, rfl, .inl ⟨_, rfl, _, hd2, small1000 ?_, ?_, same_upd sG hd⟩⟩
          · rw [List.length_map, List.length_take]
            omega
          · rw [upd_same, e1, List.map_append]
            rfl
        · rintro G2 ⟨hd2, sG⟩
          rw [List.length_map, List.take_of_length_le (Nat.le_refl _)] at hd2
          have hd3 : G2 d = some (.lst ((js.map fun k : Nat => (k : Int)).map V.int)) := by rw [hd2, List.map_map]; rfl
          refine ⟨d, _, rfl, .inl (.inl hd3), by rw [List.length_map]; exact List.length_pos_iff.mpr jne, fun mm hm hm2 => ?_⟩
          obtain ⟨k, hk, ek⟩ := List.mem_map.mp hm
          have hjm := hm2 (j : Int) (List.mem_map.mpr ⟨j, hj, rfl⟩)
          have hjk := hle k hk
          have emj : mm = ((j : Nat) : Int) := by omega
          refine ⟨rfl, _, rfl, iteNS (by rw [emj]) ?_⟩
          -- a blank behind
          have S2 := S1.trans sG
          refine ⟨_, rfl, _, _, rfl, rfl, sz1 (by show (textOf (rws L)).length + 1 ≤ 20000; omega), _, rfl, .inr ⟨ws.length, fails_blank rgt etx sh lws nfL okL, fun G3 S3 => ?_⟩⟩
          have SS := S2.trans S3
          refine ⟨_, rfl, wd, _, rfl, .inl (.inl (.inl (SS _ _ gw))), rfl, _, rfl, iteNS (by rw [List.length_map, spo.len]) ?_⟩
          have P3 := PG.same' SS
          have ga3 := SS _ _ ga
          clear S1 S2 S3 SS sG hd2 hd3 gp1 hd gw gp ga gL
          -- no texts
          refine ⟨_, rfl, by show 1 ≤ sizeLine; decide, fun l1 n1 => ?_⟩
          have v1 := same_lay (o := .lst [.str ("1" : Str)]) n1
          have a1 : (upd G3 l1 (.lst [.str ("1" : Str)])) l1 = _ := upd_same
          refine ⟨by show 1 ≤ sizeLine; decide, fun t1 n2 => ?_⟩
          have v2 := same_lay (o := .tup [.str ("3" : Str)]) n2
          have a2 := v2 _ _ a1
          have b2 : (upd (upd G3 l1 (.lst [.str ("1" : Str)])) t1 (.tup [.str ("3" : Str)])) t1 = _ := upd_same
          intro d1 n3
          have v3 := same_lay (o := .dK []) n3
          have a3 := v3 _ _ a2
          have b3 := v3 _ _ b2
          have c3 : (upd (upd (upd G3 l1 (.lst [.str ("1" : Str)])) t1 (.tup [.str ("3" : Str)])) d1 (.dK [])) d1 = _ := upd_same
          refine ⟨Nat.zero_le _, fun l2 n4 => ?_⟩
          have v4 := same_lay (o := .lst []) n4
          have a4 := v4 _ _ a3
          have b4 := v4 _ _ b3
          have c4 := v4 _ _ c3
          have d4 : (upd (upd (upd (upd G3 l1 (.lst [.str ("1" : Str)])) t1 (.tup [.str ("3" : Str)])) d1 (.dK [])) l2 (.lst [])) l2 = _ := upd_same
          refine ⟨_, rfl, by show 9 ≤ sizeLine; decide, fun l3 n5 => ?_⟩
          have v5 := same_lay (o := .lst [.non, .int 5, .int 0, .ref l1, .ref t1, .bl true, .ref d1, .ref l2, .ref a]) n5
          have a5 := v5 _ _ a4
          have b5 := v5 _ _ b4
          have c5 := v5 _ _ c4
          have d5 := v5 _ _ d4
          have SV := (((v1.trans v2).trans v3).trans v4).trans v5
          have ga5 := SV _ _ ga3
          have P5 := P3.same' SV
          obtain ⟨kvs, hp3⟩ := P3.dict
          have nd1 : d1 ≠ p := (ne_of_none (v2 _ _ (v1 _ _ hp3)) n3).symm
          have hp5 := SV _ _ hp3
          refine ⟨p, l3, _, _, rfl, .inl (.inl upd_same), by show 0 < 9; decide, by show 9 ≤ 1000; decide, P5, by omega, fun v G6 hv P6 F6 => ?_⟩
          have key : ∃ T : String, TyX K G6 v (.type T) ∧ kitB T "str" = some false := by
            simp only [List.mem_cons, List.not_mem_nil, or_false] at hv
            rcases hv with e | e | e | e | e | e | e | e | e <;> subst e
            · exact ⟨"NoneType", .base .non, by decide +kernel⟩
            · exact ⟨"int", .base (.int _), by decide +kernel⟩
            · exact ⟨"int", .base (.int _), by decide +kernel⟩
            · exact ⟨"list", .base (.lst (F6 _ _ a5 (ne_of a5 hp5 (by intro z; cases z)))), by decide +kernel⟩
            · exact ⟨"tuple", .base (.tup (F6 _ _ b5 (ne_of b5 hp5 (by intro z; cases z)))), by decide +kernel⟩
            · exact ⟨"bool", .base (.bl _), by decide +kernel⟩
            · exact ⟨"dict", .base (.dK (F6 _ _ c5 nd1)), by decide +kernel⟩
            · exact ⟨"list", .base (.lst (F6 _ _ d5 (ne_of d5 hp5 (by intro z; cases z)))), by decide +kernel⟩
            · exact ⟨"list", .base (.lst (F6 _ _ ga5 (ne_of ga5 hp5 (by intro z; cases z)))), by decide +kernel⟩
          obtain ⟨Tv, hT, hk⟩ := key
          refine ⟨_, rfl, .inr ⟨0, .inl ⟨Tv, hT, hk, rfl⟩, fun G7 S7 => ?_⟩⟩
          exact ⟨rfl, _, rfl, iteNS rfl ⟨_, _, _, _, _, _, _, _, rfl, (P6.same' S7).mono (by omega)⟩⟩
    · rintro σ H2 ⟨s2, s3, s4, s5, s6, s7, s8, s9, rfl, P1⟩
      have two : 2 ≤ sizeLine := by decide
      refine ⟨_, _, rfl, rfl, hpow, _, rfl, dlog (n := 10 ^ 30) (by decide) (by decide), _, rfl, .inl ⟨[(lastP, lastP)], reads_last, fun t M2 G ht hM eM S => ?_⟩⟩
      refine ⟨_, _, rfl, rfl, hpow, _, _, rfl, rfl, hpow, two, fun t1 n1 => ⟨by show 1 ≤ sizeLine; decide, fun t2 n2 => ?_⟩⟩
      have v1 := same_lay (o := .tup [.int (10 ^ (30 : Int).toNat), .int (10 ^ (30 : Int).toNat)]) n1
      have v2 := same_lay (o := .tup [.ref t1]) n2
      have v := v1.trans v2
      refine ⟨.tuple ((rws M2).map rowD), .tuple ([(lastP, lastP)].map rowD), .tup (.inl (.inl (v _ _ ht))) (dp_rows (hM.same v)), .tup (.inl (.inl upd_same)) (dp_rows (L := [(t1, (lastP, lastP))]) fun q hq => ?_), shp_tup _, shp_tup _, _, rfl, ?_⟩
      · rw [List.mem_singleton.mp hq]
        exact v2 _ _ upd_same
      rw [eM, eqT]
      refine iteF ?_
      clear v v1 v2 ht hM S
      refine ⟨_, rfl, .inl ⟨[(3, 3), (5, 6), (8, 8)], reads_358, fun t' M3 G3 ht hM eM3 S => ?_⟩⟩
      refine ⟨two, fun w1 m1 => ⟨two, fun w2 m2 => ⟨two, fun w3 m3 => ⟨by show 3 ≤ sizeLine; decide, fun w4 m4 => ?_⟩⟩⟩⟩
      have v1 := same_lay (o := .tup [.int 3, .int 3]) m1
      have v2 := same_lay (o := .tup [.int 5, .int 6]) m2
      have v3 := same_lay (o := .tup [.int 8, .int 8]) m3
      have v4 := same_lay (o := .tup [.ref w1, .ref w2, .ref w3]) m4
      have v := ((v1.trans v2).trans v3).trans v4
      refine ⟨.tuple ((rws M3).map rowD), .tuple ([(3, 3), (5, 6), (8, 8)].map rowD), .tup (.inl (.inl (v _ _ ht))) (dp_rows (hM.same v)), .tup (.inl (.inl upd_same)) (dp_rows (L := [(w1, (3, 3)), (w2, (5, 6)), (w3, (8, 8))]) fun q hq => ?_), shp_tup _, shp_tup _, _, rfl, ?_⟩
      · simp only [List.mem_cons, List.not_mem_nil, or_false] at hq
        rcases hq with e | e | e <;> subst e
        · exact v4 _ _ (v3 _ _ (v2 _ _ upd_same))
        · exact v4 _ _ (v3 _ _ upd_same)
        · exact v4 _ _ upd_same
      rw [eM3, eqT]
      refine iteF ?_
      clear v v1 v2 v3 v4 ht hM S
      refine ⟨_, rfl, .inr ⟨0, fails_empty, fun G4 S4 => ⟨rfl, _, rfl, ite2 (fun _ => ?_) (fun z => absurd (decide_eq_true rfl) z)⟩⟩⟩
      refine ⟨_, rfl, .inl ⟨[], reads_none, fun t5 M5 G5 ht5 hM5 eM5 S5 => ⟨Nat.zero_le _, fun u nu => ?_⟩⟩⟩
      have vu := same_lay (o := .tup []) nu
      refine ⟨.tuple ((rws M5).map rowD), .tuple [], .tup (.inl (.inl (vu _ _ ht5))) (dp_rows (hM5.same vu)), .tup (.inl (.inl upd_same)) .nil, shp_tup _, rfl, _, rfl, ?_⟩
      rw [eM5]
      refine iteT ?_
      refine ⟨_, rfl, .inr ⟨1, fails_none3, fun G6 S6 => ⟨rfl, _, rfl, ite2 (fun _ => ?_) (fun z => absurd (decide_eq_true rfl) z)⟩⟩⟩
      refine ⟨_, rfl, .inr ⟨1, fails_3none, fun G7 S7 => ⟨rfl, ?_⟩⟩⟩
      have e := q G7
      rw [show (true : Bool) = decide (V.int ((1 : Nat) : Int) = V.int 1) from (decide_eq_true rfl).symm] at e
      exact e
end
end OR

namespace OR
open PySem PySem.Spec PyProof.Rows L2
/-! ### what the top has left -/
/-- an __init__ whose last parameter may be left out: then it is the empty tuple at t0 -/
structure MtD (K : PySem.W.Frag) (C : Addr) (m qual : Str) (st : Stmt) : Prop where
  ex : ∃ f fd t0, FunD K m qual (defArgs st) (defBody st) (defScope st) [.ref t0] [] f fd ∧ PySem.W.findIn K (.ref C) m = some (some (.ref f)) ∧ PySem.W.isFn K (.ref f) = true ∧ ∀ H : Hp, SqT K H t0 []
theorem mtD {K : PySem.W.Frag} {h : Heap} {C : Addr} {m qual : Str} {st : Stmt} {f T t0 : Addr} {oc cT : Value} {od an dT d0 : Option Addr} {osl sT s0 : Array (Option Value)} {kV doc pm cdv ct : Value} {nT n0 : Nat} (_X : K.In h)
    (a : PySem.W.findIn K (.ref C) m = some (some (.ref f))) (l : K.lookup f = some ⟨oc, od, .func (PySem.W.fnOf m qual (defArgs st) (defBody st) (defScope st) (.ref T) kV doc pm an cdv ct), osl⟩)
    (lT : K.lookup T = some ⟨cT, dT, .seq #[.ref t0] nT, sT⟩) (l0 : K.lookup t0 = some ⟨.type "tuple", d0, .seq #[] n0, s0⟩)
    (c : PySem.W.codeIn K cdv qual = true) (k : PySem.W.keepIn K (.ref f) = true) (i : PySem.W.isFn K (.ref f) = true) : MtD K C m qual st :=
  ⟨f, _, t0, ⟨⟨oc, od, .ref T, kV, doc, pm, an, cdv, ct, osl, rfl, l, c, .inr ⟨by simp, T, _, [.ref t0], nT, rfl, lT, rfl, .cons rfl .nil⟩, .inl rfl⟩, k⟩, a, i, fun H => .inr ⟨_, #[], n0, l0, rfl, rfl, Nat.zero_le _, .nil⟩⟩
structure PAt (K : PySem.W.Frag) (C : Addr) : Prop where
  aC : PySem.W.nsIn K mainGlobals "Places" = some (some (.ref C))
  pg : PySem.W.plainGet K C Str.empty = true
  hd : PySem.W.hasDictIn K C = true
  po : PySem.W.plainOver K C = true
  sa : PySem.W.findIn K (.ref C) "__setattr__" = some (some (.builtin "object.__setattr__"))
  mks : PySem.W.makesIn K C = true
  kc : PySem.W.keepIn K (.ref C) = true
  nS : PySem.W.findIn K (.ref C) "stretches" = some none
  nF : PySem.W.findIn K (.ref C) "_firsts" = some none
  nB : PySem.W.findIn K (.ref C) "_before" = some none
  ca : PySem.W.findIn K (.ref C) "__class__" = some (some (.builtin "object.__class__"))
  cn : PySem.W.specialIn K (.builtin "object.__class__") "__get__" = some (some (.builtin "getset_descriptor.__get__"))
  ct : PySem.W.takesIn K (.builtin "object.__class__") = some true
  cm : PySem.W.mroIn K C (.type "object") = some true
  ne : PySem.W.findIn K (.ref C) "__ne__" = some (some (.builtin "object.__ne__"))
  sT : PySem.W.subIn K (.type "tuple") (.ref C) = some false
  sL : PySem.W.subIn K (.type "list") (.ref C) = some false
  kPP : PySem.W.kitOne K (.ref C) (.ref C) = some true
  kT : PySem.W.kitOne K (.type "tuple") (.ref C) = some false
  kL : PySem.W.kitOne K (.type "list") (.ref C) = some false
  sf : PySem.W.selfFirst K C = true
structure ZAt (K : PySem.W.Frag) : Prop where
  isi : PySem.W.nsIn K mainGlobals "isinstance" = some none
  int : PySem.W.nsIn K mainGlobals "int" = some none
  bool : PySem.W.nsIn K mainGlobals "bool" = some none
  tup : PySem.W.nsIn K mainGlobals "tuple" = some none
  list : PySem.W.nsIn K mainGlobals "list" = some none
  len : PySem.W.nsIn K mainGlobals "len" = some none
  max : PySem.W.nsIn K mainGlobals "max" = some none
  min : PySem.W.nsIn K mainGlobals "min" = some none
  sorted : PySem.W.nsIn K mainGlobals "sorted" = some none
  enum : PySem.W.nsIn K mainGlobals "enumerate" = some none
  range : PySem.W.nsIn K mainGlobals "range" = some none
  set : PySem.W.nsIn K mainGlobals "set" = some none
  abs : PySem.W.nsIn K mainGlobals "abs" = some none
theorem lastP_lit : lastP = 1000000000000000000000000000000 := by decide
theorem lp_of {p : Program} {lv : List (Str × PySem.W.WData)} {mg : Str → Option Value} {h : Heap} (X : PySem.W.XL p lv mg h) (hm : (("LAST_PLACE" : Str), PySem.W.WData.int 1000000000000000000000000000000) ∈ lv) : ∃ t, mg "LAST_PLACE" = some (.int lastP t) := by
  obtain ⟨v, hv, hr⟩ := X.2.val _ hm
  cases hr with
  | int i t => exact ⟨t, by rw [lastP_lit]; exact hv⟩
/-- walk_of, told besides what the top's loose names read -/
theorem walk_ofX {l : PySem.W.OpenLaw} {n k : Nat} {q : Program} {loose : List Str} {XP : (Str → Option Value) → Heap → Prop} {YP : World → Heap → Prop} {d : DefRec} {K : Params → PySem.W.Frag} {CX : World → CXT} {sp : World → Sp} {x : Str}
    (hn : l.most = some n) (hn2 : n ≤ sizeLine) (hdf : d.params.defaults = []) (hr : Room k callerA) (hY : ∀ (w : World) (h : Heap), YP w h → (K w.params).In h)
    (F : ∀ (w : World) (mg : Str → Option Value) (fa : Addr) (h : Heap), (K w.params).In h → h.Ns mainGlobals mg → XP mg h → mg d.name = some (.ref fa) →
      ∃ fd : FuncData, (∀ (s : Shared) (u : Value), BindsTo s fd ⟨[u], []⟩ [(x, u)]) ∧ ∀ base : Heap, (K w.params).In base → base.Ns mainGlobals mg → FnOk l.prog w (K w.params) mg base (CX w) k fa fd [x] (sp w))
    (hsp : ∀ (w : World) (H : Hp) (a : Addr) (ns : List Int), ns.length ≤ n → Only H → SqL (K w.params) H a (ns.map V.int) → sp w [.ref a] H (fun v _ => v = .bl true) fun _ _ _ => False)
    (hCX : ∀ (w : World) (H : Hp) (s : Shared) (e : Value) (s' : Shared), CX w [] H s (fun _ _ _ => False) e s' → False) : PySem.W.WalkO q loose XP YP l.row.toRowW d [] (fun f vs => PySem.call f vs) := by
  refine Att.attach_call hn hdf fun w s₀ s₁ mg mb fa o pm cd doc a vs ns G Y ho hd hcd hmg hobj hints hlen hg => ?_
  have KX := hY w _ Y
  obtain ⟨fd, hb, hF⟩ := F w mg fa _ KX G.T.g G.X hmg
  exact law_call KX G.T.g G.T.b G.T.builtins G.T.nolimit hg hobj hints (Nat.le_trans hlen hn2) hr hF hb (fun H hO hS => hsp w H a ns hlen hO hS) fun H e s' => hCX w H s₁ e s'
theorem PAt.txt {K : PySem.W.Frag} {C : Addr} {h : Heap} {mg : Str → Option Value} (L : PAt K C) (X : K.In h) (G : h.Ns mainGlobals mg) (Z : ZAt K) (lp : ∃ t, mg "LAST_PLACE" = some (.int lastP t)) : PTxt K mg C :=
  ⟨⟨L.pg, L.hd, L.po, L.sa⟩, L.nS, L.nF, L.nB, PySem.W.mg_of X G L.aC, ⟨L.ca, L.cn, L.ct, L.cm⟩, L.kPP, PySem.W.mg_none_of X G Z.isi, PySem.W.mg_none_of X G Z.int, PySem.W.mg_none_of X G Z.bool, PySem.W.mg_none_of X G Z.tup, PySem.W.mg_none_of X G Z.list,
    PySem.W.mg_none_of X G Z.len, PySem.W.mg_none_of X G Z.max, PySem.W.mg_none_of X G Z.sorted, PySem.W.mg_none_of X G Z.enum, lp⟩
theorem pmk_of {P : Program} {w : World} {K : PySem.W.Frag} {mg : Str → Option Value} {base : Heap} {C : Addr} (T : PTxt K mg C) (L : PAt K C) (mI : MtD K C "__init__" "Places.__init__" sPlInit)
    (S : Cl P w K mg base 3 "_is_stretch" ["value"] spIsStretchP) (J : Cl P w K mg base 1 "_joined" ["stretches"] (spJoined K)) (B : Cl P w K mg base 1 "_counts_before" ["stretches"] (spCounts K)) : PMk' P w K mg base C := by
  obtain ⟨f, fd, t0, F, a, i, ht⟩ := mI.ex
  obtain ⟨ds, r1, b1⟩ := F.binds1 (ps := ["self", "stretches"]) 2 1 (by simp) rfl fun T kV doc pm an cdv ct us its hu hi => match us, its, hu, hi with | [u, v], [x], _, _ => ⟨_, rfl, rfl⟩
  obtain ⟨es, r2, b2⟩ := F.binds1 (ps := ["self", "stretches"]) 1 0 (by simp) rfl fun T kV doc pm an cdv ct us its hu hi => match us, its, hu, hi with | [u], [x], _, _ => ⟨_, rfl, rfl⟩
  cases r1
  obtain ⟨u, rfl, ru⟩ := r2.one
  cases (show u = Value.ref t0 from ru)
  exact ⟨T, f, fd, t0, ⟨L.mks, a, i, L.kc⟩, ok_plinit F T S J B, b1, b2, ht⟩
end OR

namespace OR
open PySem PySem.Spec PyProof.Rows L2
open ClX
/-- an own error with one field, behind the top -/
structure ErAt (K : PySem.W.Frag) (x q fl : Str) (st : Stmt) (CB CR : Addr) : Prop where
  aB : PySem.W.nsIn K mainGlobals x = some (some (.ref CB))
  aR : PySem.W.nsIn K mainGlobals "RangesError" = some (some (.ref CR))
  cls : ∃ nm q N bs bm sn sub ab col dd k0 k1 k2 k3 k5, K.lookup CB = some (excClassObj nm q CB N bs bm true sn sub ab col dd k0 k1 k2 k3 k5 "ValueError.__new__") ∧ PySem.HandSPX.refsVE bm = true
  sa : PySem.W.findIn K (.ref CB) "__setattr__" = some (some (.builtin "object.__setattr__"))
  ga : PySem.W.findIn K (.ref CB) "__getattribute__" = some (some (.builtin "BaseException.__getattribute__"))
  gg : PySem.W.findIn K (.ref CB) "__getattr__" = some none
  noF : PySem.W.findIn K (.ref CB) fl = some none
  kC : PySem.W.keepIn K (.ref CB) = true
  exC : PySem.W.subIn K (.ref CB) (.type "BaseException") = some true
  tyC : PySem.W.typeIn K (.ref CB) = some (.type "type")
  hdC : PySem.W.hasDictIn K CB = true
  ca : PySem.W.findIn K (.ref CB) "__class__" = some (some (.builtin "object.__class__"))
  cn : PySem.W.specialIn K (.builtin "object.__class__") "__get__" = some (some (.builtin "getset_descriptor.__get__"))
  ct : PySem.W.takesIn K (.builtin "object.__class__") = some true
  cm : PySem.W.mroIn K CB (.type "object") = some true
  sub : PySem.W.subIn K (.ref CB) (.ref CB) = some true
  kR : PySem.W.kitOne K (.ref CB) (.ref CR) = some true
  init : ∃ f fd, Fun K "__init__" q st f fd ∧ PySem.W.findIn K (.ref CB) "__init__" = some (some (.ref f)) ∧ PySem.W.typeIn K (.ref f) = some (.type "function")
theorem erCls {K : PySem.W.Frag} {h : Heap} {CB : Addr} {nm q : Str} {N : Addr} {bs bm : List Value} {sn : List Str} {sub : List Value} {ab : Bool} {col : Option Bool} {dd : Option Addr} {m0 m1 m2 m3 m5 : Option Value} (_X : K.In h)
    (l : K.lookup CB = some (excClassObj nm q CB N bs bm true sn sub ab col dd m0 m1 m2 m3 m5 "ValueError.__new__")) (b : PySem.HandSPX.refsVE bm = true) :
    ∃ nm q N bs bm sn sub ab col dd k0 k1 k2 k3 k5, K.lookup CB = some (excClassObj nm q CB N bs bm true sn sub ab col dd k0 k1 k2 k3 k5 "ValueError.__new__") ∧ PySem.HandSPX.refsVE bm = true := ⟨nm, q, N, bs, bm, sn, sub, ab, col, dd, m0, m1, m2, m3, m5, l, b⟩
theorem erInit {K : PySem.W.Frag} {h : Heap} {CB f : Addr} {q : Str} {st : Stmt} {oc : Value} {od an : Option Addr} {osl : Array (Option Value)} {kV doc pm cdv ct : Value} (_X : K.In h) (a : PySem.W.findIn K (.ref CB) "__init__" = some (some (.ref f)))
    (l : K.lookup f = some ⟨oc, od, .func (PySem.W.fnOf "__init__" q (defArgs st) (defBody st) (defScope st) .none kV doc pm an cdv ct), osl⟩) (c : PySem.W.codeIn K cdv q = true) (k : PySem.W.keepIn K (.ref f) = true) (t : PySem.W.typeIn K (.ref f) = some (.type "function")) :
    ∃ f fd, Fun K "__init__" q st f fd ∧ PySem.W.findIn K (.ref CB) "__init__" = some (some (.ref f)) ∧ PySem.W.typeIn K (.ref f) = some (.type "function") := ⟨f, _, fun_mk l c k, a, t⟩
/-- a class's own method, behind the top -/
structure CmAt (K : PySem.W.Frag) (C : Addr) (m qual : Str) (st : Stmt) : Prop where
  ex : ∃ (mc : Value) (p g : Addr) (fd : FuncData), CRead K C mc ∧ CMet K C mc m p g ∧ Fun K m qual st g fd
theorem cmAt {K : PySem.W.Frag} {h : Heap} {C p g : Addr} {mc : Value} {rest : List Value} {m qual : Str} {st : Stmt} {oc : Value} {od an : Option Addr} {osl : Array (Option Value)} {kV doc pm cdv ct : Value} (_X : K.In h)
    (ty : PySem.W.typeIn K (.ref C) = some mc) (rd : PySem.W.readsIn K C mc = true) (ga : PySem.W.specialIn K (.ref C) "__getattribute__" = some (some (.builtin "type.__getattribute__")))
    (at_ : PySem.W.findCls K (.ref C) mc m = some (.get (.builtin "classmethod.__get__") (.ref p) .none (.ref C))) (rc : PySem.W.recIn K p "classmethod" = some (.ref g :: rest)) (fi : PySem.W.fnIn K g = true)
    (l : K.lookup g = some ⟨oc, od, .func (PySem.W.fnOf m qual (defArgs st) (defBody st) (defScope st) .none kV doc pm an cdv ct), osl⟩) (c : PySem.W.codeIn K cdv qual = true) (k : PySem.W.keepIn K (.ref g) = true) : CmAt K C m qual st :=
  ⟨mc, p, g, _, ⟨rd, ga⟩, ⟨at_, ⟨rest, rc⟩, fi⟩, fun_mk l c k⟩
theorem bt_of {P : Program} {w : World} {K : PySem.W.Frag} {mg : Str → Option Value} {base h : Heap} {CB CR : Addr} (X : K.In h) (G : h.Ns mainGlobals mg) (e : ErAt K "BadText" "BadText.__init__" "index" sBtInit CB CR) :
    ∃ fI fdI, BtTxt K mg CB CR fI ∧ FnOk P w K mg base CX0 1 fI fdI ["self", "index"] (spBtI CB) ∧ Binds K fdI ["self", "index"] [] := by
  obtain ⟨f, fd, F, i, t⟩ := e.init
  have T : BtTxt K mg CB CR f := ⟨PySem.W.mg_of X G e.aB, PySem.W.mg_of X G e.aR, ⟨e.cls, e.sa, e.exC, e.tyC, e.kC⟩, ⟨e.ga, e.gg, e.exC, e.hdC⟩, ⟨e.ga, e.gg, e.exC, e.hdC, e.ca, e.cn, e.ct, e.cm⟩, e.noF, i, t, PySem.W.exm_ref e.exC e.hdC e.tyC e.sub, e.kR⟩
  exact ⟨f, fd, T, ok_btinit F T, F.binds fun _ _ _ _ _ _ us hl => match us, hl with | [_, _], _ => rfl⟩
theorem bl_of {p : Program} {lv : List (Str × PySem.W.WData)} {mg : Str → Option Value} {h : Heap} (X : PySem.W.XL p lv mg h) (hm : (("_BLOCK" : Str), PySem.W.WData.int 1000000000000000000000000000000000000000000000000000000000000) ∈ lv) : ∃ t, mg "_BLOCK" = some (.int (10 ^ 60) t) := by
  obtain ⟨v, hv, hr⟩ := X.2.val _ hm
  cases hr with
  | int i t => exact ⟨t, by rw [show (10 : Int) ^ 60 = 1000000000000000000000000000000000000000000000000000000000000 by decide]; exact hv⟩
end OR

namespace OR
open PySem PySem.Spec PyProof.Rows L2
theorem all_mk {l : PySem.W.OpenLaw} {w : World} {K : PySem.W.Frag} {h : Heap} {mg : Str → Option Value} {fa C CB CR : Addr} (X : K.In h) (G : h.Ns mainGlobals mg) (hfa : mg "law" = some (.ref fa)) (L : PAt K C) (Z : ZAt K) (lp : ∃ t, mg "LAST_PLACE" = some (.int lastP t))
    (mI : MtD K C "__init__" "Places.__init__" sPlInit) (eB : ErAt K "BadText" "BadText.__init__" "index" sBtInit CB CR) (zStr : PySem.W.nsIn K mainGlobals "str" = some none) (zBD : ∃ t, PySem.W.nsIn K mainGlobals "_BLOCK_DIGITS" = some (some (.int 60 t))) (zBL : ∃ t, mg "_BLOCK" = some (.int (10 ^ 60) t)) (cR : CmAt K C "read" "Places.read" sPlRead) (fDI : FnAt K "is_integer" sIsInt) (fDP : FnAt K "is_place" sIsPlace) (fDS : FnAt K "_is_stretch" sIsStretch) (fDJ : FnAt K "_joined" sJoined) (fDC : FnAt K "_counts_before" sCounts) (fDST : FnAt K "_stretch_text" sSText) (fDRD : FnAt K "read_decimal" sRDec) (fDRP : FnAt K "read_place" sRPl) (fDRS : FnAt K "_read_stretch" sRStr) (fRSs : FnAt K "read_stretches" sRStrs) (mTE : MtAt K C "text" "text" "Places.text" sPlText) (fDPen : FnAt K "_law_pen" sPen) (fDDraw : FnAt K "_law_draw" sDraw) (fDPick : FnAt K "_law_pick" sPick) (fDSpot : FnAt K "_law_spot" sSpot) (fDDrawn : FnAt K "_law_drawn" sDrawn) (fDMerg : FnAt K "_law_merged" sMerged) (fDTO : FnAt K "_law_text_of" sTextOf) (fDWrong : FnAt K "_law_wrong" sWrong) (fDBe : FnAt K "_law_beside" sBeside) (fDTold : FnAt K "_law_told" sTold) (fLaw : FnAt K "law" sLaw) :
    ∃ fd : FuncData, (∀ (s : Shared) (v : Value), BindsTo s fd ⟨[v], []⟩ [("_law_script", v)]) ∧ ∀ base : Heap, K.In base → base.Ns mainGlobals mg → FnOk l.prog w K mg base CX0 8 fa fd ["_law_script"] (spLaw K) := by
  obtain ⟨f, fd, F, e⟩ := fLaw.ex
  have e := hfa.symm.trans (PySem.W.mg_of X G e)
  cases e
  refine ⟨fd, fun s v => ?_, fun base _ _ => ?_⟩
  · obtain ⟨oc, od, kV, doc, pm, an, cdv, ct, osl, rfl, _⟩ := F.ex
    exact .of_eq rfl
  have T : PTxt K mg C := L.txt X G Z lp
  have none : ∀ {x : Str}, PySem.W.nsIn K mainGlobals x = some none → mg x = none := fun z => PySem.W.mg_none_of X G z
  have B1 : Bl mg := ⟨none Z.int, none Z.len, none Z.abs, none Z.list⟩
  have B : Bd mg := ⟨none Z.range, none Z.min, none Z.max, none Z.int, none Z.len, none Z.list, none Z.set, none Z.sorted⟩
  obtain ⟨fI, fdI, BT, FB, bB⟩ := bt_of (P := l.prog) (w := w) (base := base) X G eB
  have ST : STxt mg := ⟨none zStr, none Z.int, none Z.len, none Z.enum, none Z.isi, lp⟩
  have NT : NTxt mg := ⟨none Z.len, none Z.range, none Z.int, zBD.imp fun t e => PySem.W.mg_of X G e, zBL⟩
  have DI : Cl l.prog w K mg base 1 "is_integer" ["value"] (spIsIntG K) := cl_of fDI X G (fun _ _ _ _ _ _ us hl => match us, hl with | [_], _ => rfl) fun f fd F => ok_isintG F T
  have DP : Cl l.prog w K mg base 2 "is_place" ["value"] (spIsPlace K) := cl_of fDP X G (fun _ _ _ _ _ _ us hl => match us, hl with | [_], _ => rfl) fun f fd F => ok_isplace F T DI
  have DS : Cl l.prog w K mg base 3 "_is_stretch" ["value"] spIsStretchP := cl_of fDS X G (fun _ _ _ _ _ _ us hl => match us, hl with | [_], _ => rfl) fun f fd F => ok_isstretch F T DP
  have DJ : Cl l.prog w K mg base 1 "_joined" ["stretches"] (spJoined K) := cl_of fDJ X G (fun _ _ _ _ _ _ us hl => match us, hl with | [_], _ => rfl) fun f fd F => ok_joined F T
  have DC : Cl l.prog w K mg base 1 "_counts_before" ["stretches"] (spCounts K) := cl_of fDC X G (fun _ _ _ _ _ _ us hl => match us, hl with | [_], _ => rfl) fun f fd F => ok_counts F T
  have M : PMk' l.prog w K mg base C := pmk_of T L mI DS DJ DC
  have DST : Cl l.prog w K mg base 1 "_stretch_text" ["first", "last"] spSText := cl_of fDST X G (fun _ _ _ _ _ _ us hl => match us, hl with | [_, _], _ => rfl) fun f fd F => ok_stext F ST
  have DRD : Cl l.prog w K mg base 1 "read_decimal" ["text"] spRDec := cl_of fDRD X G (fun _ _ _ _ _ _ us hl => match us, hl with | [_], _ => rfl) fun f fd F => ok_rdec F NT
  have DRP : Cl l.prog w K mg base 3 "read_place" ["text"] spRPl := cl_of fDRP X G (fun _ _ _ _ _ _ us hl => match us, hl with | [_], _ => rfl) fun f fd F => ok_rpl F DRD DP
  have DRS : Cl l.prog w K mg base 4 "_read_stretch" ["word"] spRStr := cl_of fDRS X G (fun _ _ _ _ _ _ us hl => match us, hl with | [_], _ => rfl) fun f fd F => ok_rstr F DRP
  have RSs : ClE l.prog w K mg base 5 "read_stretches" ["words", "begin", "end", "last"] (spRStrs K CB) := clE_of fRSs X G (fun _ _ _ _ _ _ us hl => match us, hl with|[_, _, _, _], _ => rfl) fun f fd F => ok_rstrs F (none Z.range) BT FB bB DRS
  have TE : Mt l.prog w K mg base 2 C "text" ["self"] (spPText C) := mt_of mTE (fun _ _ _ _ _ _ us hl => match us, hl with | [_], _ => rfl) fun f fd F => ok_ptext F T DST
  obtain ⟨mc, pc, gf, gfd, cRd, cMt, gF⟩ := cR.ex
  have FR : FnR l.prog w K mg base (L2.CX l.prog w) 6 gf (spRead K C CB) := fnR_ofX (ok_read gF ST M BT FB bB RSs) (gF.binds fun _ _ _ _ _ _ us hl => match us, hl with|[_, _], _ => rfl)
  have DPen : Cl l.prog w K mg base 1 "_law_pen" ["_law_script"] (spPen K) := cl_of fDPen X G (fun _ _ _ _ _ _ us hl => match us, hl with | [_], _ => rfl) fun f fd F => ok_pen F B1
  have DDraw : Cl l.prog w K mg base 1 "_law_draw" ["_law_pen_here", "_law_many"] spDraw := cl_of fDDraw X G (fun _ _ _ _ _ _ us hl => match us, hl with | [_, _], _ => rfl) fun f fd F => ok_draw F B1
  have DPick : Cl l.prog w K mg base 2 "_law_pick" ["_law_pen_here", "_law_items"] (spPick K) := cl_of fDPick X G (fun _ _ _ _ _ _ us hl => match us, hl with | [_, _], _ => rfl) fun f fd F => ok_pick F B1 DDraw
  have DSpot : Cl l.prog w K mg base 2 "_law_spot" ["_law_pen_here"] spSpot := cl_of fDSpot X G (fun _ _ _ _ _ _ us hl => match us, hl with | [_], _ => rfl) fun f fd F => ok_spot F DDraw
  have DDrawn : Cl l.prog w K mg base 3 "_law_drawn" ["_law_pen_here", "_law_most"] spDrawn := cl_of fDDrawn X G (fun _ _ _ _ _ _ us hl => match us, hl with | [_, _], _ => rfl) fun f fd F => ok_drawn F B DDraw DPick DSpot
  have DMerg : Cl l.prog w K mg base 1 "_law_merged" ["_law_rows"] (spMerged K) := cl_of fDMerg X G (fun _ _ _ _ _ _ us hl => match us, hl with | [_], _ => rfl) fun f fd F => ok_merged F B
  have DTO : Cl l.prog w K mg base 1 "_law_text_of" ["_law_rows"] (spTextOf K) := cl_of fDTO X G (fun _ _ _ _ _ _ us hl => match us, hl with | [_], _ => rfl) fun f fd F => ok_textof F (none zStr)
  have DWrong : Cl l.prog w K mg base 3 "_law_wrong" ["_law_pen_here", "_law_words", "_law_at"] (spWrong K) := cl_of fDWrong X G (fun _ _ _ _ _ _ us hl => match us, hl with | [_, _, _], _ => rfl) fun f fd F => ok_wrong F (none zStr) DSpot DPick
  have DBe : Cl l.prog w K mg base 2 "_law_beside" ["_law_pen_here", "_law_rows"] (spBeside K) := cl_of fDBe X G (fun _ _ _ _ _ _ us hl => match us, hl with | [_, _], _ => rfl) fun f fd F => ok_beside F (none zStr) (none Z.len) DDraw DTO
  have DTold : Cl l.prog w K mg base 7 "_law_told" ["_law_text"] (spTold K) := cl_of fDTold X G (fun _ _ _ _ _ _ us hl => match us, hl with | [_], _ => rfl) fun f fd F => ok_told F T BT cRd cMt FR
  exact ok_law F B (none zStr) M TE DPen DDrawn DMerg DDraw DPick DTO DWrong DBe DTold
end OR
open PySem PySem.W PyProof.Rows
set_option maxRecDepth 100000 in
set_option maxHeartbeats 0 in
theorem PySem.Challenge.cw_openranges_k06_texts_of_places_holds : PySem.Challenge.rw_openranges_k06_texts_of_places.Holds := by
  w_on; o_law; k_head; (case hw => w_witness2)
  k_fill
  refine OR.walk_ofX (l := PySem.Challenge.rw_openranges_k06_texts_of_places) (n := 63) (k := 8) (x := "_law_script") (CX := fun _ => L2.CX0) (sp := fun w => OR.spLaw _) rfl (by decide) rfl ⟨rfl, by decide, by decide⟩ (fun w h Y => PySem.W.kIn_of Y) ?F (fun _ _ a ns hl _ hS => ⟨a, ns, rfl, hS, hl, fun _ => rfl⟩) (fun _ _ _ _ _ h => h)
  case F =>
    intro w mg fa h KX G XL hmg
    refine' OR.all_mk KX G hmg ?L ?Z (OR.lp_of XL (List.Mem.head _)) ?mI ?eB ?zStr ?zBD ?zBL ?cR ?fDI ?fDP ?fDS ?fDJ ?fDC ?fDST ?fDRD ?fDRP ?fDRS ?fRSs ?mTE ?fDPen ?fDDraw ?fDPick ?fDSpot ?fDDrawn ?fDMerg ?fDTO ?fDWrong ?fDBe ?fDTold ?fLaw
    case zBL => exact OR.bl_of XL (List.Mem.tail _ (List.Mem.head _))
    all_goals try clear hmg XL
    case L =>
      refine' OR.PAt.mk ?aC ?pg ?hd ?po ?sa ?mks ?kc ?nS ?nF ?nB ?ca ?cn ?ct ?cm ?ne ?sT ?sL ?kPP ?kT ?kL ?sf
      (case aC => k_is); (case pg => k_is); (case hd => k_is); (case po => k_is); (case sa => k_is); (case mks => k_is); (case kc => k_is); (case nS => k_is); (case nF => k_is); (case nB => k_is); (case ca => k_is); (case cn => k_is); (case ct => k_is); (case cm => k_is); (case ne => k_is); (case sT => k_is); (case sL => k_is); (case kPP => kit_is); (case kT => kit_is); (case kL => kit_is); (case sf => k_is)
    case Z =>
      refine' OR.ZAt.mk ?isi ?int ?bool ?tup ?list ?len ?max ?min ?sorted ?enum ?range ?set ?abs
      (case isi => k_is); (case int => k_is); (case bool => k_is); (case tup => k_is); (case list => k_is); (case len => k_is); (case max => k_is); (case min => k_is); (case sorted => k_is); (case enum => k_is); (case range => k_is); (case set => k_is); (case abs => k_is)
    case mI => refine' OR.mtD KX ?a ?l ?lT ?l0 ?c ?k ?i; (case a => k_is); (case l => k_is); (case lT => k_is); (case l0 => k_is); (case c => k_is); (case k => k_is); (case i => k_is)
    case eB => refine' OR.ErAt.mk ?aB ?aR ?cls ?sa ?ga ?gg ?noF ?kC ?exC ?tyC ?hdC ?ca ?cn ?ct ?cm ?sub ?kR ?init; (case aB => k_is); (case aR => k_is); (case cls => refine' OR.erCls KX ?l ?b; (case l => k_is); (case b => decide +kernel)); (case sa => k_is); (case ga => k_is); (case gg => k_is); (case noF => k_is); (case kC => k_is); (case exC => k_is); (case tyC => k_is); (case hdC => k_is); (case ca => k_is); (case cn => k_is); (case ct => k_is); (case cm => k_is); (case sub => first | rfl | k_is); (case kR => kit_is); (case init => refine' OR.erInit KX ?a ?l ?c ?k ?t; (case a => k_is); (case l => k_is); (case c => k_is); (case k => k_is); (case t => k_is))
    case zStr => k_is
    case zBD => exact ⟨_, by k_is⟩
    case cR => refine' OR.cmAt KX ?ty ?rd ?ga ?at_ ?rc ?fi ?l ?c ?k; (case ty => k_is); (case rd => k_is); (case ga => k_is); (case at_ => k_is); (case rc => k_is); (case fi => k_is); (case l => k_is); (case c => k_is); (case k => k_is)
    case fDI => refine' OR.fnAt KX ?a ?l ?c ?k; (case a => k_is); (case l => k_is); (case c => k_is); (case k => k_is)
    case fDP => refine' OR.fnAt KX ?a ?l ?c ?k; (case a => k_is); (case l => k_is); (case c => k_is); (case k => k_is)
    case fDS => refine' OR.fnAt KX ?a ?l ?c ?k; (case a => k_is); (case l => k_is); (case c => k_is); (case k => k_is)
    case fDJ => refine' OR.fnAt KX ?a ?l ?c ?k; (case a => k_is); (case l => k_is); (case c => k_is); (case k => k_is)
    case fDC => refine' OR.fnAt KX ?a ?l ?c ?k; (case a => k_is); (case l => k_is); (case c => k_is); (case k => k_is)
    case fDST => refine' OR.fnAt KX ?a ?l ?c ?k; (case a => k_is); (case l => k_is); (case c => k_is); (case k => k_is)
    case fDRD => refine' OR.fnAt KX ?a ?l ?c ?k; (case a => k_is); (case l => k_is); (case c => k_is); (case k => k_is)
    case fDRP => refine' OR.fnAt KX ?a ?l ?c ?k; (case a => k_is); (case l => k_is); (case c => k_is); (case k => k_is)
    case fDRS => refine' OR.fnAt KX ?a ?l ?c ?k; (case a => k_is); (case l => k_is); (case c => k_is); (case k => k_is)
    case fRSs => refine' OR.fnAt KX ?a ?l ?c ?k; (case a => k_is); (case l => k_is); (case c => k_is); (case k => k_is)
    case mTE => refine' OR.mtAt KX ?a ?l ?c ?k ?i ?n; (case a => k_is); (case l => k_is); (case c => k_is); (case k => k_is); (case i => k_is); (case n => k_is)
    case fDPen => refine' OR.fnAt KX ?a ?l ?c ?k; (case a => k_is); (case l => k_is); (case c => k_is); (case k => k_is)
    case fDDraw => refine' OR.fnAt KX ?a ?l ?c ?k; (case a => k_is); (case l => k_is); (case c => k_is); (case k => k_is)
    case fDPick => refine' OR.fnAt KX ?a ?l ?c ?k; (case a => k_is); (case l => k_is); (case c => k_is); (case k => k_is)
    case fDSpot => refine' OR.fnAt KX ?a ?l ?c ?k; (case a => k_is); (case l => k_is); (case c => k_is); (case k => k_is)
    case fDDrawn => refine' OR.fnAt KX ?a ?l ?c ?k; (case a => k_is); (case l => k_is); (case c => k_is); (case k => k_is)
    case fDMerg => refine' OR.fnAt KX ?a ?l ?c ?k; (case a => k_is); (case l => k_is); (case c => k_is); (case k => k_is)
    case fDTO => refine' OR.fnAt KX ?a ?l ?c ?k; (case a => k_is); (case l => k_is); (case c => k_is); (case k => k_is)
    case fDWrong => refine' OR.fnAt KX ?a ?l ?c ?k; (case a => k_is); (case l => k_is); (case c => k_is); (case k => k_is)
    case fDBe => refine' OR.fnAt KX ?a ?l ?c ?k; (case a => k_is); (case l => k_is); (case c => k_is); (case k => k_is)
    case fDTold => refine' OR.fnAt KX ?a ?l ?c ?k; (case a => k_is); (case l => k_is); (case c => k_is); (case k => k_is)
    case fLaw => refine' OR.fnAt KX ?a ?l ?c ?k; (case a => k_is); (case l => k_is); (case c => k_is); (case k => k_is)
